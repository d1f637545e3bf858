import PyProof.Rows.All
import Wide.All
import OpenK.AllK
import Wide.FinOn
import Lean
import PyProof.EqAt
import PyProof.EqKinds
import PyProof.TupleCall
import PySem.Challenge.RW_mirrorruns_k35_whole_all_together
set_option Elab.async false
set_option linter.all false
set_option maxRecDepth 100000
/-! THE HAND LAYER, for ints, bools, texts, own classes, LISTS and tuples (index, slices, in, append, pop ..), calls, loops. Paste it whole ahead of your own text; what your proof does not reach may be deleted. -/
namespace L2
open PySem PySem.Spec PyProof.Rows

/-- a key: an int or a str -/
abbrev Key := Sum Int Str
def keyIs : Key → Value → Bool
  | .inl k, v => Value.isInt k v
  | .inr x, v => Value.isStrOf x v
def keyH (w : World) : Key → Int
  | .inl k => hashInt k
  | .inr x => hashStr w x
theorem keyIs_shape : ∀ {k : Key} {v : Value}, keyIs k v = true → (∃ i t, k = Sum.inl i ∧ v = Value.int i t) ∨ (∃ x t, k = Sum.inr x ∧ v = Value.str x t)
  | .inl i, v, h => by
    obtain ⟨t, e⟩ := Value.isInt_shape (k := i) (v := v) h
    exact .inl ⟨i, t, rfl, e⟩
  | .inr x, v, h => by
    obtain ⟨t, e⟩ := Value.isStrOf_shape (x := x) (v := v) h
    exact .inr ⟨x, t, rfl, e⟩
theorem keyIs_int (i : Int) (t : Tok) : keyIs (.inl i) (.int i t) = true := by simp [keyIs, Value.isInt]
theorem keyIs_str (x : Str) (t : Tok) : keyIs (.inr x) (.str x t) = true := by simp [keyIs, Value.isStrOf]
theorem key_ll (a b : Int) : decide ((Sum.inl a : Key) = Sum.inl b) = (a == b) := by
  by_cases e : a = b
  · subst e; simp
  · have h : ¬ (Sum.inl a : Key) = Sum.inl b := fun q => e (Sum.inl.inj q)
    rw [decide_eq_false h]
    exact (beq_eq_false_iff_ne.mpr e).symm
theorem key_rr (a b : Str) : decide ((Sum.inr a : Key) = Sum.inr b) = decide (a = b) := by
  by_cases e : a = b
  · subst e; simp
  · have h : ¬ (Sum.inr a : Key) = Sum.inr b := fun q => e (Sum.inr.inj q)
    rw [decide_eq_false h, decide_eq_false e]
theorem key_lr (a : Int) (b : Str) : decide ((Sum.inl a : Key) = Sum.inr b) = false := decide_eq_false (fun q => nomatch q)
theorem key_rl (a : Str) (b : Int) : decide ((Sum.inr a : Key) = Sum.inl b) = false := decide_eq_false (fun q => nomatch q)

def mixKind (prog : Program) (w : World) : PySem.KeyKind prog w Key where
  is := keyIs
  hash := keyH w
  inj := fun v a b ha hb => by
    rcases keyIs_shape ha with ⟨i, t, rfl, rfl⟩ | ⟨x, t, rfl, rfl⟩
    · rcases keyIs_shape hb with ⟨j, u, rfl, e⟩ | ⟨y, u, rfl, e⟩
      · injection e with e1 _; rw [e1]
      · exact nomatch e
    · rcases keyIs_shape hb with ⟨j, u, rfl, e⟩ | ⟨y, u, rfl, e⟩
      · exact nomatch e
      · injection e with e1 _; rw [e1]
  byValue := fun k v h => by
    rcases keyIs_shape h with ⟨i, t, rfl, rfl⟩ | ⟨x, t, rfl, rfl⟩ <;> rfl
  pyHash := fun hv h => by
    rcases keyIs_shape hv with ⟨i, t, rfl, rfl⟩ | ⟨x, t, rfl, rfl⟩
    · exact wpAny_pyHash_int h
    · exact wpAny_pyHash_str h
  eqBool := fun hu hv h => by
    rcases keyIs_shape hu with ⟨i, t, rfl, rfl⟩ | ⟨x, t, rfl, rfl⟩
    · rcases keyIs_shape hv with ⟨j, u, rfl, rfl⟩ | ⟨y, u, rfl, rfl⟩
      · rw [key_ll] at h; exact wpAny_eqBool_int h
      · rw [key_lr] at h; exact SeqAt.EqAt.int_str i t y u _ _ _ _ h
    · rcases keyIs_shape hv with ⟨j, u, rfl, rfl⟩ | ⟨y, u, rfl, rfl⟩
      · rw [key_rl] at h; exact SeqAt.EqAt.str_int x t j u _ _ _ _ h
      · rw [key_rr] at h; exact wpAny_eqBool_str h
  «strs» := fun k x t v h => by
    rcases keyIs_shape h with ⟨i, u, rfl, e⟩ | ⟨y, u, rfl, e⟩
    · exact nomatch e
    · injection e with e1 _
      subst e1
      cases v <;> rfl

theorem mixKind_is (prog : Program) (w : World) (k : Key) (v : Value) : (mixKind prog w).is k v = keyIs k v := rfl
theorem mixKind_int (prog : Program) (w : World) (i : Int) (t : Tok) : (mixKind prog w).is (.inl i) (.int i t) = true := keyIs_int i t
theorem mixKind_str (prog : Program) (w : World) (x : Str) (t : Tok) : (mixKind prog w).is (.inr x) (.str x t) = true := keyIs_str x t
end L2

namespace L2
open PySem PySem.Spec PyProof.Rows

/-- a value, without the heap -/
inductive V where
  | non | bl (b : Bool) | int (i : Int) | str (x : Str) | byt (b : Array UInt8) | flt (b : UInt64) | ref (a : Addr) | ty (n : String)
  deriving DecidableEq

def RelV : V → Value → Prop
  | .non, u => u = Value.none
  | .bl b, u => u = Value.bool b
  | .int i, u => ∃ t, u = Value.int i t
  | .str x, u => ∃ t, u = Value.str x t
  | .byt b, u => ∃ t, u = Value.bytes b t
  | .flt b, u => ∃ t, u = Value.float b t
  | .ref a, u => u = Value.ref a
  | .ty n, u => u = Value.type n

abbrev Vals : List V → List Value → Prop := Paired RelV
theorem Vals.length {xs : List V} {us : List Value} (r : Vals xs us) : xs.length = us.length := Paired.length r
theorem Vals.get : ∀ {xs : List V} {us : List Value} {i : Nat} {x : V}, Vals xs us → xs[i]? = some x → ∃ u, us[i]? = some u ∧ RelV x u
  | _, _, _, _, .nil, e => by simp at e
  | _, _, 0, _, .cons r _, e => by simp at e; subst e; exact ⟨_, rfl, r⟩
  | _, _, i + 1, x, .cons _ t, e => by
    obtain ⟨u, h1, h2⟩ := Vals.get (i := i) (x := x) t (by simpa using e)
    exact ⟨u, by simpa using h1, h2⟩
theorem Vals.set {x : V} {u : Value} (r : RelV x u) : ∀ {xs : List V} {us : List Value} (i : Nat), Vals xs us → Vals (xs.set i x) (us.set i u)
  | _, _, _, .nil => .nil
  | _, _, 0, .cons _ t => .cons r t
  | _, _, i + 1, .cons q t => .cons q (Vals.set r i t)
theorem Vals.append : ∀ {xs ys : List V} {us ws : List Value}, Vals xs us → Vals ys ws → Vals (xs ++ ys) (us ++ ws)
  | _, _, _, _, .nil, s => s
  | _, _, _, _, .cons r t, s => .cons r (Vals.append t s)
theorem Vals.take : ∀ {xs : List V} {us : List Value} (n : Nat), Vals xs us → Vals (xs.take n) (us.take n)
  | _, _, 0, _ => .nil
  | _, _, _ + 1, .nil => .nil
  | _, _, n + 1, .cons r t => .cons r (Vals.take n t)
theorem Vals.drop : ∀ {xs : List V} {us : List Value} (n : Nat), Vals xs us → Vals (xs.drop n) (us.drop n)
  | _, _, 0, r => r
  | _, _, _ + 1, .nil => .nil
  | _, _, n + 1, .cons _ t => Vals.drop n t
def RelO : Option V → Option Value → Prop
  | some v, some u => RelV v u
  | none, none => True
  | _, _ => False
def KV {κ : Type} : List (κ × V) → List (κ × Value) → Prop := Paired fun (p : κ × V) (q : κ × Value) => p.1 = q.1 ∧ RelV p.2 q.2

/-- a key of a dict (00_mix): an int or a text -/
def kV : Key → V
  | .inl i => .int i
  | .inr x => .str x

/-- what stands at a tracked address -/
inductive HO where
  /-- a list -/
  | lst (xs : List V)
  /-- a tuple (never changes) -/
  | tup (xs : List V)
  /-- a dict whose keys are ints and texts; one whose keys are tuples of ints and texts (the empty one is both) -/
  | dK (kvs : List (Key × V)) | dT (kvs : List (List Key × V))
  /-- a set of ints: its members, its size -/
  | set (S : Int → Bool) (n : Nat)
  /-- an instance of the class at C, its dict at dx, its attributes -/
  | ins (C dx : Addr) (fs : List (Str × V))
  /-- the dict of the instance at x -/
  | own (x : Addr)
  /-- the dict of an exception -/
  | xd (fs : List (Str × V))
  /-- a bound method, f of x -/
  | met (f x : Addr)
  /-- a range object lo, lo + 1, .. below hi -/
  | rng (lo hi : Int)
  /-- a thing that is known to the object (the script; a dict while a loop walks it): read, never written while it is so -/
  | frz (o : Obj) (u : HO)
  /-- a code object's table -/
  | tbl (ps : Array Value)
  /-- any other thing, by what is true of its one object (a def of one's own: SetO a S n := HO.ext fun h => ..) -/
  | ext (φ : Heap → Prop)

abbrev Hp := Addr → Option HO
def upd (H : Hp) (a : Addr) (o : HO) : Hp := fun b => if b = a then some o else H b
theorem upd_same {H : Hp} {a : Addr} {o : HO} : upd H a o a = some o := by unfold upd; rw [if_pos rfl]
theorem upd_ne {H : Hp} {a b : Addr} {o : HO} (h : b ≠ a) : upd H a o b = H b := by unfold upd; rw [if_neg h]
theorem upd_upd {H : Hp} {a : Addr} {o u : HO} : upd (upd H a o) a u = upd H a u := by
  funext b; unfold upd; split <;> rfl
/-- two objects of different content stand apart -/
theorem ne_of {H : Hp} {a b : Addr} {o u : HO} (h : H a = some o) (h' : H b = some u) (d : o ≠ u) : a ≠ b := by
  intro e; subst e; rw [h] at h'; exact d (Option.some.inj h')
theorem ne_of_none {H : Hp} {a b : Addr} {o : HO} (h : H a = some o) (h' : H b = none) : a ≠ b := by
  intro e; subst e; rw [h] at h'; cases h'

section
variable (P : Program) (w : World)
def ObjOk (H : Hp) (h : Heap) (a : Addr) : HO → Prop
  | .lst xs => xs.length ≤ sizeLine ∧ ∃ (its : List Value) (n : Nat), Vals xs its ∧ h.get? a = some { cls := .type "list", data := .seq its.toArray n }
  | .tup xs => xs.length ≤ sizeLine ∧ ∃ its : List Value, Vals xs its ∧ IsTup h a its.toArray
  | .dK kvs => kvs.length ≤ sizeLine ∧ (a == sysModules) = false ∧ ∃ vs, KV kvs vs ∧ h.DictOf (mixKind P w) a vs
  | .dT kvs => kvs.length ≤ sizeLine ∧ (a == sysModules) = false ∧ ∃ xs : List (List Key × Addr × Value),
      Paired (fun (p : List Key × V) (q : List Key × Addr × Value) => p.1 = q.1 ∧ H q.2.1 = some (.tup (p.1.map kV)) ∧ RelV p.2 q.2.2) kvs xs ∧
      ∃ o es ep, h.get? a = some o ∧ o.ExactDict ∧ o.data = .dict es ep ∧ es.toList = xs.map (entryOfKey (tupleKind (mixKind P w))) ∧ (xs.map (·.1)).Nodup
  | .set S n => h.SetOf (intKind P w) a S n
  | .ins C dx fs => H dx = some (.own a) ∧ fs.length ≤ 1000 ∧ dx ≠ a ∧ h.get? a = some (PySem.W.instObj C dx) ∧
      ∃ mA, h.Ns1 dx mA ∧ (∀ f, RelO (fs.lookup f) (mA f)) ∧ PySem.Within mA (fs.map (·.1))
  | .own _ => ∃ o, h.get? a = some o
  | .xd fs => ∃ mA, h.Ns1 a mA ∧ ∀ f, RelO (fs.lookup f) (mA f)
  | .rng lo hi => ∃ t u v, h.get? a = some { cls := .type "range", data := .fields #[.int lo t, .int hi u, .int 1 v] }
  | .frz o u => h.get? a = some o ∧ ObjOk H h a u
  | .tbl ps => h.get? a = some { cls := .none, data := .fields ps }
  | .met f x => h.get? a = some (PySem.W.methodObj (.ref f) (.ref x))
  | .ext φ => φ h ∧ (∃ o, h.get? a = some o) ∧ ∀ h1 h2 : Heap, φ h1 → (∀ o, h1.get? a = some o → h2.get? a = some o) → φ h2
/-- the abstract heap is held -/
def HOk (H : Hp) (h : Heap) : Prop := ∀ a o, H a = some o → ObjOk P w H h a o
end

section
variable {P : Program} {w : World} {H H' : Hp} {h h' : Heap} {a : Addr} {o : HO}
theorem ObjOk.lt (x : ObjOk P w H h a o) : a < h.objs.size := by
  cases o with
  | lst xs => obtain ⟨_, _, _, _, e⟩ := x; exact Heap.lt_size e
  | tup xs => obtain ⟨_, _, _, p⟩ := x; exact p.lt
  | dK kvs => obtain ⟨_, _, _, _, o, _, _, e, _⟩ := x; exact Heap.lt_size e
  | dT kvs => obtain ⟨_, _, _, _, o, _, _, e, _⟩ := x; exact Heap.lt_size e
  | set S n => obtain ⟨o, _, _, _, e, _⟩ := x; exact Heap.lt_size e
  | ins C dx fs => obtain ⟨_, _, _, e, _⟩ := x; exact Heap.lt_size e
  | own y => obtain ⟨_, e⟩ := x; exact Heap.lt_size e
  | xd fs => obtain ⟨_, ⟨_, _, _, e, _⟩, _⟩ := x; exact Heap.lt_size e
  | rng lo hi => obtain ⟨_, _, _, e⟩ := x; exact Heap.lt_size e
  | frz ob u => obtain ⟨e, _⟩ := x; exact Heap.lt_size e
  | tbl ps => exact Heap.lt_size (show h.get? a = some _ from x)
  | met f y => exact Heap.lt_size (show h.get? a = some _ from x)
  | ext φ => obtain ⟨_, ⟨_, e⟩, _⟩ := x; exact Heap.lt_size e
theorem Paired.mapP {α β : Type} {F G : α → β → Prop} : ∀ {l₁ : List α} {l₂ : List β}, Paired F l₁ l₂ → (∀ a b, F a b → G a b) → Paired G l₁ l₂
  | _, _, .nil, _ => .nil
  | _, _, .cons r t, f => .cons (f _ _ r) (Paired.mapP t f)
/-- what an object's description leans on: its own object, its own dict, the tuples -/
theorem ObjOk.stay (x : ObjOk P w H h a o) (k : ∀ b u, (b = a ∨ H b = some (.own a)) → h.get? b = some u → h'.get? b = some u)
    (ho : ∀ b, H b = some (.own a) → H' b = some (.own a)) (ht : ∀ b xs, H b = some (.tup xs) → H' b = some (.tup xs)) : ObjOk P w H' h' a o := by
  induction o with
  | lst xs => obtain ⟨z, its, n, r, e⟩ := x; exact ⟨z, its, n, r, k _ _ (.inl rfl) e⟩
  | tup xs => obtain ⟨z, its, r, ob, e, c⟩ := x; exact ⟨z, its, r, ob, k _ _ (.inl rfl) e, c⟩
  | dK kvs => obtain ⟨z, y, vs, r, ob, es, ep, e, c⟩ := x; exact ⟨z, y, vs, r, ob, es, ep, k _ _ (.inl rfl) e, c⟩
  | dT kvs =>
    obtain ⟨z, y, xs, r, ob, es, ep, e, c⟩ := x
    exact ⟨z, y, xs, Paired.mapP r fun p q z => ⟨z.1, ht _ _ z.2.1, z.2.2⟩, ob, es, ep, k _ _ (.inl rfl) e, c⟩
  | set S n => obtain ⟨ob, es, ep, t, e, c⟩ := x; exact ⟨ob, es, ep, t, k _ _ (.inl rfl) e, c⟩
  | ins C dx fs =>
    obtain ⟨d, z, ne, e, mA, ⟨od, es, ep, e2, c⟩, r⟩ := x
    exact ⟨ho _ d, z, ne, k _ _ (.inl rfl) e, mA, ⟨od, es, ep, k _ _ (.inr d) e2, c⟩, r⟩
  | own y => obtain ⟨ob, e⟩ := x; exact ⟨ob, k _ _ (.inl rfl) e⟩
  | xd fs => obtain ⟨mA, ⟨od, es, ep, e, c⟩, r⟩ := x; exact ⟨mA, ⟨od, es, ep, k _ _ (.inl rfl) e, c⟩, r⟩
  | rng lo hi => obtain ⟨t, u, v, e⟩ := x; exact ⟨t, u, v, k _ _ (.inl rfl) e⟩
  | frz ob u ih => obtain ⟨e, q⟩ := x; exact ⟨k _ _ (.inl rfl) e, ih q⟩
  | tbl ps =>
    have e : h.get? a = some { cls := .none, data := .fields ps } := x
    show h'.get? a = some { cls := .none, data := .fields ps }
    exact k a _ (.inl rfl) e
  | met f y =>
    have e : h.get? a = some (PySem.W.methodObj (.ref f) (.ref y)) := x
    show h'.get? a = some (PySem.W.methodObj (.ref f) (.ref y))
    exact k a _ (.inl rfl) e
  | ext φ => obtain ⟨p, ⟨o, e⟩, st⟩ := x; exact ⟨st _ _ p fun o q => k _ _ (.inl rfl) q, ⟨o, k _ _ (.inl rfl) e⟩, st⟩
theorem HOk.lt (x : HOk P w H h) (e : H a = some o) : a < h.objs.size := (x a o e).lt
theorem HOk.fresh (x : HOk P w H h) (e : h.objs.size ≤ a) : H a = none := by
  cases q : H a with
  | none => rfl
  | some u => exact absurd (Nat.lt_of_lt_of_le (x.lt q) e) (Nat.lt_irrefl _)
/-- every object of the heap is kept -/
theorem HOk.kept (x : HOk P w H h) (k : ∀ b u, h.get? b = some u → h'.get? b = some u) : HOk P w H h' := fun a o e =>
  (x a o e).stay (fun b u _ q => k b u q) (fun _ q => q) fun _ _ q => q
/-- a new object is laid and tracked -/
theorem HOk.laid (x : HOk P w H h) (k : ∀ b u, h.get? b = some u → h'.get? b = some u) (hp : h.objs.size ≤ a) (new : ObjOk P w (upd H a o) h' a o) : HOk P w (upd H a o) h' := fun b u e => by
  have hn := x.fresh hp
  by_cases hb : b = a
  · subst hb; rw [upd_same] at e; cases e; exact new
  · rw [upd_ne hb] at e
    exact (x b u e).stay (fun c v _ q => k c v q) (fun c q => by rw [upd_ne (ne_of_none q hn)]; exact q) fun c xs q => by rw [upd_ne (ne_of_none q hn)]; exact q
end

/-- what may be read as u: it is u, or a known u -/
def Rd (H : Hp) (a : Addr) (u : HO) : Prop := H a = some u ∨ ∃ o, H a = some (.frz o u)
theorem Rd.ok {P : Program} {w : World} {H : Hp} {h : Heap} {a : Addr} {u : HO} (r : Rd H a u) (x : HOk P w H h) : ObjOk P w H h a u := by
  rcases r with r | ⟨o, r⟩
  · exact x a u r
  · obtain ⟨_, q⟩ := x a _ r
    exact q
/-- what may be written -/
def Mut : Option HO → Prop
  | some (.lst _) => True
  | some (.dK _) => True
  | some (.dT _) => True
  | some (.set _ _) => True
  | some (.ins _ _ _) => True
  | some (.ext _) => True
  | _ => False
section
variable {P : Program} {w : World} {H : Hp} {h h' : Heap} {x e : Addr} {o' : HO}
/-- the object at e is changed: x itself, or the dict of the instance x -/
theorem HOk.write (ok : HOk P w H h) (mu : Mut (H x)) (he : e = x ∨ H e = some (.own x)) (k : ∀ b u, b ≠ e → h.get? b = some u → h'.get? b = some u) (heo : ∃ u, h'.get? e = some u)
    (new : ObjOk P w (upd H x o') h' x o') : HOk P w (upd H x o') h' := fun b u q => by
  have nown : ∀ c y, H c = some (.own y) → c ≠ x := fun c y r z => by subst z; rw [r] at mu; exact mu
  have ntup : ∀ c xs, H c = some (.tup xs) → c ≠ x := fun c xs r z => by subst z; rw [r] at mu; exact mu
  by_cases hb : b = x
  · subst hb; rw [upd_same] at q; cases q; exact new
  · rw [upd_ne hb] at q
    by_cases hbe : b = e
    · have q' : H b = some (.own x) := by
        rcases he with z | z
        · exact absurd (hbe.trans z) hb
        · rw [hbe]; exact z
      rw [q] at q'; cases q'
      obtain ⟨v, hv⟩ := heo
      exact ⟨v, by rw [hbe]; exact hv⟩
    · refine (ok b u q).stay (fun c v hc r => k c v ?_ r) (fun c r => by rw [upd_ne (nown c b r)]; exact r) fun c xs r => by rw [upd_ne (ntup c xs r)]; exact r
      rcases hc with rfl | hc
      · exact hbe
      · rintro rfl
        rcases he with z | z
        · exact nown c b hc z
        · rw [hc] at z; cases z; exact hb rfl
end

/-! ### kept unless tracked; of the frames at fs (the callers') the slots may change (an exception that passes writes there); of the records at ex (iterators) nothing is said -/
structure Un (fs ex : List Addr) (H H' : Hp) (h h' : Heap) : Prop where
  keep : ∀ b o, h.get? b = some o → H b = none → b ∉ fs → b ∉ ex → h'.get? b = some o
  slot : ∀ b o, h.get? b = some o → H b = none → b ∈ fs → b ∉ ex → ∃ sl, h'.get? b = some { o with slots := sl }
  free : ∀ b o, h.get? b = some o → H b = none → b ∉ ex → H' b = none
  there : ∀ b o, h.get? b = some o → b ∉ ex → ∃ o', h'.get? b = some o'
  tups : ∀ b xs, H b = some (.tup xs) → H' b = some (.tup xs)
  frzs : ∀ b o u, H b = some (.frz o u) → H' b = some (.frz o u)
  tbls : ∀ b ps, H b = some (.tbl ps) → ∃ more, H' b = some (.tbl (ps ++ more))
section
variable {fs fs' ex ex' : List Addr} {H H1 H2 : Hp} {h h1 h2 h' : Heap} {a x e : Addr} {o : HO}
theorem Un.any (u : Un fs ex H H1 h h1) {b : Addr} {ob : Obj} (q : h.get? b = some ob) (n : H b = none) (hx : b ∉ ex) : ∃ sl, h1.get? b = some { ob with slots := sl } := by
  by_cases hb : b ∈ fs
  · exact u.slot b ob q n hb hx
  · exact ⟨ob.slots, u.keep b ob q n hb hx⟩
theorem Un.kept (k : ∀ b u, h.get? b = some u → h'.get? b = some u) : Un fs ex H H h h' :=
  ⟨fun b ob q _ _ _ => k b ob q, fun b ob q _ _ _ => ⟨ob.slots, k b ob q⟩, fun _ _ _ n _ => n, fun b ob q _ => ⟨ob, k b ob q⟩, fun _ _ q => q, fun _ _ _ q => q, fun _ ps q => ⟨#[], by rw [q]; simp⟩⟩
theorem Un.refl : Un fs ex H H h h := Un.kept fun _ _ q => q
theorem Un.laid (k : ∀ b u, h.get? b = some u → h'.get? b = some u) (hp : h.objs.size ≤ a) (hn : H a = none) : Un fs ex H (upd H a o) h h' where
  keep := fun b u q _ _ _ => k b u q
  slot := fun b u q _ _ _ => ⟨u.slots, k b u q⟩
  free := fun b u q n _ => by rw [upd_ne (Nat.ne_of_lt (Nat.lt_of_lt_of_le (Heap.lt_size q) hp))]; exact n
  there := fun b u q _ => ⟨u, k b u q⟩
  tups := fun b xs q => by rw [upd_ne (ne_of_none q hn)]; exact q
  frzs := fun b u xs q => by rw [upd_ne (ne_of_none q hn)]; exact q
  tbls := fun b ps q => ⟨#[], by rw [upd_ne (ne_of_none q hn), q]; simp⟩
theorem Un.write (mu : Mut (H x)) (he : e = x ∨ H e = some (.own x)) (k : ∀ b u, b ≠ e → h.get? b = some u → h'.get? b = some u) (heo : ∃ u, h'.get? e = some u) : Un fs ex H (upd H x o) h h' := by
  have hx : ∀ b, H b = none → b ≠ x := fun b n z => by subst z; rw [n] at mu; exact mu
  have hb : ∀ b, H b = none → b ≠ e := fun b n z => by
    subst z
    rcases he with r | r
    · exact hx b n r
    · rw [n] at r; cases r
  have hm : ∀ b u, H b = some u → ¬ Mut (some u) → b ≠ x := fun b u q nm z => by subst z; rw [q] at mu; exact nm mu
  refine ⟨fun b u q n _ _ => k b u (hb b n) q, fun b u q n _ _ => ⟨u.slots, k b u (hb b n) q⟩, fun b u q n _ => by rw [upd_ne (hx b n)]; exact n, fun b u q _ => ?_,
    fun b xs q => by rw [upd_ne (hm b _ q fun z => z)]; exact q, fun b u xs q => by rw [upd_ne (hm b _ q fun z => z)]; exact q, fun b ps q => ⟨#[], by rw [upd_ne (hm b _ q fun z => z), q]; simp⟩⟩
  by_cases hbe : b = e
  · subst hbe; exact heo
  · exact ⟨u, k b u hbe q⟩
end

/-! ### the heap without what is tracked -/
def trk (h : Heap) (H : Hp) : List Addr := (List.range h.objs.size).filter fun a => (H a).isSome
def hidT (h : Heap) (H : Hp) : Heap := PySem.W.hideAll h (trk h H)
theorem hidT_size (h : Heap) (H : Hp) : (hidT h H).objs.size = h.objs.size := PySem.W.hideAll_size _ _
theorem hidT_get {h : Heap} {H : Hp} {b : Addr} {o : Obj} (e : h.get? b = some o) (n : H b = none) : (hidT h H).get? b = some o :=
  PySem.W.hideAll_get _ e fun hm => by
    have q : (H b).isSome = true := (List.mem_filter.mp hm).2
    rw [n] at q; simp at q
theorem of_hidT {h : Heap} {H : Hp} {b : Addr} {o : Obj} (e : (hidT h H).get? b = some o) : h.get? b = some o ∧ H b = none := by
  have e' : h.get? b = some o := PySem.W.of_hideAll (trk h H) e
  refine ⟨e', ?_⟩
  cases q : H b with
  | none => rfl
  | some x =>
    have hm : b ∈ trk h H := List.mem_filter.mpr ⟨List.mem_range.mpr (Heap.lt_size e'), by simp [q]⟩
    have z : (hidT h H).get? b = none := PySem.W.hideAll_none (trk h H) hm
    rw [z] at e; cases e

/-! ### OpenK's ledger, filled with every new object but one -/
def allNews (g h : Heap) (L : Addr) : List (Addr × Obj) := (List.range h.objs.size).filterMap fun a => if a = L ∨ (g.get? a).isSome = true then none else (h.get? a).map fun o => (a, o)
def rest (g h : Heap) (L d : Addr) : List (Addr × Obj) := (allNews g h L).filter fun p => decide (p.1 ≠ d)
end L2

namespace L2
open PySem PySem.Spec PyProof.Rows

/-- the module's facts, over the base: the heap at the law's entry without what is tracked there -/
structure Mod (K : PySem.W.Frag) (mg : Str → Option Value) (base : Heap) : Prop where
  kin : K.In base
  glob : base.Ns mainGlobals mg
  blt : ∃ mb, base.Ns builtinsNs mb ∧ ∀ x : Str, x ≠ "__name__" → mb x = bootBuiltins x
  nolimit : base.NoLimit

/-- the context: a def's body (or a comprehension's block) running. base: fixed through the whole law; s₀, H₀: the entry; outer: the frames whose slots others may change (a def's callers); stack: all frames that run;
   ex: iterators that were made ahead of the entry and are walked here (a comprehension's); fn: the names whose cells were made at the entry (a def: all; a comprehension's block: its own); calm: not within an except suite; pn: pins that every state bears; xe: what is wanted of an exception that leaves the code -/
structure Cx where
  prog : Program
  w : World
  K : PySem.W.Frag
  mg : Str → Option Value
  base : Heap
  A : Around
  N : List Str
  s₀ : Shared
  H₀ : Hp
  env : Env
  outer : List Env
  stack : List Env
  ex : List Addr
  fn : Str → Bool
  calm : Bool
  pn : List (Addr × Obj)
  xe : Value → Shared → Prop
/-- the callers' frames -/
def frs (l : List Env) : List Addr := l.filterMap (·.frame)
abbrev Cx.fs (X : Cx) : List Addr := frs X.outer

def Vis (sc : Scope) (x : Str) : Prop := sc.names.lookup x = some .local ∨ sc.names.lookup x = some .cell ∨ sc.names.lookup x = some .free
def Loc (sc : Scope) (x : Str) : Prop := sc.names.lookup x = some .local ∨ sc.names.lookup x = some .cell
def Look (env : Env) (h : Heap) (m : Str → Option Value) (x : Str) (u : Value) : Prop :=
  (env.kindOf x = some .local ∧ m x = some u) ∨ ((env.kindOf x = some .cell ∨ env.kindOf x = some .free) ∧ ∃ c, env.cells.lookup x = some c ∧ h.IsCell c (some u))

structure Cx.Ok (X : Cx) : Prop where
  mod : Mod X.K X.mg X.base
  kind : X.env.scope.kind = .function
  glob : X.env.globals = mainGlobals
  blt : X.env.builtins = builtinsNs
  above : X.s₀.heap.objs.size ≤ X.env.locals
  inj : ∀ x y c, X.env.cells.lookup x = some c → X.env.cells.lookup y = some c → x = y
  has : ∀ x, (X.env.kindOf x = some .cell ∨ X.env.kindOf x = some .free) → ∃ c, X.env.cells.lookup x = some c
  cab : ∀ x c, X.fn x = true → X.env.cells.lookup x = some c → X.s₀.heap.objs.size ≤ c
  hd : X.calm = true → X.A.handled = none
  frames : X.A.frames = some X.stack
  stk : X.stack = X.outer ∨ (X.stack = X.env :: X.outer ∧ X.env.frame = some X.env.locals)
  exf : ∀ b ∈ X.ex, b ≠ X.env.locals ∧ ∀ x c, X.env.cells.lookup x = some c → c ≠ b
  bs : ∀ b o, X.base.get? b = some o → X.s₀.heap.get? b = some o ∧ X.H₀ b = none
  bsz : X.base.objs.size ≤ X.s₀.heap.objs.size
  noex : ∀ b o, X.base.get? b = some o → b ∉ X.ex
  exfs : ∀ b ∈ X.ex, b ∉ X.fs
  funs : X.s₀.heap.FunFrames X.base X.outer
  frf : ∀ b ∈ X.fs, X.H₀ b = none

structure Inv (X : Cx) (pins : List (Addr × Obj)) (σ : List (Option V)) (H : Hp) (s : Shared) : Prop where
  ok : X.Ok
  os : s.os = X.s₀.os
  bare : AllBare s.gens
  base : Un X.fs X.ex X.H₀ H X.s₀.heap s.heap
  loc : ∃ m, s.heap.Ns X.env.locals m ∧ ∀ (i : Nat) (x : Str) (v : V), X.N[i]? = some x → σ[i]? = some (some v) → Vis X.env.scope x → ∃ u, RelV v u ∧ Look X.env s.heap m x u
  cell : ∀ x c, X.env.cells.lookup x = some c → ∃ v, s.heap.IsCell c v
  free : H X.env.locals = none
  freeC : ∀ x c, X.env.cells.lookup x = some c → H c = none
  pin : ∀ p ∈ X.pn ++ pins, s.heap.get? p.1 = some p.2 ∧ H p.1 = none ∧ p.1 ≠ X.env.locals ∧ p.1 ∉ X.fs ∧ ∀ v, p.2.data ≠ .cell v
  hok : HOk X.prog X.w H s.heap
  len : σ.length = X.N.length

section
variable {X : Cx} {pins : List (Addr × Obj)} {σ : List (Option V)} {H H' : Hp} {s : Shared} {h' : Heap}

theorem Cx.Ok.nofr (ok : X.Ok) {b : Addr} {o : Obj} (e : X.base.get? b = some o) : b ∉ X.fs := fun hb => by
  have := (ok.funs.mem hb).1
  rw [e] at this; cases this
theorem Inv.bs (I : Inv X pins σ H s) : ∀ b o, X.base.get? b = some o → s.heap.get? b = some o ∧ H b = none := fun b o e =>
  ⟨I.base.keep b o (I.ok.bs b o e).1 (I.ok.bs b o e).2 (I.ok.nofr e) (I.ok.noex b o e), I.base.free b o (I.ok.bs b o e).1 (I.ok.bs b o e).2 (I.ok.noex b o e)⟩
theorem Inv.bk (I : Inv X pins σ H s) : ∀ b o, X.base.get? b = some o → s.heap.get? b = some o := fun b o e => (I.bs b o e).1
theorem Inv.mod (I : Inv X pins σ H s) : Mod X.K X.mg X.base := I.ok.mod
theorem Inv.kIn (I : Inv X pins σ H s) : X.K.In s.heap := I.ok.mod.kin.keeps I.bk
theorem Inv.lt (I : Inv X pins σ H s) : X.env.locals < s.heap.objs.size := let ⟨_, hn, _⟩ := I.loc; hn.lt
theorem Inv.sz (I : Inv X pins σ H s) : X.s₀.heap.objs.size ≤ s.heap.objs.size := Nat.le_trans I.ok.above (Nat.le_of_lt I.lt)
theorem Inv.nofs (I : Inv X pins σ H s) {a : Addr} (h : s.heap.objs.size ≤ a) : a ∉ X.fs := fun hb => by
  obtain ⟨_, o, ho, _⟩ := I.ok.funs.mem hb
  exact absurd (Nat.lt_of_lt_of_le (Heap.lt_size ho) (Nat.le_trans I.sz h)) (Nat.lt_irrefl _)
theorem Inv.cne (I : Inv X pins σ H s) : ∀ x c, X.env.cells.lookup x = some c → c ≠ X.env.locals := fun x c e z => by
  obtain ⟨v, o, ho, hd⟩ := I.cell x c e
  obtain ⟨m, ⟨o', es, ep, ho', hd', _⟩, _⟩ := I.loc
  rw [z, ho'] at ho; cases ho; rw [hd'] at hd; cases hd
theorem Inv.funs (I : Inv X pins σ H s) : s.heap.FunFrames X.base X.outer := by
  have all : ∀ (l : List Env), (∀ b ∈ frs l, b ∈ X.fs) → X.s₀.heap.FunFrames X.base l → s.heap.FunFrames X.base l := by
    intro l
    induction l with
    | nil => intro _ _; trivial
    | cons env r ih =>
      intro hs hl
      obtain ⟨hk, ⟨L, o, hf, hn, ho, hd⟩, hr⟩ := hl
      have hL : L ∈ X.fs := hs L (by unfold frs; rw [List.filterMap_cons, hf]; exact List.mem_cons_self)
      obtain ⟨sl, e⟩ := I.base.slot L o ho (I.ok.frf L hL) hL fun z => I.ok.exfs L z hL
      exact ⟨hk, ⟨L, _, hf, hn, e, hd⟩, ih (fun b hb => hs b (by unfold frs; rw [List.filterMap_cons, hf]; exact List.mem_cons_of_mem _ hb)) hr⟩
  exact all X.outer (fun _ hb => hb) I.ok.funs

/-- the frames that run, for a call -/
theorem Inv.stack (I : Inv X pins σ H s) : s.heap.FunFrames X.base X.stack := by
  rcases I.ok.stk with e | ⟨e, hf⟩
  · rw [e]; exact I.funs
  · rw [e]
    obtain ⟨m, hn, _⟩ := I.loc
    refine .cons (by rw [I.ok.kind]; decide) hf hn ?_ I.funs
    exact Heap.get?_none_of_le (Nat.le_trans I.ok.bsz I.ok.above)
theorem Inv.stkSub (I : Inv X pins σ H s) : ∀ b ∈ frs X.stack, b ∈ X.env.locals :: X.fs := fun b hb => by
  rcases I.ok.stk with e | ⟨e, hf⟩
  · rw [e] at hb; exact List.mem_cons_of_mem _ hb
  · rw [e] at hb
    unfold frs at hb
    rw [List.filterMap_cons, hf] at hb
    exact hb
theorem Inv.stkFree (I : Inv X pins σ H s) : ∀ b ∈ frs X.stack, H b = none := fun b hb => by
  rcases List.mem_cons.mp (I.stkSub b hb) with e | hb
  · rw [e]; exact I.free
  · obtain ⟨_, o, ho, _⟩ := I.ok.funs.mem hb
    exact I.base.free b o ho (I.ok.frf b hb) fun z => I.ok.exfs b z hb

/-- THE STEP: the untracked objects but the frame and the records at ch are kept (the callers' frames up to slots), the frame's map is kept, the new abstract heap is held -/
theorem Inv.step {g' : Array GenState} {t' : Nat} {d' : Drawn} {ch : List Addr} (I : Inv X pins σ H s)
    (hch : ∀ b ∈ ch, (b ∈ X.ex ∨ X.s₀.heap.objs.size ≤ b) ∧ b ≠ X.env.locals ∧ (∀ x c, X.env.cells.lookup x = some c → c ≠ b) ∧ ∀ p ∈ X.pn ++ pins, p.1 ≠ b)
    (keep : ∀ b o, b ≠ X.env.locals → b ∉ X.fs → b ∉ ch → s.heap.get? b = some o → H b = none → h'.get? b = some o)
    (slot : ∀ b o, b ≠ X.env.locals → b ∈ X.fs → b ∉ ch → s.heap.get? b = some o → H b = none → ∃ sl, h'.get? b = some { o with slots := sl }) (free : ∀ b o, b ∉ ch → s.heap.get? b = some o → H b = none → H' b = none)
    (there : ∀ b o, b ∉ ch → s.heap.get? b = some o → ∃ o', h'.get? b = some o')
    (tups : ∀ b xs, H b = some (.tup xs) → H' b = some (.tup xs)) (frzs : ∀ b o u, H b = some (.frz o u) → H' b = some (.frz o u)) (tbls : ∀ b ps, H b = some (.tbl ps) → ∃ more, H' b = some (.tbl (ps ++ more)))
    (ns : ∀ m, s.heap.Ns X.env.locals m → h'.Ns X.env.locals m) (hok : HOk X.prog X.w H' h') (hg : AllBare g') :
    Inv X pins σ H' { s with heap := h', gens := g', drawn := d', toks := t' } := by
  have neL : ∀ b o, X.s₀.heap.get? b = some o → b ≠ X.env.locals := fun b o e => Nat.ne_of_lt (Nat.lt_of_lt_of_le (Heap.lt_size e) I.ok.above)
  have neC : ∀ b o, X.s₀.heap.get? b = some o → b ∉ X.ex → b ∉ ch := fun b o e hx hb => by
    rcases (hch b hb).1 with z | z
    · exact hx z
    · exact absurd (Nat.lt_of_lt_of_le (Heap.lt_size e) z) (Nat.lt_irrefl _)
  have cellK : ∀ x c, X.env.cells.lookup x = some c → ∀ v, s.heap.IsCell c v → h'.IsCell c v := fun x c e v ⟨o, ho, hd⟩ => by
    have nch : c ∉ ch := fun z => (hch c z).2.2.1 x c e rfl
    by_cases hc : c ∈ X.fs
    · obtain ⟨sl, q⟩ := slot c o (I.cne x c e) hc nch ho (I.freeC x c e)
      exact ⟨_, q, hd⟩
    · exact ⟨o, keep c o (I.cne x c e) hc nch ho (I.freeC x c e), hd⟩
  refine ⟨I.ok, I.os, hg, ⟨fun b o e n hb hx => ?_, fun b o e n hb hx => ?_, fun b o e n hx => ?_, fun b o e hx => ?_, fun b xs e => tups b xs (I.base.tups b xs e), fun b o xs e => frzs b o xs (I.base.frzs b o xs e), fun b ps e => ?_⟩, ?_, fun x c e => ?_, ?_, fun x c e => ?_, fun p hp => ?_, hok, I.len⟩
  · exact keep b o (neL b o e) hb (neC b o e hx) (I.base.keep b o e n hb hx) (I.base.free b o e n hx)
  · obtain ⟨sl, e1⟩ := I.base.slot b o e n hb hx
    obtain ⟨sl', e2⟩ := slot b _ (neL b o e) hb (neC b o e hx) e1 (I.base.free b o e n hx)
    exact ⟨sl', e2⟩
  · obtain ⟨o', e1⟩ := I.base.there b o e hx
    exact free b o' (neC b o e hx) e1 (I.base.free b o e n hx)
  · obtain ⟨o', e1⟩ := I.base.there b o e hx
    exact there b o' (neC b o e hx) e1
  · obtain ⟨m1, e1⟩ := I.base.tbls b ps e
    obtain ⟨m2, e2⟩ := tbls b _ e1
    exact ⟨m1 ++ m2, by rw [e2, Array.append_assoc]⟩
  · obtain ⟨m, hn, hl⟩ := I.loc
    refine ⟨m, ns m hn, fun i x v e1 e2 e3 => ?_⟩
    obtain ⟨u, r, l⟩ := hl i x v e1 e2 e3
    refine ⟨u, r, ?_⟩
    rcases l with l | ⟨k, c, e, z⟩
    · exact .inl l
    · exact .inr ⟨k, c, e, cellK x c e _ z⟩
  · obtain ⟨v, z⟩ := I.cell x c e
    exact ⟨v, cellK x c e v z⟩
  · obtain ⟨m, ⟨o, _, _, ho, _⟩, _⟩ := I.loc
    exact free _ o (fun z => (hch _ z).2.1 rfl) ho I.free
  · obtain ⟨v, o, ho, hd⟩ := I.cell x c e
    exact free c o (fun z => (hch c z).2.2.1 x c e rfl) ho (I.freeC x c e)
  · obtain ⟨e, n, ne, nf, d⟩ := I.pin p hp
    have nch : p.1 ∉ ch := fun z => (hch p.1 z).2.2.2 p hp rfl
    exact ⟨keep p.1 p.2 ne nf nch e n, free p.1 p.2 nch e n, ne, nf, d⟩
/-- .. where the frame's own object is kept too -/
theorem Inv.un {t' : Nat} (I : Inv X pins σ H s) (u : Un X.fs [] H H' s.heap h') (hok : HOk X.prog X.w H' h') : Inv X pins σ H' { s with heap := h', toks := t' } := by
  obtain ⟨m, ⟨o, es, ep, ho, r⟩, _⟩ := id I.loc
  obtain ⟨sl, hL⟩ := u.any ho I.free (by simp)
  exact I.step (g' := s.gens) (d' := s.drawn) (ch := []) (fun _ z => nomatch z) (fun b o _ hb _ e n => u.keep b o e n hb (by simp)) (fun b o _ hb _ e n => u.slot b o e n hb (by simp)) (fun b o _ e n => u.free b o e n (by simp)) (fun b o _ e => u.there b o e (by simp)) u.tups u.frzs u.tbls (fun m' hm => by
    obtain ⟨o', es', ep', ho', r'⟩ := hm
    rw [ho] at ho'; cases ho'
    exact ⟨_, es', ep', hL, r'⟩) hok I.bare
/-- behind a call (or a comprehension's block): the slots of this frame may have changed too, the records at ch may have turned -/
theorem Inv.call {g' : Array GenState} {t' : Nat} {d' : Drawn} {ch : List Addr} (I : Inv X pins σ H s) (u : Un (frs X.stack) ch H H' s.heap h') (hok : HOk X.prog X.w H' h') (hg : AllBare g')
    (hch : ∀ b ∈ ch, (b ∈ X.ex ∨ X.s₀.heap.objs.size ≤ b) ∧ b ≠ X.env.locals ∧ (∀ x c, X.env.cells.lookup x = some c → c ≠ b) ∧ ∀ p ∈ X.pn ++ pins, p.1 ≠ b) :
    Inv X pins σ H' { s with heap := h', gens := g', drawn := d', toks := t' } := by
  obtain ⟨m, ⟨o, es, ep, ho, r⟩, _⟩ := id I.loc
  obtain ⟨sl, hL⟩ := u.any ho I.free fun z => (hch _ z).2.1 rfl
  exact I.step (ch := ch) hch (fun b o hL hb hc e n => u.keep b o e n (fun z => (List.mem_cons.mp (I.stkSub b z)).elim hL hb) hc) (fun b o _ _ hc e n => u.any e n hc) (fun b o hc e n => u.free b o e n hc) (fun b o hc e => u.there b o e hc) u.tups u.frzs u.tbls (fun m' hm => by
    obtain ⟨o', es', ep', ho', r'⟩ := hm
    rw [ho] at ho'; cases ho'
    exact ⟨_, es', ep', hL, r'⟩) hok hg
/-- an untracked record of ours (an iterator) has turned -/
theorem Inv.turned {t' : Nat} {it : Addr} (I : Inv X pins σ H s) (k : ∀ b o, b ≠ it → s.heap.get? b = some o → h'.get? b = some o) (hn : H it = none) (hL : it ≠ X.env.locals)
    (h1 : it ∈ X.ex ∨ X.s₀.heap.objs.size ≤ it) (h2 : ∀ x c, X.env.cells.lookup x = some c → c ≠ it) (h3 : ∀ p ∈ X.pn ++ pins, p.1 ≠ it) : Inv X pins σ H { s with heap := h', toks := t' } := by
  have nit : ∀ b u, H b = some u → b ≠ it := fun b u e z => by rw [z, hn] at e; cases e
  refine I.step (g' := s.gens) (d' := s.drawn) (ch := [it]) (fun b hb => ?_) (fun b o _ _ hc e _ => k b o (fun z => hc (by simp [z])) e) (fun b o _ _ hc e _ => ⟨o.slots, k b o (fun z => hc (by simp [z])) e⟩) (fun _ _ _ _ n => n)
    (fun b o hc e => ⟨o, k b o (fun z => hc (by simp [z])) e⟩) (fun _ _ e => e) (fun _ _ _ e => e) (fun b ps e => ⟨#[], by rw [e]; simp⟩) (fun m hm => ?_) (fun b u e => ?_) I.bare
  · have e : b = it := by simpa using hb
    subst e
    exact ⟨h1, hL, h2, h3⟩
  · obtain ⟨o, es, ep, ho, r⟩ := hm
    exact ⟨o, es, ep, k _ o (Ne.symm hL) ho, r⟩
  · refine (I.hok b u e).stay (fun c v hc q => k c v ?_ q) (fun _ q => q) fun _ _ q => q
    rcases hc with z | z
    · rw [z]; exact nit b u e
    · exact nit c _ z
theorem Inv.tok (I : Inv X pins σ H s) (t : Nat) : Inv X pins σ H { s with toks := t } := I.un (h' := s.heap) (t' := t) Un.refl I.hok
/-- all objects kept -/
theorem Inv.kept {t' : Nat} (I : Inv X pins σ H s) (k : ∀ b u, s.heap.get? b = some u → h'.get? b = some u) : Inv X pins σ H { s with heap := h', toks := t' } := I.un (Un.kept k) (I.hok.kept k)
/-- a new object laid and tracked -/
theorem Inv.laid {a : Addr} {o : HO} {t' : Nat} (I : Inv X pins σ H s) (k : ∀ b u, s.heap.get? b = some u → h'.get? b = some u) (hp : s.heap.objs.size ≤ a) (new : ObjOk X.prog X.w (upd H a o) h' a o) :
    Inv X pins σ (upd H a o) { s with heap := h', toks := t' } := I.un (Un.laid k hp (I.hok.fresh hp)) (I.hok.laid k hp new)
/-- an object written -/
theorem Inv.write {x e : Addr} {o : HO} {t' : Nat} (I : Inv X pins σ H s) (mu : Mut (H x)) (he : e = x ∨ H e = some (.own x)) (k : ∀ b u, b ≠ e → s.heap.get? b = some u → h'.get? b = some u) (heo : ∃ u, h'.get? e = some u)
    (new : ObjOk X.prog X.w (upd H x o) h' x o) : Inv X pins σ (upd H x o) { s with heap := h', toks := t' } := I.un (Un.write mu he k heo) (I.hok.write mu he k heo new)
/-- forgetting slots, pins -/
theorem Inv.weak {σ' : List (Option V)} (I : Inv X pins σ H s) (hl : σ'.length = σ.length) (w : ∀ (i : Nat) v, σ'[i]? = some (some v) → σ[i]? = some (some v)) : Inv X pins σ' H s :=
  ⟨I.ok, I.os, I.bare, I.base, let ⟨m, hn, hl'⟩ := I.loc; ⟨m, hn, fun i x v e1 e2 e3 => hl' i x v e1 (w i v e2) e3⟩, I.cell, I.free, I.freeC, I.pin, I.hok, hl.trans I.len⟩
theorem Inv.pins_of {pins' : List (Addr × Obj)} (I : Inv X pins σ H s) (h : ∀ p ∈ pins', s.heap.get? p.1 = some p.2 ∧ H p.1 = none ∧ p.1 ≠ X.env.locals ∧ p.1 ∉ X.fs ∧ ∀ v, p.2.data ≠ .cell v) : Inv X pins' σ H s :=
  ⟨I.ok, I.os, I.bare, I.base, I.loc, I.cell, I.free, I.freeC, fun p hp => (List.mem_append.mp hp).elim (fun z => I.pin p (List.mem_append_left _ z)) (h p), I.hok, I.len⟩

theorem nodup_ix {N : List Str} (hN : N.Nodup) {i j : Nat} {x : Str} (a : N[i]? = some x) (b : N[j]? = some x) : i = j := by
  obtain ⟨h1, e1⟩ := List.getElem?_eq_some_iff.mp a
  obtain ⟨h2, e2⟩ := List.getElem?_eq_some_iff.mp b
  exact (List.getElem_inj hN).mp (e1.trans e2.symm)

/-- a name is stored; what changed -/
theorem store_ok2 {M : Model} {A : Around} {E : Value → Shared → Prop} {i : Nat} {x : Str} {v : V} {u : Value} {Q : Unit → Shared → Prop} (I : Inv X pins σ H s) (hN : X.N.Nodup) (hi : X.N[i]? = some x) (hx : Loc X.env.scope x) (r : RelV v u)
    (h : ∀ s', Inv X pins (σ.set i (some v)) H s' → (∃ a, Heap.SameBut a s.heap s'.heap ∧ (a = X.env.locals ∨ X.env.cells.lookup x = some a)) → Q () s') (hf : X.fn x = true ∨ X.env.scope.names.lookup x = some .local := by first | exact .inl rfl | exact .inr rfl | assumption) : wpAny M A (storeName X.env x u) Q E s := by
  obtain ⟨m, hn, hl⟩ := id I.loc
  have hcls : (X.env.scope.kind == .class || (X.env.scope.kind == .module && X.env.locals != X.env.globals)) = false := by rw [I.ok.kind]; rfl
  have hiσ : i < σ.length := by rw [I.len]; exact (List.getElem?_eq_some_iff.mp hi).1
  have cne := I.cne
  have tracked : ∀ {a : Addr} {h' : Heap}, (∃ o, s.heap.get? a = some o ∧ H a = none) → Heap.SameBut a s.heap h' → HOk X.prog X.w H h' := fun {a h'} ha hs b ob e => by
    obtain ⟨_, _, hfree⟩ := ha
    refine (I.hok b ob e).stay (fun c w' hc q => (hs.2 c ?_).trans q) (fun _ q => q) fun _ _ q => q
    rintro rfl
    rcases hc with rfl | hc
    · rw [hfree] at e; cases e
    · rw [hfree] at hc; cases hc
  rcases hx with hk | hk
  · refine wpAny_storeName_local hk hn (fun h' hn' hs => ?_) hcls
    obtain ⟨oL, _, _, hoL, _⟩ := id hn
    refine h _ ⟨I.ok, I.os, I.bare, ⟨fun b o e n hb hx => ?_, fun b o e n hb hx => ?_, I.base.free, fun b o e hx => ?_, I.base.tups, I.base.frzs, I.base.tbls⟩, ⟨_, hn', fun j y v' e1 e2 e3 => ?_⟩, fun y c e => ?_, I.free, I.freeC, fun p hp => ?_, tracked ⟨oL, hoL, I.free⟩ hs, by simpa using I.len⟩ ⟨_, hs, .inl rfl⟩
    · exact (hs.2 b (Nat.ne_of_lt (Nat.lt_of_lt_of_le (Heap.lt_size e) I.ok.above))).trans (I.base.keep b o e n hb hx)
    · obtain ⟨sl, e1⟩ := I.base.slot b o e n hb hx
      exact ⟨sl, (hs.2 b (Nat.ne_of_lt (Nat.lt_of_lt_of_le (Heap.lt_size e) I.ok.above))).trans e1⟩
    · obtain ⟨o', e1⟩ := I.base.there b o e hx
      exact ⟨o', (hs.2 b (Nat.ne_of_lt (Nat.lt_of_lt_of_le (Heap.lt_size e) I.ok.above))).trans e1⟩
    · by_cases hj : j = i
      · subst hj
        rw [hi] at e1; cases e1
        rw [List.getElem?_set_self hiσ] at e2
        cases e2
        exact ⟨u, r, .inl ⟨hk, by simp⟩⟩
      · rw [List.getElem?_set_ne (Ne.symm hj)] at e2
        obtain ⟨u', r', q⟩ := hl j y v' e1 e2 e3
        refine ⟨u', r', ?_⟩
        rcases q with ⟨k, e⟩ | ⟨k, c, e, z⟩
        · refine .inl ⟨k, ?_⟩
          have : y ≠ x := fun e => hj (nodup_ix hN e1 (e ▸ hi))
          simp [this, e]
        · exact .inr ⟨k, c, e, z.sameBut hs (cne y c e)⟩
    · obtain ⟨w', z⟩ := I.cell y c e
      exact ⟨w', z.sameBut hs (cne y c e)⟩
    · obtain ⟨e, n, ne, nf, d⟩ := I.pin p hp
      exact ⟨(hs.2 p.1 ne).trans e, n, ne, nf, d⟩
  · have hfn : X.fn x = true := by
      rcases hf with z | z
      · exact z
      · rw [z] at hk; cases hk
    obtain ⟨c, hc⟩ := I.ok.has x (.inl hk)
    obtain ⟨w', z⟩ := I.cell x c hc
    refine wpAny_storeName_cell I.ok.kind hk hc z (fun h' hc' hs => ?_)
    obtain ⟨oc, hoc, hocd⟩ := id z
    refine h { s with heap := h' } ⟨I.ok, I.os, I.bare, ⟨fun b o e n hb hx => ?_, fun b o e n hb hx => ?_, I.base.free, fun b o e hx => ?_, I.base.tups, I.base.frzs, I.base.tbls⟩, ⟨m, hn.sameBut hs (Ne.symm (cne x c hc)), fun j y v' e1 e2 e3 => ?_⟩, fun y c' e => ?_, I.free, I.freeC, fun p hp => ?_, tracked ⟨oc, hoc, I.freeC x c hc⟩ hs, by simpa using I.len⟩ ⟨c, hs, .inr hc⟩
    · exact (hs.2 b (Nat.ne_of_lt (Nat.lt_of_lt_of_le (Heap.lt_size e) (I.ok.cab x c hfn hc)))).trans (I.base.keep b o e n hb hx)
    · obtain ⟨sl, e1⟩ := I.base.slot b o e n hb hx
      exact ⟨sl, (hs.2 b (Nat.ne_of_lt (Nat.lt_of_lt_of_le (Heap.lt_size e) (I.ok.cab x c hfn hc)))).trans e1⟩
    · obtain ⟨o', e1⟩ := I.base.there b o e hx
      exact ⟨o', (hs.2 b (Nat.ne_of_lt (Nat.lt_of_lt_of_le (Heap.lt_size e) (I.ok.cab x c hfn hc)))).trans e1⟩
    · by_cases hj : j = i
      · subst hj
        rw [hi] at e1; cases e1
        rw [List.getElem?_set_self hiσ] at e2
        cases e2
        exact ⟨u, r, .inr ⟨.inl hk, c, hc, hc'⟩⟩
      · rw [List.getElem?_set_ne (Ne.symm hj)] at e2
        obtain ⟨u', r', q⟩ := hl j y v' e1 e2 e3
        refine ⟨u', r', ?_⟩
        rcases q with q | ⟨k, c', e, z'⟩
        · exact .inl q
        · refine .inr ⟨k, c', e, z'.sameBut hs ?_⟩
          rintro rfl
          exact hj (nodup_ix hN e1 (I.ok.inj _ _ _ e hc ▸ hi))
    · by_cases hcc : c' = c
      · subst hcc; exact ⟨_, hc'⟩
      · obtain ⟨w2, z2⟩ := I.cell y c' e
        exact ⟨w2, z2.sameBut hs hcc⟩
    · obtain ⟨e, n, ne, nf, d⟩ := I.pin p hp
      refine ⟨(hs.2 p.1 ?_).trans e, n, ne, nf, d⟩
      intro q
      rw [q, hoc] at e
      have q' : oc = p.2 := Option.some.inj e
      exact d w' (by rw [← q']; exact hocd)
theorem store_ok {M : Model} {A : Around} {E : Value → Shared → Prop} {i : Nat} {x : Str} {v : V} {u : Value} {Q : Unit → Shared → Prop} (I : Inv X pins σ H s) (hN : X.N.Nodup) (hi : X.N[i]? = some x) (hx : Loc X.env.scope x) (r : RelV v u)
    (h : ∀ s', Inv X pins (σ.set i (some v)) H s' → Q () s') (hf : X.fn x = true ∨ X.env.scope.names.lookup x = some .local := by first | exact .inl rfl | exact .inr rfl | assumption) : wpAny M A (storeName X.env x u) Q E s :=
  store_ok2 I hN hi hx r (fun s' I' _ => h s' I') hf
/-- behind a call or a block, the state as it is -/
theorem Inv.call' {s' : Shared} {ch : List Addr} (I : Inv X pins σ H s) (ho : s'.os = s.os) (u : Un (frs X.stack) ch H H' s.heap s'.heap) (hok : HOk X.prog X.w H' s'.heap) (hg : AllBare s'.gens)
    (hch : ∀ b ∈ ch, (b ∈ X.ex ∨ X.s₀.heap.objs.size ≤ b) ∧ b ≠ X.env.locals ∧ (∀ x c, X.env.cells.lookup x = some c → c ≠ b) ∧ ∀ p ∈ X.pn ++ pins, p.1 ≠ b) : Inv X pins σ H' s' := by
  obtain ⟨h', g', d', t', o'⟩ := s'
  have e : o' = s.os := ho
  subst e
  exact I.call (g' := g') (t' := t') (d' := d') u hok hg hch
end

/-! ### the judgements -/
/-- an exception: its class, its own dict's address (where it has one), the abstract heap behind it -/
abbrev XK := Value → Option Addr → Hp → Prop
abbrev St := List (Option V)
abbrev VK := V → Hp → Prop
/-- an expression's reading; a test's; an argument list's -/
abbrev TE := St → Hp → VK → Prop
abbrev TT := St → Hp → (Bool → Hp → Prop) → Prop
abbrev TA := St → Hp → (List V → Hp → Prop) → Prop
/-- what is wanted behind a statement -/
structure Ends where
  nx : St → Hp → Prop
  rt : VK
  bk : St → Hp → Prop := fun _ _ => False
  ct : St → Hp → Prop := fun _ _ => False
abbrev TS := Ends → St → Hp → Prop

def EP (X : Cx) (pins : List (Addr × Obj)) (σ : St) (Q : VK) (u : Value) (s' : Shared) : Prop := ∃ v H', Inv X pins σ H' s' ∧ RelV v u ∧ Q v H'
def TP (X : Cx) (pins : List (Addr × Obj)) (σ : St) (Q : Bool → Hp → Prop) (b : Bool) (s' : Shared) : Prop := ∃ H', Inv X pins σ H' s' ∧ Q b H'
def AP (X : Cx) (pins : List (Addr × Obj)) (σ : St) (Q : List V → Hp → Prop) (us : List Value) (s' : Shared) : Prop := ∃ vs H', Inv X pins σ H' s' ∧ Vals vs us ∧ Q vs H'
def SP (X : Cx) (pins : List (Addr × Obj)) (D : Ends) (f : Flow) (s' : Shared) : Prop :=
  match f with
  | .next => ∃ σ' H', Inv X pins σ' H' s' ∧ D.nx σ' H'
  | .brk => ∃ σ' H', Inv X pins σ' H' s' ∧ D.bk σ' H'
  | .cont => ∃ σ' H', Inv X pins σ' H' s' ∧ D.ct σ' H'
  | .ret u => ∃ v σ' H', Inv X pins σ' H' s' ∧ RelV v u ∧ D.rt v H'

def PE (X : Cx) (e : Expr) (t : TE) : Prop :=
  ∀ (pins : List (Addr × Obj)) (s : Shared) (σ : St) (H : Hp) (Q : VK), Inv X pins σ H s → t σ H Q → wpAny (model X.prog X.w) X.A (eval e X.env) (EP X pins σ Q) X.xe s
def PT (X : Cx) (e : Expr) (t : TT) : Prop :=
  ∀ (pins : List (Addr × Obj)) (s : Shared) (σ : St) (H : Hp) (Q : Bool → Hp → Prop), Inv X pins σ H s → t σ H Q → wpAny (model X.prog X.w) X.A (isTrue e X.env (eval e X.env)) (TP X pins σ Q) X.xe s
/-- a test whatever its 'whole' is (and, or) -/
def PW (X : Cx) (e : Expr) (t : TT) : Prop :=
  ∀ (whole : Sem Value) (pins : List (Addr × Obj)) (s : Shared) (σ : St) (H : Hp) (Q : Bool → Hp → Prop), Inv X pins σ H s → t σ H Q → wpAny (model X.prog X.w) X.A (isTrue e X.env whole) (TP X pins σ Q) X.xe s
theorem PW.pt {X : Cx} {e : Expr} {t : TT} (h : PW X e t) : PT X e t := h _
/-- an argument list (no star), from the left -/
def PA (X : Cx) (es : List Expr) (t : TA) : Prop :=
  ∀ (pos : Pos) (pins : List (Addr × Obj)) (s : Shared) (σ : St) (H : Hp) (Q : List V → Hp → Prop), Inv X pins σ H s → t σ H Q → wpAny (model X.prog X.w) X.A (spliced (backTo pos (starEach es X.env))) (AP X pins σ Q) X.xe s
def PS (X : Cx) (st : Stmt) (t : TS) : Prop :=
  ∀ (pins : List (Addr × Obj)) (s : Shared) (σ : St) (H : Hp) (D : Ends), Inv X pins σ H s → t D σ H → wpAny (model X.prog X.w) X.A (exec st X.env) (SP X pins D) X.xe s
def PSs (X : Cx) (st : List Stmt) (t : TS) : Prop :=
  ∀ (pins : List (Addr × Obj)) (s : Shared) (σ : St) (H : Hp) (D : Ends), Inv X pins σ H s → t D σ H → wpAny (model X.prog X.w) X.A (execs st X.env) (SP X pins D) X.xe s
/-- weaken the end -/
theorem thn {α : Type} {t : Sem α} {Q Q' : α → Shared → Prop} {M : Model} {A : Around} {E : Value → Shared → Prop} {s : Shared} (h : wpAny M A t Q E s) (hQ : ∀ a s, Q a s → Q' a s) : wpAny M A t Q' E s := wpAny_mono h hQ fun _ _ x => x
end L2

namespace L2
open PySem PySem.Spec PyProof.Rows
section
variable {X : Cx}

/-! ### names and constants -/
def tVar (i : Nat) : TE := fun σ H Q => ∃ v, σ[i]? = some (some v) ∧ Q v H
def tC (v : V) : TE := fun _ H Q => Q v H
theorem pe_var {i : Nat} {x : Str} {pos : Pos} (hN : X.N[i]? = some x) (hv : Vis X.env.scope x) (hd : (x == ("__debug__" : Str)) = false := by decide) (hcd : (x == ("__classdict__" : Str)) = false := by decide) : PE X (.Name x pos) (tVar i) := by
  intro pins s σ H Q I h
  obtain ⟨v, e, h⟩ := h
  obtain ⟨m, hn, hl⟩ := I.loc
  obtain ⟨u, r, l⟩ := hl i x v hN e hv
  have fin : EP X pins σ Q u s := ⟨v, H, I, r, h⟩
  rcases l with ⟨hk, hm⟩ | ⟨hk, c, hc, hcell⟩
  · exact wpAny_Name (wpAny_loadName_local I.ok.kind hk hn hm fin) hd
  · rcases hk with hk | hk
    · exact wpAny_Name (wpAny_loadName_cell I.ok.kind hk hc hcell fin) hd
    · exact wpAny_Name (wpAny_loadName_free I.ok.kind hk hc hcell fin hcd) hd
theorem pe_int {i j pos} : PE X (.Constant (.int i) j pos) (tC (.int i)) := fun _ _ _ H _ I h => wpAny_Constant_int ⟨.int i, H, I.tok _, ⟨_, rfl⟩, h⟩
theorem pe_bl {b j pos} : PE X (.Constant (.bool b) j pos) (tC (.bl b)) := fun _ _ _ H _ I h => Constant_bool ⟨.bl b, H, I, rfl, h⟩
theorem pe_non {j pos} : PE X (.Constant .none j pos) (tC .non) := fun _ _ _ H _ I h => Constant_none ⟨.non, H, I, rfl, h⟩
theorem pe_str {x j pos} : PE X (.Constant (.str x) j pos) (tC (.str x)) := fun _ _ _ H _ I h => Calls.Constant_str ⟨.str x, H, I.tok _, ⟨_, rfl⟩, h⟩

/-- a global name of the def -/
def Gl (X : Cx) (x : Str) : Prop := X.env.kindOf x = some .globalImplicit
theorem ld_glob {E : Value → Shared → Prop} {pins : List (Addr × Obj)} {s : Shared} {σ : St} {H : Hp} {x : Str} {u : Value} {pos : Pos} {Q : Value → Shared → Prop} (I : Inv X pins σ H s) (hg : Gl X x) (hm : X.mg x = some u) (h : Q u s)
    (hd : (x == ("__debug__" : Str)) = false := by decide) : wpAny (model X.prog X.w) X.A (eval (.Name x pos) X.env) Q E s :=
  Calls.Name_function_global I.ok.kind hg (Calls.loadGlobal_global (by rw [I.ok.glob]; exact I.mod.glob.keeps I.bk) hm h) hd
theorem ld_blt {E : Value → Shared → Prop} {pins : List (Addr × Obj)} {s : Shared} {σ : St} {H : Hp} {x : Str} {u : Value} {pos : Pos} {Q : Value → Shared → Prop} (I : Inv X pins σ H s) (hg : Gl X x) (hm : X.mg x = none) (hv : bootBuiltins x = some u) (h : Q u s)
    (hn : x ≠ "__name__" := by decide) (hd : (x == ("__debug__" : Str)) = false := by decide) : wpAny (model X.prog X.w) X.A (eval (.Name x pos) X.env) Q E s := by
  obtain ⟨mb, h1, h2⟩ := I.mod.blt
  exact Calls.Name_function_global I.ok.kind hg (Calls.loadGlobal_builtin (by rw [I.ok.glob]; exact I.mod.glob.keeps I.bk) hm (by rw [I.ok.blt]; exact h1.keeps I.bk) ((h2 x hn).trans hv) h) hd
/-- a module's constant, a class, a function, as a value -/
theorem pe_glob {x : Str} {v : V} {u : Value} {pos : Pos} (hg : Gl X x) (hm : X.mg x = some u) (r : RelV v u) (hd : (x == ("__debug__" : Str)) = false := by decide) : PE X (.Name x pos) (tC v) :=
  fun _ _ _ H _ I h => ld_glob I hg hm ⟨v, H, I, r, h⟩ hd
theorem pe_bltn {x : Str} {v : V} {u : Value} {pos : Pos} (hg : Gl X x) (hm : X.mg x = none) (hv : bootBuiltins x = some u) (r : RelV v u) (hn : x ≠ "__name__" := by decide) (hd : (x == ("__debug__" : Str)) = false := by decide) : PE X (.Name x pos) (tC v) :=
  fun _ _ _ H _ I h => ld_blt I hg hm hv ⟨v, H, I, r, h⟩ hn hd

/-! ### arithmetic -/
/-- two ints -/
def t2I (ta tb : TE) (k : Int → Int → Hp → Prop) : St → Hp → Prop := fun σ H => ta σ H fun x H1 => tb σ H1 fun y H2 => ∃ i j, x = .int i ∧ y = .int j ∧ k i j H2
def tAdd (ta tb : TE) : TE := fun σ H Q => t2I ta tb (fun i j H2 => Q (.int (i + j)) H2) σ H
def tSub (ta tb : TE) : TE := fun σ H Q => t2I ta tb (fun i j H2 => Q (.int (i - j)) H2) σ H
/-- the left factor below 2^64 -/
def tMul (ta tb : TE) : TE := fun σ H Q => t2I ta tb (fun i j H2 => (-(2 ^ 64) < i ∧ i < 2 ^ 64) ∧ Q (.int (i * j)) H2) σ H
variable {a b : Expr} {ta tb : TE} {pos : Pos}
/-! ### comparisons -/
def PC (X : Cx) (op : CmpOp) (a b : Expr) (t : TE) : Prop :=
  ∀ (pins : List (Addr × Obj)) (s : Shared) (σ : St) (H : Hp) (Q : VK), Inv X pins σ H s → t σ H Q →
    wpAny (model X.prog X.w) X.A (eval a X.env) (fun v s₁ => wpAny (model X.prog X.w) X.A (eval b X.env) (fun u s₂ => wpAny (model X.prog X.w) X.A (compareOp op v u) (EP X pins σ Q) X.xe s₂) X.xe s₁) X.xe s
def tCmp (p : Int → Int → Bool) (ta tb : TE) : TE := fun σ H Q => t2I ta tb (fun i j H2 => Q (.bl (p i j)) H2) σ H
abbrev tLt : TE → TE → TE := tCmp fun i j => decide (i < j)
abbrev tLe : TE → TE → TE := tCmp fun i j => decide (i ≤ j)
abbrev tGt : TE → TE → TE := tCmp fun i j => decide (j < i)
abbrev tGe : TE → TE → TE := tCmp fun i j => decide (j ≤ i)
abbrev tEqI : TE → TE → TE := tCmp fun i j => decide (i = j)
abbrev tNeI : TE → TE → TE := tCmp fun i j => !decide (i = j)
/-- is None -/
def tIsN (ta : TE) : TE := fun σ H Q => ta σ H fun x H1 => Q (.bl (decide (x = .non))) H1
def tNotN (ta : TE) : TE := fun σ H Q => ta σ H fun x H1 => Q (.bl (!decide (x = .non))) H1
/-- a comparison as a value, as a test -/
def tB (t : TE) : TT := fun σ H Q => t σ H fun x H1 => ∃ c, x = .bl c ∧ Q c H1
theorem pe_cmp {op : CmpOp} {t : TE} (h : PC X op a b t) (h1 : behindInMarks op b = false := by first | exact nobehind _ (by decide) (by decide) | rfl) : PE X (.Compare a [op] [b] pos) t := fun pins s σ H Q I hw => wpAny_Compare1 (h pins s σ H Q I hw) h1
theorem pt_cmp {op : CmpOp} {t : TE} (h : PC X op a b t) (h1 : behindInMarks op b = false := by first | exact nobehind _ (by decide) (by decide) | rfl) : PT X (.Compare a [op] [b] pos) (tB t) := by
  intro pins s σ H Q I hw
  refine wpAny_isTrue_Compare1 (thn (h pins s σ H _ I hw) fun v s1 h1 => thn h1 fun u s2 h2 => thn h2 fun c s3 ⟨x, H1, I1, r1, q1⟩ => ?_) h1
  obtain ⟨d, rfl, q⟩ := q1
  cases r1
  exact wpAny_truthy_bool ⟨H1, I1, q⟩
/-- an expression whose value is a bool, as a test -/
theorem pt_val {e : Expr} {t : TE} (h : PE X e t) (he : ∀ whole, isTrue e X.env whole = (do let v ← whole; standAt e.pos; holding [v] (truthy v)) := by intro _; rfl) : PT X e (tB t) := by
  intro pins s σ H Q I hw
  refine isTrue_plain (thn (h pins s σ H _ I hw) fun v s1 ⟨x, H1, I1, r1, q1⟩ => ?_) (he _)
  obtain ⟨d, rfl, q⟩ := q1
  cases r1
  exact wpAny_truthy_bool ⟨H1, I1, q⟩

/-! ### and, or, not -/
variable {tA tB' : TT} {rest : List Expr}
def tAnd (t u : TT) : TT := fun σ H Q => t σ H fun c H1 => if c = true then u σ H1 Q else Q false H1
def tOr (t u : TT) : TT := fun σ H Q => t σ H fun c H1 => if c = true then Q true H1 else u σ H1 Q
def tNot (t : TT) : TT := fun σ H Q => t σ H fun c H1 => Q (!c) H1
theorem pw_and1 (ha : PT X a tA) : PW X (.BoolOp .And [a] pos) tA := by
  intro wh pins s σ H Q I h
  refine isTrue_and (thn (ha pins s σ H Q I h) fun c s1 e => ?_)
  cases c with
  | true => exact isTrue_and_nil e
  | false => exact e
theorem pw_or1 (ha : PT X a tA) : PW X (.BoolOp .Or [a] pos) tA := by
  intro wh pins s σ H Q I h
  refine isTrue_or (thn (ha pins s σ H Q I h) fun c s1 e => ?_)
  cases c with
  | false => exact isTrue_or_nil e
  | true => exact e
theorem pw_and (ha : PT X a tA) (hb : PW X (.BoolOp .And (b :: rest) pos) tB') : PW X (.BoolOp .And (a :: b :: rest) pos) (tAnd tA tB') := by
  intro wh pins s σ H Q I h
  refine isTrue_and (thn (ha pins s σ H _ I h) fun c s1 ⟨H1, I1, q1⟩ => ?_)
  cases c with
  | true => exact hb wh pins s1 σ H1 Q I1 q1
  | false => exact ⟨H1, I1, q1⟩
theorem pw_or (ha : PT X a tA) (hb : PW X (.BoolOp .Or (b :: rest) pos) tB') : PW X (.BoolOp .Or (a :: b :: rest) pos) (tOr tA tB') := by
  intro wh pins s σ H Q I h
  refine isTrue_or (thn (ha pins s σ H _ I h) fun c s1 ⟨H1, I1, q1⟩ => ?_)
  cases c with
  | true => exact ⟨H1, I1, q1⟩
  | false => exact hb wh pins s1 σ H1 Q I1 q1
theorem pt_not (ha : PT X a tA) : PT X (.UnaryOp .Not a pos) (tNot tA) := by
  intro pins s σ H Q I h
  exact isTrue_not (ha pins s σ H (fun c H1 => Q (!c) H1) I h)
/-- .. as values (bools) -/
def tAndV (ta tb : TE) : TE := fun σ H Q => ta σ H fun x H1 => ∃ c, x = .bl c ∧ if c = true then tb σ H1 Q else Q (.bl false) H1
def tOrV (ta tb : TE) : TE := fun σ H Q => ta σ H fun x H1 => ∃ c, x = .bl c ∧ if c = true then Q (.bl true) H1 else tb σ H1 Q
def tNotV (ta : TE) : TE := fun σ H Q => ta σ H fun x H1 => ∃ c, x = .bl c ∧ Q (.bl (!c)) H1
theorem pe_one {op} {t : TE} (h : PE X a t) : PE X (.BoolOp op [a] pos) t := fun pins s σ H Q I hw => BoolOp_one (h pins s σ H Q I hw)
theorem pe_and (ha : PE X a ta) (hb : PE X (.BoolOp .And (b :: rest) pos) tb) : PE X (.BoolOp .And (a :: b :: rest) pos) (tAndV ta tb) := by
  intro pins s σ H Q I h
  refine BoolOp_and (thn (ha pins s σ H _ I h) fun v s1 ⟨x, H1, I1, r1, q1⟩ => ?_)
  obtain ⟨c, rfl, q1⟩ := q1
  cases r1
  refine wpAny_truthy_bool ?_
  cases c with
  | true => exact hb pins s1 σ H1 Q I1 q1
  | false => exact ⟨.bl false, H1, I1, rfl, q1⟩
theorem pe_not (ha : PE X a ta) : PE X (.UnaryOp .Not a pos) (tNotV ta) := by
  intro pins s σ H Q I h
  refine UnaryOp_ (thn (ha pins s σ H _ I h) fun v s1 ⟨x, H1, I1, r1, q1⟩ => ?_)
  obtain ⟨c, rfl, q1⟩ := q1
  cases r1
  exact not_of (wpAny_truthy_bool ⟨.bl (!c), H1, I1, rfl, q1⟩)
/-- a if t else b -/
def tIf (t : TT) (ta tb : TE) : TE := fun σ H Q => t σ H fun c H1 => if c = true then ta σ H1 Q else tb σ H1 Q
theorem pe_ifExp {c : Expr} (hc : PT X c tA) (ha : PE X a ta) (hb : PE X b tb) : PE X (.IfExp c a b pos) (tIf tA ta tb) := by
  intro pins s σ H Q I h
  refine wpAny_IfExp (thn (hc pins s σ H _ I h) fun d s1 ⟨H1, I1, q1⟩ => ?_)
  cases d with
  | true => exact ha pins s1 σ H1 Q I1 q1
  | false => exact hb pins s1 σ H1 Q I1 q1
end
end L2

namespace L2
open PySem PySem.Spec PyProof.Rows

/-! ### a list, a tuple that is read: tracked, frozen, or an object of the module -/
def SqL (K : PySem.W.Frag) (H : Hp) (a : Addr) (xs : List V) : Prop :=
  Rd H a (.lst xs) ∨
    ∃ (o : Obj) (its : Array Value) (n : Nat), K.lookup a = some o ∧ o.cls = .type "list" ∧ o.dict = none ∧ o.data = .seq its n ∧ its.size ≤ sizeLine ∧ Vals xs its.toList
def SqT (K : PySem.W.Frag) (H : Hp) (a : Addr) (xs : List V) : Prop :=
  Rd H a (.tup xs) ∨
    ∃ (o : Obj) (its : Array Value) (n : Nat), K.lookup a = some o ∧ o.cls = .type "tuple" ∧ o.data = .seq its n ∧ its.size ≤ sizeLine ∧ Vals xs its.toList
def absV : Value → Option V
  | .none => some .non
  | .bool b => some (.bl b)
  | .int i _ => some (.int i)
  | .str x _ => some (.str x)
  | .bytes b _ => some (.byt b)
  | .float b _ => some (.flt b)
  | .ref a => some (.ref a)
  | .type n => some (.ty n)
  | _ => none
theorem RelV.abs {x : V} {u : Value} (r : RelV x u) : absV u = some x := by
  cases x with
  | non => cases r; rfl
  | bl _ => cases r; rfl
  | int _ => obtain ⟨t, rfl⟩ := r; rfl
  | str _ => obtain ⟨t, rfl⟩ := r; rfl
  | byt _ => obtain ⟨t, rfl⟩ := r; rfl
  | flt _ => obtain ⟨t, rfl⟩ := r; rfl
  | ref _ => cases r; rfl
  | ty _ => cases r; rfl
theorem RelV.inj {x y : V} {u : Value} (r : RelV x u) (q : RelV y u) : x = y := Option.some.inj (r.abs.symm.trans q.abs)
theorem Vals.inj : ∀ {xs ys : List V} {us : List Value}, Vals xs us → Vals ys us → xs = ys
  | _, _, _, .nil, .nil => rfl
  | _, _, _, .cons r t, .cons r' t' => by rw [r.inj r', Vals.inj t t']
section
variable {X : Cx} {pins : List (Addr × Obj)} {σ : St} {H : Hp} {s : Shared} {a : Addr} {xs ys : List V}
theorem SqL.of {K : PySem.W.Frag} (h : H a = some (.lst xs)) : SqL K H a xs := .inl (.inl h)
theorem SqT.of {K : PySem.W.Frag} (h : H a = some (.tup xs)) : SqT K H a xs := .inl (.inl h)
theorem Inv.list (I : Inv X pins σ H s) (h : SqL X.K H a xs) : ∃ its : List Value, Vals xs its ∧ PlainL s.heap a its.toArray ∧ xs.length ≤ sizeLine := by
  rcases h with h | ⟨o, its, n, hk, hc, hd, hs, hz, r⟩
  · obtain ⟨z, its, n, r, e⟩ := h.ok I.hok
    exact ⟨its, r, ⟨_, n, e, rfl, rfl, rfl⟩, z⟩
  · refine ⟨its.toList, r, ⟨o, n, I.kIn a o hk, hc, hd, by simpa using hs⟩, ?_⟩
    have e := r.length
    simp only [Array.length_toList] at e
    omega
theorem Inv.tuple (I : Inv X pins σ H s) (h : SqT X.K H a xs) : ∃ its : List Value, Vals xs its ∧ IsTup s.heap a its.toArray ∧ xs.length ≤ sizeLine := by
  rcases h with h | ⟨o, its, n, hk, hc, hs, hz, r⟩
  · obtain ⟨z, its, r, p⟩ := h.ok I.hok
    exact ⟨its, r, p, z⟩
  · refine ⟨its.toList, r, ⟨o, I.kIn a o hk, hc, n, by simpa using hs⟩, ?_⟩
    have e := r.length
    simp only [Array.length_toList] at e
    omega
theorem Inv.list_inj (I : Inv X pins σ H s) (h : SqL X.K H a xs) (h' : SqL X.K H a ys) : xs = ys := by
  obtain ⟨its, r, ⟨o, n, e, _, _, d⟩, _⟩ := I.list h
  obtain ⟨its', r', ⟨o', n', e', _, _, d'⟩, _⟩ := I.list h'
  rw [e] at e'; cases e'
  rw [d] at d'
  injection d' with d1 _
  have : its = its' := by simpa using congrArg Array.toList d1
  subst this
  exact r.inj r'
end

/-! ### another wish about exceptions -/
abbrev Cx.wish (X : Cx) (E : Value → Shared → Prop) : Cx := { X with xe := E }
/-- no exception leaves -/
abbrev Cx.nox (X : Cx) : Cx := X.wish fun _ _ => False
theorem Cx.Ok.wish {X : Cx} (ok : X.Ok) (E : Value → Shared → Prop) : (X.wish E).Ok :=
  ⟨ok.mod, ok.kind, ok.glob, ok.blt, ok.above, ok.inj, ok.has, ok.cab, ok.hd, ok.frames, ok.stk, ok.exf, ok.bs, ok.bsz, ok.noex, ok.exfs, ok.funs, ok.frf⟩
theorem Cx.Ok.unwish {X : Cx} {E : Value → Shared → Prop} (ok : (X.wish E).Ok) : X.Ok :=
  ⟨ok.mod, ok.kind, ok.glob, ok.blt, ok.above, ok.inj, ok.has, ok.cab, ok.hd, ok.frames, ok.stk, ok.exf, ok.bs, ok.bsz, ok.noex, ok.exfs, ok.funs, ok.frf⟩
section
variable {X : Cx} {pins : List (Addr × Obj)} {σ : St} {H : Hp} {s : Shared} {E : Value → Shared → Prop}
theorem Inv.wish (I : Inv X pins σ H s) (E : Value → Shared → Prop) : Inv (X.wish E) pins σ H s := ⟨I.ok.wish E, I.os, I.bare, I.base, I.loc, I.cell, I.free, I.freeC, I.pin, I.hok, I.len⟩
theorem Inv.unwish (I : Inv (X.wish E) pins σ H s) : Inv X pins σ H s := ⟨I.ok.unwish, I.os, I.bare, I.base, I.loc, I.cell, I.free, I.freeC, I.pin, I.hok, I.len⟩
theorem SP.unwish {D : Ends} {f : Flow} {s' : Shared} (h : SP (X.wish E) pins D f s') : SP X pins D f s' := by
  cases f with
  | next => obtain ⟨σ', H', I, q⟩ := h; exact ⟨σ', H', I.unwish, q⟩
  | brk => obtain ⟨σ', H', I, q⟩ := h; exact ⟨σ', H', I.unwish, q⟩
  | cont => obtain ⟨σ', H', I, q⟩ := h; exact ⟨σ', H', I.unwish, q⟩
  | ret u => obtain ⟨v, σ', H', I, r, q⟩ := h; exact ⟨v, σ', H', I.unwish, r, q⟩
theorem PSs.nox {st : List Stmt} {t : TS} (h : PSs X.nox st t) : PSs X st t := fun pins s σ H D I hw =>
  wpAny_mono (h pins s σ H D (I.wish _) hw) (fun _ _ q => q.unwish) fun _ _ z => False.elim z
end

/-! ### blocks and small statements -/
section
variable {X : Cx} {st : Stmt} {rest : List Stmt} {t u : TS} {e : Expr} {te : TE} {pos : Pos}
def tNext : TS := fun D σ H => D.nx σ H
def tSeq (t u : TS) : TS := fun D σ H => t { D with nx := u D } σ H
theorem pss_nil : PSs X [] tNext := fun _ _ σ H _ I h => wpAny_execs_nil ⟨σ, H, I, h⟩
theorem pss_cons (h1 : PS X st t) (h2 : PSs X rest u) : PSs X (st :: rest) (tSeq t u) := by
  intro pins s σ H D I h
  refine wpAny_execs_cons (thn (h1 pins s σ H { D with nx := u D } I h) fun f s1 q => ?_)
  cases f with
  | next =>
    obtain ⟨σ', H', I', q⟩ := q
    exact h2 pins s1 σ' H' D I' q
  | ret v => exact q
  | brk => exact q
  | cont => exact q
theorem pss_one (h1 : PS X st t) : PSs X [st] t := by
  intro pins s σ H D I h
  refine wpAny_execs_cons (thn (h1 pins s σ H D I h) fun f s1 q => ?_)
  cases f with
  | next => exact wpAny_execs_nil q
  | ret v => exact q
  | brk => exact q
  | cont => exact q
def tBreak : TS := fun D σ H => D.bk σ H
def tCont : TS := fun D σ H => D.ct σ H
/-- in a def's body nothing is shown -/
theorem Inv.quiet {pins : List (Addr × Obj)} {σ : St} {H : Hp} {s : Shared} (I : Inv X pins σ H s) : interactive X.env = false := by simp [interactive, I.ok.kind]
/-- an expression whose value is dropped -/
def tDrop (te : TE) : TS := fun D σ H => te σ H fun _ H1 => D.nx σ H1
theorem ps_expr (he : PE X e te) (hs : swapsWith e none pos.line X.env = pure false := by rfl) : PS X (.Expr e pos) (tDrop te) := by
  intro pins s σ H D I h
  exact wpAny_Expr_any (thn (he pins s σ H _ I h) fun v s1 ⟨x, H1, I1, r1, q1⟩ => ⟨σ, H1, I1, q1⟩) I.quiet hs
def tRet (te : TE) : TS := fun D σ H => te σ H D.rt
theorem ps_ret (he : PE X e te) : PS X (.Return (some e) pos) (tRet te) := by
  intro pins s σ H D I h
  exact wpAny_Return_some (thn (he pins s σ H _ I h) fun v s1 ⟨x, H1, I1, r1, q1⟩ => ⟨x, σ, H1, I1, r1, q1⟩)
def tRetN : TS := fun D _ H => D.rt .non H
def tIfS (c : TT) (t u : TS) : TS := fun D σ H => c σ H fun b H1 => if b = true then t D σ H1 else u D σ H1
theorem ps_if {c : Expr} {a b : List Stmt} {tc : TT} (hc : PT X c tc) (ha : PSs X a t) (hb : PSs X b u) : PS X (.If c a b pos) (tIfS tc t u) := by
  intro pins s σ H D I h
  refine wpAny_If (thn (hc pins s σ H _ I h) fun d s1 ⟨H1, I1, q1⟩ => ?_)
  cases d with
  | true => exact ha pins s1 σ H1 D I1 q1
  | false => exact hb pins s1 σ H1 D I1 q1
/-- code that the proof never comes to -/
def tNever : TS := fun _ _ _ => False
theorem ps_never : PS X st tNever := fun _ _ _ _ _ _ h => h.elim
theorem pss_never {sts : List Stmt} : PSs X sts tNever := fun _ _ _ _ _ _ h => h.elim
end

/-! ### targets -/
abbrev TG := V → St → Hp → (St → Hp → Prop) → Prop
abbrev TGs := List V → St → Hp → (St → Hp → Prop) → Prop
def PG (X : Cx) (target : Expr) (t : TG) : Prop :=
  ∀ (pins : List (Addr × Obj)) (s : Shared) (σ : St) (H : Hp) (v : V) (u : Value) (Q : St → Hp → Prop), Inv X pins σ H s → RelV v u → t v σ H Q →
    wpAny (model X.prog X.w) X.A (assign target X.env u) (fun _ s' => ∃ σ' H', Inv X pins σ' H' s' ∧ Q σ' H') X.xe s
/-- several targets, one after another -/
def PGs (X : Cx) (ts : List Expr) (t : TGs) : Prop :=
  ∀ (pins : List (Addr × Obj)) (s : Shared) (σ : St) (H : Hp) (vs : List V) (us : List Value) (Q : St → Hp → Prop), Inv X pins σ H s → Vals vs us → t vs σ H Q →
    wpAny (model X.prog X.w) X.A (assignInOrder ((assignEach ts X.env).map (·.2)) us) (fun _ s' => ∃ σ' H', Inv X pins σ' H' s' ∧ Q σ' H') X.xe s
/-- o[i] = v, by values -/
abbrev TSet := V → V → V → Hp → (Hp → Prop) → Prop
def PSet (X : Cx) (t : TSet) : Prop :=
  ∀ (pins : List (Addr × Obj)) (s : Shared) (σ : St) (H : Hp) (o i v : V) (ov iv u : Value) (Q : Hp → Prop), Inv X pins σ H s → RelV o ov → RelV i iv → RelV v u → t o i v H Q →
    wpAny (model X.prog X.w) X.A (setItem ov iv u) (fun _ s' => ∃ H', Inv X pins σ H' s' ∧ Q H') X.xe s
/-- a op= b, by values -/
abbrev TIp := V → V → Hp → VK → Prop
def PIp (X : Cx) (op : Operator) (t : TIp) : Prop :=
  ∀ (pins : List (Addr × Obj)) (s : Shared) (σ : St) (H : Hp) (x y : V) (v u : Value) (Q : VK), Inv X pins σ H s → RelV x v → RelV y u → t x y H Q →
    wpAny (model X.prog X.w) X.A (inplaceOp op v u) (EP X pins σ Q) X.xe s
section
variable {X : Cx} {pos : Pos}
def gName (i : Nat) : TG := fun v σ H Q => Q (σ.set i (some v)) H
theorem pg_name {i : Nat} {x : Str} (hN : X.N.Nodup) (hi : X.N[i]? = some x) (hx : Loc X.env.scope x) (hf : X.fn x = true ∨ X.env.scope.names.lookup x = some .local := by first | exact .inl rfl | exact .inr rfl | assumption) : PG X (.Name x pos) (gName i) := by
  intro pins s σ H v u Q I r h
  exact wpAny_assign_Name (store_ok I hN hi hx r (fun s' I' => ⟨_, H, I', h⟩) hf)
def gNil : TGs := fun vs σ H Q => vs = [] ∧ Q σ H
def gCons (t : TG) (u : TGs) : TGs := fun vs σ H Q => ∃ v r, vs = v :: r ∧ t v σ H fun σ' H' => u r σ' H' Q
theorem pgs_nil : PGs X [] gNil := by
  intro pins s σ H vs us Q I r h
  obtain ⟨e, h⟩ := h
  subst e
  cases r
  exact assignInOrder_nil ⟨σ, H, I, h⟩
theorem pgs_cons {e : Expr} {es : List Expr} {t : TG} {u : TGs} (h1 : PG X e t) (h2 : PGs X es u)
    (hs : (assignEach (e :: es) X.env).map (·.2) = assign e X.env :: (assignEach es X.env).map (·.2) := by rfl) : PGs X (e :: es) (gCons t u) := by
  intro pins s σ H vs us Q I r h
  obtain ⟨v, vr, e1, h⟩ := h
  subst e1
  cases r with
  | cons r rr =>
    rw [hs]
    refine assignInOrder_cons (thn (h1 pins s σ H _ _ _ I r h) fun _ s1 ⟨σ1, H1, I1, q1⟩ => ?_)
    exact h2 pins s1 σ1 H1 _ _ Q I1 rr q1
/-- (a, b, ..) = a tuple of that length -/
def gTup (K : PySem.W.Frag) (n : Nat) (t : TGs) : TG := fun v σ H Q => ∃ a xs, v = .ref a ∧ SqT K H a xs ∧ xs.length = n ∧ t xs σ H Q
theorem pg_tup {es : List Expr} {k : Nat} {t : TGs} {n : Nat} (hc : X.calm = true) (h : PGs X es t)
    (hn : (assignEach es X.env).length = n := by rfl) (hst : (assignEach es X.env).findIdx? (·.1) = none := by rfl) : PG X (.Tuple es k pos) (gTup X.K n t) := by
  intro pins s σ H v u Q I r hw
  obtain ⟨a, xs, e1, hq, hl, hw⟩ := hw
  subst e1
  cases r
  obtain ⟨its, rv, ht, hz⟩ := I.tuple hq
  refine assign_Tuple_tuple (I.ok.hd hc) ht (by simp [hn, ← hl, rv.length]) hst fun h' hx => ?_
  have I1 : Inv X pins σ H { s with heap := h' } := I.kept (t' := s.toks) fun b o e => hx b o (Nat.ne_of_lt (Heap.lt_size e)) e
  exact h pins _ σ H xs _ Q I1 (by simpa using rv) hw
/-- o[i] = .. -/
def gSub (to ti : TE) (t : TSet) : TG := fun v σ H Q => to σ H fun o H1 => ti σ H1 fun i H2 => t o i v H2 fun H3 => Q σ H3
theorem pg_sub {o i : Expr} {to ti : TE} {t : TSet} (ho : PE X o to) (hi : PE X i ti) (hs : PSet X t)
    (ha : ∀ v, assign (.Subscript o i pos) X.env v = (do
      let ov ← holding [v] (eval o X.env)
      let iv ← holding [v, ov] (eval i X.env)
      standAt pos
      holding [v, ov, iv] (setItem ov iv v)
      release [v, ov, iv] []) := by intro _; rfl) : PG X (.Subscript o i pos) (gSub to ti t) := by
  intro pins s σ H v u Q I r h
  rw [ha]
  refine wpAny_bind (wpAny_holding (thn (ho pins s σ H _ I h) fun ov s1 ⟨x, H1, I1, r1, q1⟩ => ?_))
  refine wpAny_bind (wpAny_holding (thn (hi pins s1 σ H1 _ I1 q1) fun iv s2 ⟨y, H2, I2, r2, q2⟩ => ?_))
  refine wpAny_bind (wpAny_standAt (wpAny_bind (wpAny_holding (thn (hs pins s2 σ H2 x y v ov iv u _ I2 r1 r2 r q2) fun _ s3 ⟨H3, I3, q3⟩ => ?_))))
  exact wpAny_release ⟨σ, H3, I3, q3⟩
/-- target = value -/
def tAsg (te : TE) (g : TG) : TS := fun D σ H => te σ H fun x H1 => g x σ H1 D.nx
theorem ps_asg {tg e : Expr} {te : TE} {g : TG} (he : PE X e te) (hg : PG X tg g) (hs : swapsWithSole [tg] e pos.line X.env = pure false := by rfl) (hw : swappedStores [tg] e X.env = pure none := by rfl)
    (h1 : (assignEach [tg] X.env).map (·.2) = [assign tg X.env] := by rfl) : PS X (.Assign [tg] e pos) (tAsg te g) := by
  intro pins s σ H D I h
  refine wpAny_Assign_stores (thn (he pins s σ H _ I h) fun v s1 ⟨x, H1, I1, r1, q1⟩ => ?_) hs hw
  rw [h1]
  exact thn (hg pins s1 σ H1 x v _ I1 r1 q1) fun _ s2 q => q
/-- name = value -/
theorem ps_set {i : Nat} {x : Str} {e : Expr} {te : TE} {pos' : Pos} (hN : X.N.Nodup) (hi : X.N[i]? = some x) (hx : Loc X.env.scope x) (he : PE X e te) (hs : swapsWith e (some (.Name x pos')) pos.line X.env = pure false := by rfl) (hf : X.fn x = true ∨ X.env.scope.names.lookup x = some .local := by first | exact .inl rfl | exact .inr rfl | assumption) :
    PS X (.Assign [.Name x pos'] e pos) (tAsg te (gName i)) := by
  intro pins s σ H D I h
  refine wpAny_Assign_Name (thn (he pins s σ H _ I h) fun v s1 ⟨y, H1, I1, r1, q1⟩ => ?_) hs
  exact store_ok I1 hN hi hx r1 (fun s2 I2 => ⟨_, H1, I2, q1⟩) hf
/-- a, b = x, y with plain local names: stored from the right; the pair itself is not tracked (the opening rows as in PyProof/Rows/TupAssign.lean:23) -/
def tPar (i j : Nat) (ta : TA) : TS := fun D σ H => ta σ H fun vs H1 => ∃ v w, vs = [v, w] ∧ D.nx ((σ.set i (some v)).set j (some w)) H1
theorem ps_par {i j : Nat} {x y : Str} {a b : Expr} {ta : TA} {px py pt : Pos} {kt k2 pt2} (hc : X.calm = true) (hN : X.N.Nodup) (hi : X.N[i]? = some x) (hj : X.N[j]? = some y) (hij : i ≠ j)
    (hx : X.env.scope.names.lookup x = some .local) (hy : X.env.scope.names.lookup y = some .local) (ha : PA X [a, b] ta)
    (hw : swappedStores [.Tuple [.Name x px, .Name y py] kt pt] (.Tuple [a, b] k2 pt2) X.env = pure (some [x, y]))
    (hs : swapsWithSole [.Tuple [.Name x px, .Name y py] kt pt] (.Tuple [a, b] k2 pt2) pos.line X.env = pure false := by rfl) :
    PS X (.Assign [.Tuple [.Name x px, .Name y py] kt pt] (.Tuple [a, b] k2 pt2) pos) (tPar i j ta) := by
  intro pins s σ H D I h
  rw [exec_Assign_arm]
  refine wpAny_bind (wpAny_standAt ?_)
  rw [hs]
  refine wpAny_bind (wpAny_pure ?_)
  rw [if_neg (by decide)]
  refine wpAny_bind (Tuple_ (thn (ha _ pins s σ H _ I h) fun us s1 ⟨vs, H1, I1, r1, q1⟩ => ?_))
  obtain ⟨v, w, e1, q1⟩ := q1
  subst e1
  obtain ⟨u1, u2, rfl, rv, rw'⟩ : ∃ u1 u2, us = [u1, u2] ∧ RelV v u1 ∧ RelV w u2 := by
    cases r1 with
    | cons p q =>
      cases q with
      | cons p' q' =>
        cases q'
        exact ⟨_, _, rfl, p, p'⟩
  refine wpAny_newObj_type ?_ (by show 2 ≤ sizeLine; decide)
  have I2 : Inv X pins σ H1 { s1 with heap := s1.heap.push { cls := .type "tuple", data := .seq [u1, u2].toArray } } := I1.kept (t' := s1.toks) fun b o e => Heap.get?_push_of_some _ e
  rw [hw]
  refine wpAny_bind (wpAny_pure ?_)
  show wpAny (model X.prog X.w) X.A (do rule "assign.swapped-stores"; let items ← unpackItems (.ref s1.heap.objs.size) 2 none; assignInOrder [fun v => bindName X.env y v, fun v => bindName X.env x v] items.reverse; pure Flow.next) _ _ _
  refine wpAny_bind (wpAny_rule (wpAny_bind (unpackItems_tuple (items := #[u1, u2]) (I.ok.hd hc) (IsTup.new s1.heap _) fun h' hx' => ?_)))
  have I3 := I2.kept (h' := h') (t' := s1.toks) fun b o e => hx' b o (Nat.ne_of_lt (Heap.lt_size e)) e
  show wpAny _ _ (assignInOrder [fun v => bindName X.env y v, fun v => bindName X.env x v] [u2, u1] >>= fun _ => pure Flow.next) _ _ _
  refine wpAny_bind (assignInOrder_cons (wpAny_bindName (store_ok I3 hN hj (.inl hy) rw' (fun s2 I4 => ?_) (.inr hy))))
  refine assignInOrder_cons (wpAny_bindName (store_ok I4 hN hi (.inl hx) rv (fun s3 I5 => assignInOrder_nil (wpAny_pure ?_)) (.inr hx)))
  rw [List.set_comm _ _ (Ne.symm hij)] at I5
  exact ⟨_, H1, I5, q1⟩
/-- name op= e -/
def tAug (i : Nat) (te : TE) (ti : TIp) : TS := fun D σ H => ∃ x, σ[i]? = some (some x) ∧ te σ H fun y H1 => ti x y H1 fun z H2 => D.nx (σ.set i (some z)) H2
/-- o[i] op= e -/
def tAugS (to ti te : TE) (tget : V → V → Hp → VK → Prop) (tip : TIp) (tset : TSet) : TS := fun D σ H => to σ H fun o H1 => ti σ H1 fun i H2 => tget o i H2 fun x H3 => te σ H3 fun y H4 => tip x y H4 fun z H5 => tset o i z H5 fun H6 => D.nx σ H6
/-- o[i], by values -/
def PGet (X : Cx) (t : V → V → Hp → VK → Prop) : Prop :=
  ∀ (pins : List (Addr × Obj)) (s : Shared) (σ : St) (H : Hp) (o i : V) (ov iv : Value) (Q : VK), Inv X pins σ H s → RelV o ov → RelV i iv → t o i H Q →
    wpAny (model X.prog X.w) X.A (getItem ov iv) (EP X pins σ Q) X.xe s
/-- ints -/
def ipI (f : Int → Int → Int) : TIp := fun x y H Q => ∃ i j, x = .int i ∧ y = .int j ∧ Q (.int (f i j)) H
end

/-! ### while -/
section
variable {X : Cx} {pos : Pos}
/-- the invariant W with its measure -/
def tWhile (c : TT) (tb : TS) : TS := fun D σ H => ∃ W : Nat → St → Hp → Prop, (∃ m, W m σ H) ∧ ∀ m σ H, W m σ H →
  c σ H fun b H1 => if b = true then ∃ N : St → Hp → Prop, (∀ σ' H', N σ' H' → ∃ m', m' < m ∧ W m' σ' H') ∧ tb { D with nx := N, ct := N, bk := D.nx } σ H1 else D.nx σ H1
theorem ps_while {c : Expr} {body : List Stmt} {tc : TT} {tb : TS} (hp : PassesOwn (model X.prog X.w) X.A X.env X.xe) (hc : PT X c tc) (hb : PSs X body tb) : PS X (.While c body [] pos) (tWhile tc tb) := by
  intro pins s σ H D I h
  obtain ⟨W, ⟨m0, w0⟩, turn⟩ := h
  refine wpAny_While (codeAny_whileLoop (fun n s' => ∃ σ' H', Inv X pins σ' H' s' ∧ W n σ' H') ?_ m0 ⟨σ, H, I, w0⟩)
  rintro n s1 ⟨σ1, H1, I1, w1⟩
  refine wpAny_passesOwn hp (thn (hc pins s1 σ1 H1 _ I1 (turn n σ1 H1 w1)) fun b s2 ⟨H2, I2, q2⟩ => ?_)
  cases b with
  | true =>
    obtain ⟨N, hN, q2⟩ := q2
    rw [if_pos rfl]
    refine wpAny_passesOwn hp (thn (hb pins s2 σ1 H2 _ I2 q2) fun f s3 q3 => ?_)
    cases f with
    | next =>
      obtain ⟨σ3, H3, I3, n3⟩ := q3
      obtain ⟨m', hm, w3⟩ := hN σ3 H3 n3
      exact ⟨m', hm, σ3, H3, I3, w3⟩
    | cont =>
      obtain ⟨σ3, H3, I3, n3⟩ := q3
      obtain ⟨m', hm, w3⟩ := hN σ3 H3 n3
      exact ⟨m', hm, σ3, H3, I3, w3⟩
    | brk => exact q3
    | ret v => exact q3
  | false =>
    rw [if_neg Bool.false_ne_true]
    exact wpAny_execs_nil ⟨σ1, H2, I2, q2⟩
end

/-! ### what a loop or a comprehension walks -/
/-- at turn i: it yields x (the heap may grow), or it stops -/
structure It where
  go : Nat → Hp → Prop
  yld : Nat → Hp → V → Hp → Prop
  stop : Nat → Hp → Prop
/-- the iterator's own objects may turn: they are not the frame's, not pinned, younger than the entry (or a comprehension's own) -/
def FpOk (X : Cx) (pins : List (Addr × Obj)) (H : Hp) (b : Addr) : Prop :=
  H b = none ∧ b ≠ X.env.locals ∧ b ∉ X.fs ∧ (b ∈ X.ex ∨ X.s₀.heap.objs.size ≤ b) ∧ (∀ x c, X.env.cells.lookup x = some c → c ≠ b) ∧ ∀ p ∈ X.pn ++ pins, p.1 ≠ b
theorem Inv.fpOk {X : Cx} {pins : List (Addr × Obj)} {σ : St} {H H' : Hp} {s : Shared} {b : Addr} (I : Inv X pins σ H s) (hb : s.heap.objs.size ≤ b) (hn : H' b = none) : FpOk X pins H' b := by
  refine ⟨hn, Nat.ne_of_gt (Nat.lt_of_lt_of_le I.lt hb), I.nofs hb, .inr (Nat.le_trans I.sz hb), fun x c e z => ?_, fun p hp z => ?_⟩
  · obtain ⟨v, q⟩ := I.cell x c e
    exact absurd (Nat.lt_of_lt_of_le q.lt (by rw [z]; exact hb)) (Nat.lt_irrefl _)
  · exact absurd (Nat.lt_of_lt_of_le (Heap.lt_size (I.pin p hp).1) (by rw [z]; exact hb)) (Nat.lt_irrefl _)
structure Turn (P : Program) (w : World) (K : PySem.W.Frag) (tg : Expr) (J : It) (fp : List Addr) (it : Addr) (tn : Nat → Heap → Prop) : Prop where
  mem : it ∈ fp
  obj : ∀ i h, tn i h → ∀ b ∈ fp, ∃ o, h.get? b = some o ∧ ∀ v, o.data ≠ .cell v
  keep : ∀ i h h', tn i h → (∀ b ∈ fp, ∀ o, h.get? b = some o → h'.get? b = some o) → tn i h'
  item : ∀ (X : Cx), X.prog = P → X.w = w → X.K = K → X.calm = true → ∀ (i : Nat) (pins : List (Addr × Obj)) (s : Shared) (σ : St) (H : Hp) (E : Value → Shared → Prop), Inv X pins σ H s → (∀ b ∈ fp, FpOk X pins H b) → tn i s.heap → J.go i H →
    wpAny (model P w) X.A (pyNext (.ref it)) (fun r s1 => ∃ u, r = some u ∧
      wpAny (model P w) X.A (letOwnedTupleGo tg (.ref it) u) (fun _ s2 => ∃ x H', Inv X pins σ H' s2 ∧ RelV x u ∧ J.yld i H x H' ∧ tn (i + 1) s2.heap ∧ ∀ b ∈ fp, H' b = none) E s1) E s
  done : ∀ (X : Cx), X.prog = P → X.w = w → X.K = K → X.calm = true → ∀ (i : Nat) (pins : List (Addr × Obj)) (s : Shared) (σ : St) (H : Hp) (E : Value → Shared → Prop), Inv X pins σ H s → (∀ b ∈ fp, FpOk X pins H b) → tn i s.heap → J.stop i H →
    wpAny (model P w) X.A (pyNext (.ref it)) (fun r s1 => r = none ∧ Inv X pins σ H s1) E s
  self : ∀ (A : Around) (i : Nat) (s : Shared) (Q : Value → Shared → Prop) (E : Value → Shared → Prop), tn i s.heap → Q (.ref it) s → wpAny (model P w) A (pyIter (.ref it)) Q E s
abbrev TI := St → Hp → (It → Hp → Prop) → Prop
/-- an iterator has come -/
def PIE (X : Cx) (pins : List (Addr × Obj)) (σ : St) (tg : Expr) (R : It → Hp → Prop) (itv : Value) (s2 : Shared) : Prop :=
  ∃ (it : Addr) (fp : List Addr) (tn : Nat → Heap → Prop) (J : It) (H' : Hp), itv = .ref it ∧ Inv X pins σ H' s2 ∧ Turn X.prog X.w X.K tg J fp it tn ∧ tn 0 s2.heap ∧ (∀ b ∈ fp, FpOk X pins H' b) ∧ R J H'
def PI (X : Cx) (tg iter : Expr) (wi : TI) : Prop :=
  ∀ (pins : List (Addr × Obj)) (s : Shared) (σ : St) (H : Hp) (R : It → Hp → Prop), Inv X pins σ H s → wi σ H R →
    wpAny (model X.prog X.w) X.A (eval iter X.env) (fun v s1 => wpAny (model X.prog X.w) X.A (pyIter v) (PIE X pins σ tg R) X.xe s1) X.xe s

/-- the step ahead of the store is nothing for an iterator that keeps no tuple -/
theorem go_of {M : Model} {A : Around} {E : Value → Shared → Prop} {s : Shared} {tg : Expr} {it : Addr} {u : Value} {o : Obj} {n : String} {vs : Array Value} {Q : Unit → Shared → Prop} (ho : s.heap.get? it = some o) (hc : o.cls = .type n) (hd : o.data = .fields vs)
    (hn : ["enumerate", "zip", "dict_itemiterator", "dict_reverseitemiterator", "odict_iterator", "itertools.zip_longest", "itertools.pairwise"].contains n = false) (hQ : Q () s) : wpAny M A (letOwnedTupleGo tg (.ref it) u) Q E s := by
  unfold letOwnedTupleGo
  cases tg <;> first
    | exact wpAny_pure hQ
    | (cases u <;> first
        | exact wpAny_pure hQ
        | (refine wpAny_bind (wpAny_load ho ?_)
           rw [hc, hd]
           show wpAny M A (if (["enumerate", "zip", "dict_itemiterator", "dict_reverseitemiterator", "odict_iterator", "itertools.zip_longest", "itertools.pairwise"].contains n && vs[0]? == some (rawInt _)) = true then _ else _) Q E s
           rw [if_neg (by intro h; rw [hn, Bool.false_and] at h; cases h)]
           exact wpAny_pure hQ))

/-- the list at a, as it stands at each turn (a loop may append to it) -/
def Itl (K : PySem.W.Frag) (a : Addr) : It :=
  ⟨fun i H => ∃ xs x, SqL K H a xs ∧ xs[i]? = some x, fun i H x H' => H' = H ∧ ∀ xs, SqL K H a xs → xs[i]? = some x, fun i H => ∃ xs, SqL K H a xs ∧ xs.length ≤ i⟩
def Itt (K : PySem.W.Frag) (a : Addr) : It :=
  ⟨fun i H => ∃ xs x, SqT K H a xs ∧ xs[i]? = some x, fun i H x H' => H' = H ∧ ∀ xs, SqT K H a xs → xs[i]? = some x, fun i H => ∃ xs, SqT K H a xs ∧ xs.length ≤ i⟩
/-- lo, lo + 1, .. (n of them) -/
def Itr (lo : Int) (n : Nat) : It := ⟨fun i _ => i < n, fun i H x H' => H' = H ∧ x = .int (lo + i), fun i _ => n ≤ i⟩
theorem turn_list {P : Program} {w : World} {K : PySem.W.Frag} {tg : Expr} (a it : Addr) : Turn P w K tg (Itl K a) [it] it (fun i h => h.IsListIter it a i) where
  mem := by simp
  obj := fun i h st b hb => by
    have e : b = it := by simpa using hb
    subst e
    obtain ⟨o, e, c, d⟩ := st
    exact ⟨o, e, fun v z => by rw [d] at z; cases z⟩
  keep := fun i h h' st k => st.at fun o e => k it (by simp) o e
  item := by
    intro X hP hw hK hc i pins s σ H E I hf st hg
    subst hP hw hK
    obtain ⟨xs, x, hq, hx⟩ := hg
    obtain ⟨its, rv, p, hz⟩ := I.list hq
    obtain ⟨u, hu, ru⟩ := rv.get hx
    obtain ⟨f0, f1, f2, f3, f4, f5⟩ := hf it (by simp)
    refine wpAny_pyNext_list_item st p.isList (x := u) (by simpa using hu) fun h' st' sb => ?_
    have I1 : Inv X pins σ H { s with heap := h' } := I.turned (t' := s.toks) (fun b o hb e => (sb.2 b hb).trans e) f0 f1 f3 f4 f5
    obtain ⟨o, e, c, d⟩ := id st'
    exact ⟨u, rfl, go_of (s := { s with heap := h' }) e c d (by decide) ⟨x, H, I1, ru, ⟨rfl, fun ys hy => by rw [I.list_inj hy hq]; exact hx⟩, st', fun b hb => (hf b hb).1⟩⟩
  done := by
    intro X hP hw hK hc i pins s σ H E I hf st hg
    subst hP hw hK
    obtain ⟨xs, hq, hx⟩ := hg
    obtain ⟨its, rv, p, hz⟩ := I.list hq
    obtain ⟨f0, f1, f2, f3, f4, f5⟩ := hf it (by simp)
    have hl := rv.length
    exact wpAny_pyNext_list_end (I.ok.hd hc) st p.isList (by simp; omega) fun h' eb => ⟨rfl, I.turned (t' := s.toks) (fun b o hb e => eb b o hb e) f0 f1 f3 f4 f5⟩
  self := fun _ _ _ _ _ st h => wpAny_pyIter_listiter st h
theorem turn_range {P : Program} {w : World} {K : PySem.W.Frag} {tg : Expr} (it : Addr) (lo : Int) (n : Nat) : Turn P w K tg (Itr lo n) [it] it (fun i h => IsRangeIter h it (lo + (i : Nat) * 1) ((n : Int) - (i : Nat)) 1) where
  mem := by simp
  obj := fun i h st b hb => by
    have e : b = it := by simpa using hb
    subst e
    exact ⟨_, st, fun v z => by
      have z' : Data.fields _ = Data.cell v := z
      cases z'⟩
  keep := fun i h h' st k => k it (by simp) _ st
  item := by
    intro X hP hw hK hc i pins s σ H E I hf st hg
    subst hP hw hK
    obtain ⟨f0, f1, f2, f3, f4, f5⟩ := hf it (by simp)
    have W := Walks.range (prog := X.prog) (w := X.w) (I.ok.hd hc) it lo 1 n
    refine W.item i s _ _ hg st fun v h' tk hv st' kk => ?_
    obtain ⟨t, rfl⟩ := hv
    have I1 : Inv X pins σ H { s with heap := h', toks := tk } := I.turned (fun b o hb e => kk b o (by simpa using hb) e) f0 f1 f3 f4 f5
    refine ⟨_, rfl, go_of (s := { s with heap := h', toks := tk }) (n := "range_iterator") st' rfl rfl (by decide) ⟨.int (lo + i), H, I1, ⟨t, ?_⟩, ⟨rfl, rfl⟩, st', fun b hb => (hf b hb).1⟩⟩
    rw [Int.mul_one]
  done := by
    intro X hP hw hK hc i pins s σ H E I hf st hg
    subst hP hw hK
    obtain ⟨f0, f1, f2, f3, f4, f5⟩ := hf it (by simp)
    exact wpAny_pyNext_range_end (I.ok.hd hc) st (by have : n ≤ i := hg; omega) fun h' eb => ⟨rfl, I.turned (t' := s.toks) (fun b o hb e => eb b o hb e) f0 f1 f3 f4 f5⟩
  self := fun _ _ _ _ _ st h => wpAny_pyIter_rangeiter st h
end L2

namespace L2
open PySem PySem.Spec PyProof.Rows
section
variable {X : Cx} {tg : Expr}
def iList (K : PySem.W.Frag) (tl : TE) : TI := fun σ H R => tl σ H fun x H1 => ∃ a, x = .ref a ∧ (∃ xs, SqL K H1 a xs) ∧ R (Itl K a) H1
def iTup (K : PySem.W.Frag) (tl : TE) : TI := fun σ H R => tl σ H fun x H1 => ∃ a, x = .ref a ∧ (∃ xs, SqT K H1 a xs) ∧ R (Itt K a) H1
theorem pi_list {l : Expr} {tl : TE} (hl : PE X l tl) : PI X tg l (iList X.K tl) := by
  intro pins s σ H R I h
  refine thn (hl pins s σ H _ I h) fun v s1 ⟨x, H1, I1, r1, q1⟩ => ?_
  obtain ⟨a, e, ⟨xs, hq⟩, q⟩ := q1
  subst e
  cases r1
  obtain ⟨its, rv, p, hz⟩ := I1.list hq
  refine wpAny_pyIter_list p.isList ?_
  refine ⟨s1.heap.objs.size, [s1.heap.objs.size], _, _, H1, rfl, I1.kept (t' := s1.toks) fun b o e => Heap.get?_push_of_some _ e, turn_list a _, ⟨_, Heap.get?_push_size _ rfl, rfl, rfl⟩, fun b hb => ?_, q⟩
  have e : b = s1.heap.objs.size := by simpa using hb
  subst e
  exact I1.fpOk (Nat.le_refl _) (I1.hok.fresh (Nat.le_refl _))
/-- a range object just made, walked -/
theorem range_it {pins : List (Addr × Obj)} {σ : St} {H : Hp} {s : Shared} {R : It → Hp → Prop} {E : Value → Shared → Prop} {lo hi : Int} {t u v : Tok} {tk : Nat} (I : Inv X pins σ H s) (h1 : -(2 ^ 62) ≤ lo) (h2 : lo < 2 ^ 62) (h3 : -(2 ^ 62) ≤ hi) (h4 : hi < 2 ^ 62)
    (q : R (Itr lo (hi - lo).toNat) H) : wpAny (model X.prog X.w) X.A (pyIter (.ref s.heap.objs.size)) (PIE X pins σ tg R) E { s with heap := s.heap.push { cls := .type "range", data := .fields #[.int lo t, .int hi u, .int 1 v] }, toks := tk } := by
  refine wpAny_pyIter_range (IsRange.new ..) (small_one h1 h2 h3 h4) ?_
  have I1 : Inv X pins σ H { s with heap := s.heap.push { cls := .type "range", data := .fields #[.int lo t, .int hi u, .int 1 v] }, toks := tk } := I.kept fun b o e => Heap.get?_push_of_some _ e
  refine ⟨(s.heap.push { cls := .type "range", data := .fields #[.int lo t, .int hi u, .int 1 v] }).objs.size, [(s.heap.push { cls := .type "range", data := .fields #[.int lo t, .int hi u, .int 1 v] }).objs.size], _, _, H, rfl,
    I1.kept (t' := tk) fun b o e => Heap.get?_push_of_some _ e, turn_range _ lo (hi - lo).toNat, ?_, fun b hb => ?_, q⟩
  · have e1 : lo + ((0 : Nat) : Int) * 1 = lo := by simp
    have e2 : (((hi - lo).toNat : Nat) : Int) - ((0 : Nat) : Int) = Builtin.Range.rangeSize lo hi 1 := by rw [rangeSize_one]; split <;> omega
    show IsRangeIter _ _ (lo + ((0 : Nat) : Int) * 1) ((((hi - lo).toNat : Nat) : Int) - ((0 : Nat) : Int)) 1
    rw [e1, e2]
    exact Heap.get?_push_size _ rfl
  · have e : b = (s.heap.push { cls := .type "range", data := .fields #[.int lo t, .int hi u, .int 1 v] }).objs.size := by simpa using hb
    subst e
    exact I1.fpOk (Nat.le_refl _) (I1.hok.fresh (Nat.le_refl _))
def iRng1 (ta : TA) : TI := fun σ H R => ta σ H fun vs H1 => ∃ j : Int, vs = [.int j] ∧ -(2 ^ 62) ≤ j ∧ j < 2 ^ 62 ∧ R (Itr 0 j.toNat) H1
def iRng2 (ta : TA) : TI := fun σ H R => ta σ H fun vs H1 => ∃ i j : Int, vs = [.int i, .int j] ∧ (-(2 ^ 62) ≤ i ∧ i < 2 ^ 62 ∧ -(2 ^ 62) ≤ j ∧ j < 2 ^ 62) ∧ R (Itr i (j - i).toNat) H1
theorem pi_range1 {a : Expr} {ta : TA} {p pos : Pos} (hg : Gl X "range") (hm : X.mg "range" = none) (ha : PA X [a] ta) (hs : starEach [a] X.env = [(false, eval a X.env)] := by rfl) : PI X tg (.Call (.Name "range" p) [a] [] pos) (iRng1 ta) := by
  intro pins s σ H R I h
  refine Call_ (ld_blt I hg hm boot_range (PyProof.Rows.callWith_type1 (thn (ha pos pins s σ H _ I h) fun us s1 ⟨vs, H1, I1, r1, q1⟩ => ?_) hs rfl))
  obtain ⟨j, e, q1, q2, q⟩ := q1
  subst e
  cases r1 with
  | cons r rr =>
    cases rr
    obtain ⟨t, rfl⟩ := r
    exact call_range_1 (range_it I1 (by omega) (by omega) q1 q2 (by simpa using q))
theorem pi_range2 {a b : Expr} {ta : TA} {p pos : Pos} (hg : Gl X "range") (hm : X.mg "range" = none) (ha : PA X [a, b] ta) (hs : starEach [a, b] X.env = [(false, eval a X.env), (false, eval b X.env)] := by rfl) (hs2 : starEach [b] X.env = [(false, eval b X.env)] := by rfl) :
    PI X tg (.Call (.Name "range" p) [a, b] [] pos) (iRng2 ta) := by
  intro pins s σ H R I h
  refine Call_ (ld_blt I hg hm boot_range (PyProof.Rows.callWith_type1 (thn (ha pos pins s σ H _ I h) fun us s1 ⟨vs, H1, I1, r1, q1⟩ => ?_) (by rw [hs, hs2]) (by rw [hs2]; rfl)))
  obtain ⟨i, j, e, ⟨q1, q2, q3, q4⟩, q⟩ := q1
  subst e
  cases r1 with
  | cons r rr =>
    cases rr with
    | cons r' rr =>
      cases rr
      obtain ⟨t, rfl⟩ := r
      obtain ⟨t', rfl⟩ := r'
      exact call_range_2 (range_it I1 q1 q2 q3 q4 q)

/-! ### for -/
/-- W: the invariant by the turn and a measure; N: what the body is to reach -/
def tFor (wi : TI) (g : TG) (tb : TS) : TS := fun D σ H => wi σ H fun J H1 => ∃ W : Nat → Nat → St → Hp → Prop, (∃ m, W 0 m σ H1) ∧ ∀ i m σ H, W i m σ H →
  (J.stop i H ∧ D.nx σ H) ∨ (J.go i H ∧ ∃ N : St → Hp → Prop, (∀ σ' H', N σ' H' → ∃ m', m' < m ∧ W (i + 1) m' σ' H') ∧ ∀ x H', J.yld i H x H' → g x σ H' fun σ2 H2 => tb { D with nx := N, ct := N, bk := D.nx } σ2 H2)
/-- the records at fp as they stand -/
def pinsAt (fp : List Addr) (h : Heap) : List (Addr × Obj) := fp.filterMap fun b => (h.get? b).map fun o => (b, o)
theorem mem_pinsAt {fp : List Addr} {h : Heap} {b : Addr} {o : Obj} (hb : b ∈ fp) (e : h.get? b = some o) : (b, o) ∈ pinsAt fp h := List.mem_filterMap.mpr ⟨b, hb, by rw [e]; rfl⟩
theorem of_pinsAt {fp : List Addr} {h : Heap} {p : Addr × Obj} (hp : p ∈ pinsAt fp h) : p.1 ∈ fp ∧ h.get? p.1 = some p.2 := by
  obtain ⟨b, hb, e⟩ := List.mem_filterMap.mp hp
  cases q : h.get? b with
  | none => rw [q] at e; cases e
  | some o =>
    rw [q] at e
    have e' : (b, o) = p := Option.some.inj e
    subst e'
    exact ⟨hb, q⟩
theorem Inv.pinned {pins : List (Addr × Obj)} {σ : St} {H : Hp} {s : Shared} {fp : List Addr} (I : Inv X pins σ H s) (hf : ∀ b ∈ fp, FpOk X pins H b) (ho : ∀ b ∈ fp, ∃ o, s.heap.get? b = some o ∧ ∀ v, o.data ≠ .cell v) : Inv X (pins ++ pinsAt fp s.heap) σ H s :=
  I.pins_of fun p hp => (List.mem_append.mp hp).elim (fun z => I.pin p (List.mem_append_right _ z)) fun z => by
    obtain ⟨hb, e⟩ := of_pinsAt z
    obtain ⟨f0, f1, f2, _⟩ := hf p.1 hb
    obtain ⟨o, e', d⟩ := ho p.1 hb
    rw [e] at e'; cases e'
    exact ⟨e, f0, f1, f2, d⟩
theorem Inv.unpinned {pins pl : List (Addr × Obj)} {σ : St} {H : Hp} {s : Shared} (I : Inv X (pins ++ pl) σ H s) : Inv X pins σ H s := I.pins_of fun p hp => I.pin p (List.mem_append_right _ (List.mem_append_left _ hp))
theorem ps_for {iter : Expr} {body : List Stmt} {wi : TI} {g : TG} {tb : TS} {pos : Pos} (hp : PassesOwn (model X.prog X.w) X.A X.env X.xe) (hc : X.calm = true) (hi : PI X tg iter wi) (hg : PG X tg g) (hb : PSs X body tb)
    (hs : ∀ x, foldedSetIterable iter X.env x = pure x := by intro _; rfl) : PS X (.For tg iter body [] pos) (tFor wi g tb) := by
  intro pins s σ H D I h
  refine wpAny_For (thn (hi pins s σ H _ I h) fun v s1 h1 => thn h1 fun itv s2 h2 => ?_) hs
  obtain ⟨it, fp, tn, J, H2, e, I2, T, st2, f2, W, ⟨m0, w0⟩, turn⟩ := h2
  subst e
  -- what stays true of the iterator's objects through the loop
  have stat : ∀ {H' : Hp}, (∀ b ∈ fp, H' b = none) → ∀ b ∈ fp, FpOk X pins H' b := fun hn b hb => ⟨hn b hb, (f2 b hb).2⟩
  refine codeAny_forLoop_any (fun n s' => ∃ i σ' H', Inv X pins σ' H' s' ∧ tn i s'.heap ∧ (∀ b ∈ fp, H' b = none) ∧ W i n σ' H') ?_ m0 ⟨0, σ, H2, I2, st2, fun b hb => (f2 b hb).1, w0⟩
  rintro n s3 ⟨i, σ3, H3, I3, st3, fr3, w3⟩
  rcases turn i n σ3 H3 w3 with ⟨stop, qn⟩ | ⟨go, N, hN, step⟩
  · refine wpAny_passesOwn hp (thn (T.done X rfl rfl rfl hc i pins s3 σ3 H3 X.xe I3 (stat fr3) st3 stop) fun r s4 ⟨hr, I4⟩ => ?_)
    subst hr
    exact wpAny_execs_nil ⟨σ3, H3, I4, qn⟩
  · refine wpAny_passesOwn hp (thn (T.item X rfl rfl rfl hc i pins s3 σ3 H3 X.xe I3 (stat fr3) st3 go) fun r s4 ⟨u, hr, h4⟩ => ?_)
    subst hr
    refine wpAny_passesOwn hp (thn h4 fun _ s5 ⟨x, H5, I5, r5, y5, st5, fr5⟩ => ?_)
    have I5' := I5.pinned (stat fr5) (T.obj _ _ st5)
    refine wpAny_passesOwn hp (thn (hg _ s5 σ3 H5 x u _ I5' r5 (step x H5 y5)) fun _ s6 ⟨σ6, H6, I6, q6⟩ => ?_)
    refine wpAny_passesOwn hp (thn (hb _ s6 σ6 H6 _ I6 q6) fun f s7 q7 => ?_)
    have again : ∀ {σ7 : St} {H7 : Hp}, Inv X (pins ++ pinsAt fp s5.heap) σ7 H7 s7 → N σ7 H7 → ∃ m, m < n ∧ ∃ i σ' H', Inv X pins σ' H' s7 ∧ tn i s7.heap ∧ (∀ b ∈ fp, H' b = none) ∧ W i m σ' H' := fun {σ7 H7} I7 n7 => by
      obtain ⟨m', hm, w7⟩ := hN σ7 H7 n7
      refine ⟨m', hm, i + 1, σ7, H7, I7.unpinned, T.keep _ _ _ st5 fun b hb o e => (I7.pin (b, o) (List.mem_append_right _ (List.mem_append_right _ (mem_pinsAt hb e)))).1, fun b hb => ?_, w7⟩
      obtain ⟨o, e, d⟩ := T.obj _ _ st5 b hb
      exact (I7.pin (b, o) (List.mem_append_right _ (List.mem_append_right _ (mem_pinsAt hb e)))).2.1
    cases f with
    | next => obtain ⟨σ7, H7, I7, n7⟩ := q7; exact again I7 n7
    | cont => obtain ⟨σ7, H7, I7, n7⟩ := q7; exact again I7 n7
    | brk => obtain ⟨σ7, H7, I7, q7⟩ := q7; exact ⟨σ7, H7, I7.unpinned, q7⟩
    | ret v => obtain ⟨x7, σ7, H7, I7, r7, q7⟩ := q7; exact ⟨x7, σ7, H7, I7.unpinned, r7, q7⟩
end

/-! ### the forms one uses -/
/-- over a list that the body leaves as it is -/
theorem for_list {K : PySem.W.Frag} {a : Addr} {xs : List V} {g : TG} {tb : TS} {D : Ends} {σ : St} {H : Hp} (Pv : Nat → St → Hp → Prop) (h0 : Pv 0 σ H) (hl : ∀ i σ H, i ≤ xs.length → Pv i σ H → SqL K H a xs)
    (hs : ∀ i x σ H, xs[i]? = some x → Pv i σ H → g x σ H fun σ2 H2 => tb { D with nx := Pv (i + 1), ct := Pv (i + 1), bk := D.nx } σ2 H2) (hd : ∀ σ H, Pv xs.length σ H → D.nx σ H) :
    ∃ W : Nat → Nat → St → Hp → Prop, (∃ m, W 0 m σ H) ∧ ∀ i m σ H, W i m σ H →
      ((Itl K a).stop i H ∧ D.nx σ H) ∨ ((Itl K a).go i H ∧ ∃ N : St → Hp → Prop, (∀ σ' H', N σ' H' → ∃ m', m' < m ∧ W (i + 1) m' σ' H') ∧ ∀ x H', (Itl K a).yld i H x H' → g x σ H' fun σ2 H2 => tb { D with nx := N, ct := N, bk := D.nx } σ2 H2) := by
  refine ⟨fun i m σ H => m = xs.length - i ∧ i ≤ xs.length ∧ Pv i σ H, ⟨xs.length, by simp, Nat.zero_le _, h0⟩, ?_⟩
  rintro i m σ H ⟨rfl, hi, p⟩
  have q := hl i σ H hi p
  by_cases hlt : i < xs.length
  · refine .inr ⟨⟨xs, xs[i], q, by simp [hlt]⟩, Pv (i + 1), fun σ' H' p' => ⟨xs.length - (i + 1), by omega, rfl, hlt, p'⟩, fun x H' y => ?_⟩
    obtain ⟨e, y⟩ := y
    subst e
    exact hs i x σ _ (y xs q) p
  · have e : i = xs.length := by omega
    subst e
    exact .inl ⟨⟨xs, q, Nat.le_refl _⟩, hd σ H p⟩
theorem for_range {lo : Int} {n : Nat} {g : TG} {tb : TS} {D : Ends} {σ : St} {H : Hp} (Pv : Nat → St → Hp → Prop) (h0 : Pv 0 σ H)
    (hs : ∀ i σ H, i < n → Pv i σ H → g (.int (lo + i)) σ H fun σ2 H2 => tb { D with nx := Pv (i + 1), ct := Pv (i + 1), bk := D.nx } σ2 H2) (hd : ∀ σ H, Pv n σ H → D.nx σ H) :
    ∃ W : Nat → Nat → St → Hp → Prop, (∃ m, W 0 m σ H) ∧ ∀ i m σ H, W i m σ H →
      ((Itr lo n).stop i H ∧ D.nx σ H) ∨ ((Itr lo n).go i H ∧ ∃ N : St → Hp → Prop, (∀ σ' H', N σ' H' → ∃ m', m' < m ∧ W (i + 1) m' σ' H') ∧ ∀ x H', (Itr lo n).yld i H x H' → g x σ H' fun σ2 H2 => tb { D with nx := N, ct := N, bk := D.nx } σ2 H2) := by
  refine ⟨fun i m σ H => m = n - i ∧ i ≤ n ∧ Pv i σ H, ⟨n, by simp, Nat.zero_le _, h0⟩, ?_⟩
  rintro i m σ H ⟨rfl, hi, p⟩
  by_cases hlt : i < n
  · refine .inr ⟨hlt, Pv (i + 1), fun σ' H' p' => ⟨n - (i + 1), by omega, rfl, hlt, p'⟩, fun x H' y => ?_⟩
    obtain ⟨e, y⟩ := y
    subst e y
    exact hs i σ _ hlt p
  · have e : i = n := by omega
    subst e
    exact .inl ⟨Nat.le_refl _, hd σ H p⟩
end L2

namespace L2
open PySem PySem.Spec PyProof.Rows

abbrev R2 := V → V → Hp → VK → Prop
/-- a two-place operation on values: f is binaryOp op, inplaceOp op or compareOp op -/
def OpR (X : Cx) (f : Value → Value → Sem Value) (r : R2) : Prop :=
  ∀ (pins : List (Addr × Obj)) (s : Shared) (σ : St) (H : Hp) (x y : V) (v u : Value) (Q : VK), Inv X pins σ H s → RelV x v → RelV y u → r x y H Q →
    wpAny (model X.prog X.w) X.A (f v u) (EP X pins σ Q) X.xe s
/-- a one-place operation -/
def UnR (X : Cx) (f : Value → Sem Value) (r : V → Hp → VK → Prop) : Prop :=
  ∀ (pins : List (Addr × Obj)) (s : Shared) (σ : St) (H : Hp) (x : V) (v : Value) (Q : VK), Inv X pins σ H s → RelV x v → r x H Q →
    wpAny (model X.prog X.w) X.A (f v) (EP X pins σ Q) X.xe s
/-- a call of a value that is known (a builtin, a type) with values -/
def CallR (X : Cx) (f : Value) (r : List V → Hp → VK → Prop) : Prop :=
  ∀ (pins : List (Addr × Obj)) (s : Shared) (σ : St) (H : Hp) (xs : List V) (us : List Value) (Q : VK), Inv X pins σ H s → Vals xs us → r xs H Q →
    wpAny (model X.prog X.w) X.A (call f us) (EP X pins σ Q) X.xe s
/-- a value's truth -/
def TruR (X : Cx) (r : V → Hp → (Bool → Hp → Prop) → Prop) : Prop :=
  ∀ (pins : List (Addr × Obj)) (s : Shared) (σ : St) (H : Hp) (x : V) (v : Value) (Q : Bool → Hp → Prop), Inv X pins σ H s → RelV x v → r x H Q →
    wpAny (model X.prog X.w) X.A (truthy v) (TP X pins σ Q) X.xe s

def tOp (r : R2) (ta tb : TE) : TE := fun σ H Q => ta σ H fun x H1 => tb σ H1 fun y H2 => r x y H2 Q
def tUn (r : V → Hp → VK → Prop) (ta : TE) : TE := fun σ H Q => ta σ H fun x H1 => r x H1 Q
/-- ints in, under C, and a value out -/
def rI (C : Int → Int → Prop) (g : Int → Int → V) : R2 := fun x y H Q => ∃ i j, x = .int i ∧ y = .int j ∧ C i j ∧ Q (g i j) H
def rI0 (g : Int → Int → V) : R2 := fun x y H Q => ∃ i j, x = .int i ∧ y = .int j ∧ Q (g i j) H
def rU (g : Int → V) : V → Hp → VK → Prop := fun x H Q => ∃ i, x = .int i ∧ Q (g i) H

section
variable {X : Cx} {a b c : Expr} {ta tb tc : TE} {pos : Pos}

theorem binT (ha : PE X a ta) (hb : PE X b tb) {pins : List (Addr × Obj)} {s : Shared} {σ : St} {H : Hp} {R : V → V → Hp → Prop} (I : Inv X pins σ H s)
    (h : ta σ H fun x H1 => tb σ H1 fun y H2 => R x y H2) {Q : Value → Shared → Prop} {f : Value → Value → Sem Value}
    (hf : ∀ v u s2 x y H2, Inv X pins σ H2 s2 → RelV x v → RelV y u → R x y H2 → wpAny (model X.prog X.w) X.A (f v u) Q X.xe s2) :
    wpAny (model X.prog X.w) X.A (eval a X.env) (fun v s₁ => wpAny (model X.prog X.w) X.A (eval b X.env) (fun u s₂ => wpAny (model X.prog X.w) X.A (f v u) Q X.xe s₂) X.xe s₁) X.xe s := by
  refine thn (ha pins s σ H _ I h) fun v s1 ⟨x, H1, I1, r1, q1⟩ => ?_
  refine thn (hb pins s1 σ H1 _ I1 q1) fun u s2 ⟨y, H2, I2, r2, q2⟩ => ?_
  exact hf v u s2 x y H2 I2 r1 r2 q2

theorem pe_op {op : Operator} {r : R2} (ho : OpR X (binaryOp op) r) (ha : PE X a ta) (hb : PE X b tb) : PE X (.BinOp a op b pos) (tOp r ta tb) := by
  intro pins s σ H Q I h
  exact wpAny_BinOp (binT ha hb I h fun v u s2 x y H2 I2 rx ry q => ho pins s2 σ H2 x y v u Q I2 rx ry q)
theorem pe_un {op : UnaryOp} {r : V → Hp → VK → Prop} (ho : UnR X (unaryOp op) r) (ha : PE X a ta) : PE X (.UnaryOp op a pos) (tUn r ta) := by
  intro pins s σ H Q I h
  exact UnaryOp_ (thn (ha pins s σ H _ I h) fun v s1 ⟨x, H1, I1, r1, q1⟩ => ho pins s1 σ H1 x v Q I1 r1 q1)
/-! ### ints -/
theorem opI {f : Value → Value → Sem Value} {C : Int → Int → Prop} {g : Int → Int → Int}
    (rule : ∀ (i j : Int) (t u : Tok) (s : Shared) (Q : Value → Shared → Prop) (E : Value → Shared → Prop), C i j → Q (.int (g i j) s.toks) { s with toks := s.toks + 1 } → wpAny (model X.prog X.w) X.A (f (.int i t) (.int j u)) Q E s) :
    OpR X f (rI C fun i j => .int (g i j)) := by
  intro pins s σ H x y v u Q I rx ry h
  obtain ⟨i, j, rfl, rfl, hc, q⟩ := h
  obtain ⟨t, rfl⟩ := rx
  obtain ⟨t', rfl⟩ := ry
  exact rule i j t t' s _ _ hc ⟨.int (g i j), H, I.tok _, ⟨_, rfl⟩, q⟩
theorem opI0 {f : Value → Value → Sem Value} {g : Int → Int → Int}
    (rule : ∀ (i j : Int) (t u : Tok) (s : Shared) (Q : Value → Shared → Prop) (E : Value → Shared → Prop), Q (.int (g i j) s.toks) { s with toks := s.toks + 1 } → wpAny (model X.prog X.w) X.A (f (.int i t) (.int j u)) Q E s) :
    OpR X f (rI0 fun i j => .int (g i j)) := by
  intro pins s σ H x y v u Q I rx ry h
  obtain ⟨i, j, rfl, rfl, q⟩ := h
  obtain ⟨t, rfl⟩ := rx
  obtain ⟨t', rfl⟩ := ry
  exact rule i j t t' s _ _ ⟨.int (g i j), H, I.tok _, ⟨_, rfl⟩, q⟩
theorem opB0 {f : Value → Value → Sem Value} {g : Int → Int → Bool}
    (rule : ∀ (i j : Int) (t u : Tok) (s : Shared) (Q : Value → Shared → Prop) (E : Value → Shared → Prop), Q (.bool (g i j)) s → wpAny (model X.prog X.w) X.A (f (.int i t) (.int j u)) Q E s) :
    OpR X f (rI0 fun i j => .bl (g i j)) := by
  intro pins s σ H x y v u Q I rx ry h
  obtain ⟨i, j, rfl, rfl, q⟩ := h
  obtain ⟨t, rfl⟩ := rx
  obtain ⟨t', rfl⟩ := ry
  exact rule i j t t' s _ _ ⟨.bl (g i j), H, I, rfl, q⟩

def CDiv (i j : Int) : Prop := 0 < j ∧ j < 1073741824
def CDivN (i j : Int) : Prop := j ≠ 0 ∧ j.natAbs < 1073741824
def CPow (i j : Int) : Prop := 0 ≤ j ∧ j ≤ 1000000 ∧ i.natAbs < 2 ^ 64
def CMul (i j : Int) : Prop := (-(2 ^ 64) < i ∧ i < 2 ^ 64) ∨ (-(2 ^ 64) < j ∧ j < 2 ^ 64)
theorem CMul.ok {i j : Int} (h : CMul i j) : IntMulOk i j := by
  rcases h with ⟨h1, h2⟩ | ⟨h1, h2⟩
  · exact .of_left (intBits_le_64 h1 h2)
  · exact .of_right (intBits_le_64 h1 h2)
theorem op_add : OpR X (binaryOp .Add) (rI0 fun i j => .int (i + j)) := opI0 fun _ _ _ _ _ _ _ q => add_int q
theorem op_sub : OpR X (binaryOp .Sub) (rI0 fun i j => .int (i - j)) := opI0 fun _ _ _ _ _ _ _ q => sub_int q
theorem op_mul : OpR X (binaryOp .Mult) (rI CMul fun i j => .int (i * j)) := opI fun _ _ _ _ _ _ _ hc q => mul_int q hc.ok
/-- // by a positive divisor -/
theorem op_fdiv : OpR X (binaryOp .FloorDiv) (rI CDiv fun i j => .int (i / j)) := opI fun i j _ _ _ _ _ hc q => by
  have h1 : (0 : Int) < j := hc.1
  have h2 : j < 1073741824 := hc.2
  exact floordiv_int (by omega) (by rw [Int.fdiv_eq_ediv_of_nonneg i (by omega)]; exact q) (.inl (PyProof.noPylong_small (by omega)))
/-- % by a positive divisor of any size -/
theorem op_mod : OpR X (binaryOp .Mod) (rI (fun _ j => 0 < j) fun i j => .int (i % j)) := opI fun i j _ _ _ _ _ hc q => by
  have h1 : (0 : Int) < j := hc
  exact mod_int' (by omega) (by rw [Int.fmod_eq_emod_of_nonneg i (by omega)]; exact q)
theorem unI {f : Value → Sem Value} {g : Int → Int}
    (rule : ∀ (i : Int) (t : Tok) (s : Shared) (Q : Value → Shared → Prop) (E : Value → Shared → Prop), Q (.int (g i) s.toks) { s with toks := s.toks + 1 } → wpAny (model X.prog X.w) X.A (f (.int i t)) Q E s) :
    UnR X f (rU fun i => .int (g i)) := by
  intro pins s σ H x v Q I rx h
  obtain ⟨i, rfl, q⟩ := h
  obtain ⟨t, rfl⟩ := rx
  exact rule i t s _ _ ⟨.int (g i), H, I.tok _, ⟨_, rfl⟩, q⟩
theorem un_neg : UnR X (unaryOp .USub) (rU fun i => .int (-i)) := unI fun _ _ _ _ _ q => neg_int q
/-! ### bools among ints: n += (a < b) -/
end

/-! ### comparisons -/
/-- the scalars that == tells apart as data does -/
def scal : V → V → Bool
  | .non, .non => true | .non, .int _ => true | .int _, .non => true | .non, .bl _ => true | .bl _, .non => true | .non, .str _ => true | .str _, .non => true
  | .int _, .int _ => true | .bl _, .bl _ => true | .str _, .str _ => true | .byt _, .byt _ => true
  | .int _, .str _ => true | .str _, .int _ => true | .bl _, .str _ => true | .str _, .bl _ => true
  | _, _ => false
def rEq : R2 := fun x y H Q => scal x y = true ∧ Q (.bl (decide (x = y))) H
def rNe : R2 := fun x y H Q => scal x y = true ∧ Q (.bl (!decide (x = y))) H

theorem dec_int {i j : Int} : decide (V.int i = V.int j) = (i == j) := by
  rw [Bool.eq_iff_iff]
  simp
theorem dec_bl {i j : Bool} : decide (V.bl i = V.bl j) = (i == j) := by
  rw [Bool.eq_iff_iff]
  simp
theorem dec_str {i j : Str} : decide (V.str i = V.str j) = (i == j) := by
  rw [Bool.eq_iff_iff]
  simp
theorem dec_byt {i j : Array UInt8} : decide (V.byt i = V.byt j) = (i.toList == j.toList) := by
  rw [Bool.eq_iff_iff]
  cases i
  cases j
  simp

section
variable {X : Cx} {a b c : Expr} {ta tb tc : TE} {pos : Pos}
theorem fin_bl {pins : List (Addr × Obj)} {σ : St} {H : Hp} {s : Shared} {Q : VK} {k k' : Bool} (I : Inv X pins σ H s) (q : Q (.bl k) H) (e : k = k') : EP X pins σ Q (.bool k') s := by
  subst e
  exact ⟨.bl k, H, I, rfl, q⟩
theorem op_eq : OpR X (compareOp .Eq) rEq := by
  intro pins s σ H x y v u Q I rx ry h
  obtain ⟨hs, q⟩ := h
  cases x with
  | non =>
    cases rx
    cases y with
    | non => cases ry; exact PySem.EqNone.eq_none_none (fin_bl I q (by simp))
    | bl j => cases ry; exact PySem.EqNone.eq_none_bool (fin_bl I q (by simp))
    | int j => obtain ⟨t', rfl⟩ := ry; exact PySem.EqNone.eq_none_int (fin_bl I q (by simp))
    | str j => obtain ⟨t', rfl⟩ := ry; exact PySem.EqNone.eq_none_str (fin_bl I q (by simp))
    | _ => exact absurd (show false = true from hs) Bool.false_ne_true
  | bl i =>
    cases rx
    cases y with
    | non => cases ry; exact PySem.EqNone.eq_bool_none (fin_bl I q (by simp))
    | bl j => cases ry; exact eq_bool (fin_bl I q dec_bl)
    | str j => obtain ⟨t', rfl⟩ := ry; exact PySem.EqMixed.eq_bool_str (fin_bl I q (by simp))
    | _ => exact absurd (show false = true from hs) Bool.false_ne_true
  | int i =>
    obtain ⟨t, rfl⟩ := rx
    cases y with
    | non => cases ry; exact PySem.EqNone.eq_int_none (fin_bl I q (by simp))
    | int j => obtain ⟨t', rfl⟩ := ry; exact eq_int (fin_bl I q dec_int)
    | str j => obtain ⟨t', rfl⟩ := ry; exact PySem.EqMixed.eq_int_str (fin_bl I q (by simp))
    | _ => exact absurd (show false = true from hs) Bool.false_ne_true
  | str i =>
    obtain ⟨t, rfl⟩ := rx
    cases y with
    | non => cases ry; exact PySem.EqNone.eq_str_none (fin_bl I q (by simp))
    | bl j => cases ry; exact PySem.EqMixed.eq_str_bool (fin_bl I q (by simp))
    | int j => obtain ⟨t', rfl⟩ := ry; exact PySem.EqMixed.eq_str_int (fin_bl I q (by simp))
    | str j => obtain ⟨t', rfl⟩ := ry; exact eq_str (fin_bl I q dec_str)
    | _ => exact absurd (show false = true from hs) Bool.false_ne_true
  | byt i =>
    obtain ⟨t, rfl⟩ := rx
    cases y with
    | byt j => obtain ⟨t', rfl⟩ := ry; exact PySem.W.eq_bytes (fin_bl I q dec_byt)
    | _ => exact absurd (show false = true from hs) Bool.false_ne_true
  | _ => cases y <;> exact absurd (show false = true from hs) Bool.false_ne_true
theorem op_ne : OpR X (compareOp .NotEq) rNe := by
  intro pins s σ H x y v u Q I rx ry h
  obtain ⟨hs, q⟩ := h
  cases x with
  | non =>
    cases rx
    cases y with
    | non => cases ry; exact PySem.EqNone.ne_none_none (fin_bl I q (by simp))
    | bl j => cases ry; exact PySem.EqNone.ne_none_bool (fin_bl I q (by simp))
    | int j => obtain ⟨t', rfl⟩ := ry; exact PySem.EqNone.ne_none_int (fin_bl I q (by simp))
    | str j => obtain ⟨t', rfl⟩ := ry; exact PySem.EqNone.ne_none_str (fin_bl I q (by simp))
    | _ => exact absurd (show false = true from hs) Bool.false_ne_true
  | bl i =>
    cases rx
    cases y with
    | non => cases ry; exact PySem.EqNone.ne_bool_none (fin_bl I q (by simp))
    | bl j => cases ry; exact ne_bool (fin_bl I q (congrArg not dec_bl))
    | str j => obtain ⟨t', rfl⟩ := ry; exact PySem.EqMixed.ne_bool_str (fin_bl I q (by simp))
    | _ => exact absurd (show false = true from hs) Bool.false_ne_true
  | int i =>
    obtain ⟨t, rfl⟩ := rx
    cases y with
    | non => cases ry; exact PySem.EqNone.ne_int_none (fin_bl I q (by simp))
    | int j => obtain ⟨t', rfl⟩ := ry; exact ne_int (fin_bl I q (congrArg not dec_int))
    | str j => obtain ⟨t', rfl⟩ := ry; exact PySem.EqMixed.ne_int_str (fin_bl I q (by simp))
    | _ => exact absurd (show false = true from hs) Bool.false_ne_true
  | str i =>
    obtain ⟨t, rfl⟩ := rx
    cases y with
    | non => cases ry; exact PySem.EqNone.ne_str_none (fin_bl I q (by simp))
    | bl j => cases ry; exact PySem.EqMixed.ne_str_bool (fin_bl I q (by simp))
    | int j => obtain ⟨t', rfl⟩ := ry; exact PySem.EqMixed.ne_str_int (fin_bl I q (by simp))
    | str j => obtain ⟨t', rfl⟩ := ry; exact ne_str (fin_bl I q (congrArg not dec_str))
    | _ => exact absurd (show false = true from hs) Bool.false_ne_true
  | byt i =>
    obtain ⟨t, rfl⟩ := rx
    cases y with
    | byt j => obtain ⟨t', rfl⟩ := ry; exact PySem.W.ne_bytes (fin_bl I q (congrArg not dec_byt))
    | _ => exact absurd (show false = true from hs) Bool.false_ne_true
  | _ => cases y <;> exact absurd (show false = true from hs) Bool.false_ne_true

theorem op_lt : OpR X (compareOp .Lt) (rI0 fun i j => .bl (decide (i < j))) := opB0 fun _ _ _ _ _ _ _ q => lt_int q
theorem op_le : OpR X (compareOp .LtE) (rI0 fun i j => .bl (decide (i ≤ j))) := opB0 fun _ _ _ _ _ _ _ q => le_int q
theorem op_gt : OpR X (compareOp .Gt) (rI0 fun i j => .bl (decide (j < i))) := opB0 fun _ _ _ _ _ _ _ q => gt_int q
theorem op_ge : OpR X (compareOp .GtE) (rI0 fun i j => .bl (decide (j ≤ i))) := opB0 fun _ _ _ _ _ _ _ q => ge_int q
/-- the one string within the other -/
theorem op_in_str : OpR X (compareOp .In) (fun x y H Q => ∃ i j, x = .str i ∧ y = .str j ∧ Q (.bl (!(Builtin.Str.occurrences j i 0 j.length 1).isEmpty)) H) := by
  intro pins s σ H x y v u Q I rx ry h
  obtain ⟨i, j, rfl, rfl, q⟩ := h
  obtain ⟨t, rfl⟩ := rx
  obtain ⟨t', rfl⟩ := ry
  exact in_str (fin_bl I q rfl)

/-- is None, is not None: the right side a value none -/
theorem op_isN : OpR X (compareOp .Is) (fun x y H Q => y = .non ∧ Q (.bl (decide (x = .non))) H) := by
  intro pins s σ H x y v u Q I rx ry h
  obtain ⟨rfl, q⟩ := h
  cases ry
  refine is_none_gen (fin_bl I q ?_)
  cases x <;> first
    | (cases rx; rfl)
    | (obtain ⟨t, rfl⟩ := rx; rfl)
theorem op_notN : OpR X (compareOp .IsNot) (fun x y H Q => y = .non ∧ Q (.bl (!decide (x = .non))) H) := by
  intro pins s σ H x y v u Q I rx ry h
  obtain ⟨rfl, q⟩ := h
  cases ry
  refine isnot_none_gen (fin_bl I q ?_)
  cases x <;> first
    | (cases rx; rfl)
    | (obtain ⟨t, rfl⟩ := rx; rfl)

/-- is, is not of two objects that are tracked lists or instances -/
def isObj : HO → Bool
  | .lst _ => true
  | .ins _ _ _ => true
  | _ => false
theorem nomark (b : Expr) {op : CmpOp} (h : op ≠ .In := by decide) (h2 : op ≠ .NotIn := by decide) : behindInMarks op b = false := by
  have e1 : (op == CmpOp.In) = false := by cases op <;> first | rfl | exact absurd rfl h
  have e2 : (op == CmpOp.NotIn) = false := by cases op <;> first | rfl | exact absurd rfl h2
  cases b <;> simp [behindInMarks, e1, e2]
/-- a comparison as a value; hm: nomark b, or (for in, not in) by with_unfolding_all rfl -/
theorem pe_cmpR {op : CmpOp} {r : R2} (ho : OpR X (compareOp op) r) (ha : PE X a ta) (hb : PE X b tb) (hm : behindInMarks op b = false) : PE X (.Compare a [op] [b] pos) (tOp r ta tb) := by
  intro pins s σ H Q I h
  exact wpAny_Compare1 (binT ha hb I h fun v u s2 x y H2 I2 rx ry q => ho pins s2 σ H2 x y v u Q I2 rx ry q) hm
/-- a reading of a value as a test -/
def tTest (t : TE) : TT := fun σ H Q => t σ H fun x H' => ∃ k, x = .bl k ∧ Q k H'
theorem pt_cmpR {op : CmpOp} {r : R2} (ho : OpR X (compareOp op) r) (ha : PE X a ta) (hb : PE X b tb) (hm : behindInMarks op b = false) : PT X (.Compare a [op] [b] pos) (tTest (tOp r ta tb)) := by
  intro pins s σ H Q I h
  refine wpAny_isTrue_Compare1 (thn (ha pins s σ H _ I h) fun v s1 ⟨x, H1, I1, r1, q1⟩ => thn (hb pins s1 σ H1 _ I1 q1) fun u s2 ⟨y, H2, I2, r2, q2⟩ =>
    thn (ho pins s2 σ H2 x y v u _ I2 r1 r2 q2) fun c s3 ⟨z, H3, I3, r3, k, e, q3⟩ => ?_) hm
  subst e
  cases r3
  exact wpAny_truthy_bool ⟨H3, I3, q3⟩
/-- a op1 b op2 c -/
def tChain (r r' : R2) (ta tb tc : TE) : TE := fun σ H Q => ta σ H fun x H1 => tb σ H1 fun y H2 => r x y H2 fun z H3 => ∃ k, z = .bl k ∧
  (if k = true then tc σ H3 fun w' H4 => r' y w' H4 Q else Q (.bl false) H3)
theorem pt_chain {op op' : CmpOp} {r r' : R2} (ho : OpR X (compareOp op) r) (ho' : OpR X (compareOp op') r') (ha : PE X a ta) (hb : PE X b tb) (hc : PE X c tc)
    (hm : lastMarks [op, op'] [b, c] = false := by with_unfolding_all rfl) : PT X (.Compare a [op, op'] [b, c] pos) (tTest (tChain r r' ta tb tc)) := by
  intro pins s σ H Q I h
  refine isTrue_chain (thn (ha pins s σ H _ I h) fun v s1 ⟨x, H1, I1, r1, q1⟩ => test_link (thn (hb pins s1 σ H1 _ I1 q1) fun u s2 ⟨y, H2, I2, r2, q2⟩ =>
    thn (ho pins s2 σ H2 x y v u _ I2 r1 r2 q2) fun d s3 ⟨z, H3, I3, r3, k, e, q3⟩ => ?_)) hm
  subst e
  cases r3
  refine wpAny_truthy_bool ?_
  cases k with
  | false =>
    obtain ⟨k', e', q'⟩ := q3
    cases e'
    exact ite_ff ⟨H3, I3, q'⟩
  | true =>
    refine ite_tt (test_last (thn (hc pins s3 σ H3 _ I3 q3) fun w' s4 ⟨z', H4, I4, r4, q4⟩ => thn (ho' pins s4 σ H4 y z' u w' _ I4 r2 r4 q4) fun d' s5 ⟨z2, H5, I5, r5, k2, e2, q5⟩ => ?_))
    subst e2
    cases r5
    exact wpAny_truthy_bool ⟨H5, I5, q5⟩

/-! ### truth -/
/-- a value's truth by the abstract heap -/
def TruV (K : PySem.W.Frag) (x : V) (H : Hp) (k : Bool) : Prop :=
  match x with
  | .non => k = false
  | .bl b => k = b
  | .int i => k = (i != 0)
  | .str y => y.length ≤ sizeLine ∧ k = ((y.length : Int) != 0)
  | .byt y => y.size ≤ sizeLine ∧ k = ((y.size : Int) != 0)
  | .ref p => (∃ xs, SqL K H p xs ∧ k = !xs.isEmpty) ∨ (∃ xs, SqT K H p xs ∧ k = !xs.isEmpty) ∨ ∃ kvs, H p = some (.dK kvs) ∧ k = !kvs.isEmpty
  | _ => False
theorem line63 : (sizeLine : Nat) < 2 ^ 63 := by rw [sizeLine_eq]; decide
/-! ### strs and bytes -/
theorem op_add_str : OpR X (binaryOp .Add) (fun x y H Q => ∃ i j, x = .str i ∧ y = .str j ∧ i.length + j.length ≤ sizeLine ∧ Q (.str (i ++ j)) H) := by
  intro pins s σ H x y v u Q I rx ry h
  obtain ⟨i, j, rfl, rfl, hz, q⟩ := h
  obtain ⟨t, rfl⟩ := rx
  obtain ⟨t', rfl⟩ := ry
  exact add_str (fun t' tk => ⟨.str (i ++ j), H, I.tok _, ⟨_, rfl⟩, q⟩) hz
def PlainIxT (b : Expr) : Prop := ∀ o i, subscripted b false o i = operate [o, i] (getItem o i)
/-! ### scalar builtins, by CallR -/
theorem vals1 {x : V} {us : List Value} (r : Vals [x] us) : ∃ u, us = [u] ∧ RelV x u := by
  cases r with
  | cons r1 r2 => cases r2; exact ⟨_, rfl, r1⟩
theorem vals2 {x y : V} {us : List Value} (r : Vals [x, y] us) : ∃ u w', us = [u, w'] ∧ RelV x u ∧ RelV y w' := by
  cases r with
  | cons r1 r2 =>
    cases r2 with
    | cons r3 r4 => cases r4; exact ⟨_, _, rfl, r1, r3⟩
theorem call_abs : CallR X (.builtin "abs") (fun xs H Q => ∃ i, xs = [.int i] ∧ Q (.int (if i < 0 then -i else i)) H) := by
  intro pins s σ H xs us Q I r h
  obtain ⟨i, rfl, q⟩ := h
  obtain ⟨u, rfl, t, rfl⟩ := vals1 r
  exact call_abs_int fun u tk => ⟨.int (if i < 0 then -i else i), H, I.tok _, ⟨_, rfl⟩, q⟩
theorem call_max2 (hc : X.calm = true) : CallR X (.builtin "max") (fun xs H Q => ∃ i j, xs = [.int i, .int j] ∧ Q (.int (if j > i then j else i)) H) := by
  intro pins s σ H xs us Q I r h
  obtain ⟨i, j, rfl, q⟩ := h
  obtain ⟨u, w', rfl, ⟨t, rfl⟩, ⟨t', rfl⟩⟩ := vals2 r
  refine max_two_ints (I.ok.hd hc) fun h' tk k => ⟨_, H, I.kept k, ?_, q⟩
  by_cases hj : j > i
  · rw [if_pos hj, if_pos hj]; exact ⟨_, rfl⟩
  · rw [if_neg hj, if_neg hj]; exact ⟨_, rfl⟩
theorem call_min2 (hc : X.calm = true) : CallR X (.builtin "min") (fun xs H Q => ∃ i j, xs = [.int i, .int j] ∧ Q (.int (if j < i then j else i)) H) := by
  intro pins s σ H xs us Q I r h
  obtain ⟨i, j, rfl, q⟩ := h
  obtain ⟨u, w', rfl, ⟨t, rfl⟩, ⟨t', rfl⟩⟩ := vals2 r
  refine min_two_ints (I.ok.hd hc) fun h' tk k => ⟨_, H, I.kept k, ?_, q⟩
  by_cases hj : j < i
  · rw [if_pos hj, if_pos hj]; exact ⟨_, rfl⟩
  · rw [if_neg hj, if_neg hj]; exact ⟨_, rfl⟩
/-- len of a str, a bytes, a list, a tuple -/
def LenV (K : PySem.W.Frag) (x : V) (H : Hp) (n : Nat) : Prop :=
  match x with
  | .str y => y.length ≤ sizeLine ∧ n = y.length
  | .byt y => y.size ≤ sizeLine ∧ n = y.size
  | .ref p => (∃ xs, SqL K H p xs ∧ n = xs.length) ∨ ∃ xs, SqT K H p xs ∧ n = xs.length
  | _ => False
/-- divmod: a new tuple -/
theorem call_divmod : CallR X (.builtin "divmod") (fun xs H Q => ∃ i j, xs = [.int i, .int j] ∧ CDiv i j ∧ ∀ p, H p = none → Q (.ref p) (upd H p (.tup [.int (i / j), .int (i % j)]))) := by
  intro pins s σ H xs us Q I r h
  obtain ⟨i, j, rfl, ⟨h1, h2⟩, q⟩ := h
  obtain ⟨u, w', rfl, ⟨t, rfl⟩, ⟨t', rfl⟩⟩ := vals2 r
  refine divmod_int (by omega) ?_ (.inl (PyProof.noPylong_small (by omega)))
  rw [Int.fdiv_eq_ediv_of_nonneg i (by omega), Int.fmod_eq_emod_of_nonneg i (by omega)]
  have hn : H s.heap.objs.size = none := I.hok.fresh (Nat.le_refl _)
  refine ⟨.ref s.heap.objs.size, _, ?_, rfl, q _ hn⟩
  refine I.laid (fun b o e => Heap.get?_push_of_some _ e) (Nat.le_refl _) ⟨by simp only [List.length_cons, List.length_nil]; rw [sizeLine_eq]; decide, [.int (i / j) s.toks, .int (i % j) (s.toks + 1)], .cons ⟨_, rfl⟩ (.cons ⟨_, rfl⟩ .nil), ?_⟩
  exact ⟨_, Heap.get?_push_size s.heap rfl, rfl, 0, rfl⟩
end
end L2

namespace L2
open PySem PySem.Spec PyProof.Rows

/-! ### an instance, its attributes a map -/
structure ObjM (h : Heap) (x dx C : Addr) (mA : Str → Option Value) : Prop where
  obj : h.get? x = some (PySem.W.instObj C dx)
  ns : h.Ns1 dx mA
  ne : dx ≠ x

theorem lookIn_ns {h : Heap} {dx : Addr} {mA : Str → Option Value} (n : h.Ns1 dx mA) : ∃ od, h.get? dx = some od ∧ ∀ name, PySem.W.lookIn name od = some (mA name) := by
  obtain ⟨o, es, ep, ho, hd, hk, _, hm⟩ := n
  refine ⟨o, ho, fun name => ?_⟩
  have e := hm name
  unfold nsFind findBy at e
  rw [← Array.find?_toList] at e
  unfold PySem.W.lookIn
  rw [hd]
  dsimp only
  split
  · rename_i y q
    rw [q] at e
    exact congrArg some e
  · rename_i q
    rw [q] at e
    have a : es.toList.any (·.refKey) = false := by
      rw [List.any_eq_false]
      intro y hy
      obtain ⟨z, t, hkey⟩ := hk y (Array.mem_toList_iff.mp hy)
      simp [DictEntry.refKey, hkey]
    have a' : ¬ es.toList.any (·.refKey) = true := by rw [a]; exact Bool.false_ne_true
    rw [if_neg a']
    exact congrArg some e

theorem ObjM.look {h : Heap} {x dx C : Addr} {mA : Str → Option Value} (I : ObjM h x dx C mA) : ∃ od, PySem.W.InstAt h x (PySem.W.instObj C dx) C (some od) ∧ ∀ name, PySem.W.lookIn name od = some (mA name) :=
  let ⟨od, ho, hl⟩ := lookIn_ns I.ns
  ⟨od, ⟨I.obj, rfl, rfl, ho⟩, hl⟩

section
variable {prog : Program} {w : World} {A : Around} {E : Value → Shared → Prop} {s : Shared} {K : PySem.W.Frag} {x dx C f : Addr} {mA : Str → Option Value} {name : Str} {v : Value}

theorem get_map {expr : Bool} {Q : Value → Shared → Prop} (X : K.In s.heap) (I : ObjM s.heap x dx C mA) (hg : PySem.W.plainGet K C name = true) (hh : PySem.W.hasDictIn K C = true)
    (ha : PySem.W.findIn K (.ref C) name = some none) (hv : mA name = some v) (hv' : PySem.W.handedIn v = true) (h : Q v { s with toks := s.toks + 1 }) :
    wpAny (model prog w) A (getAttr (.ref x) name expr) Q E s := by
  obtain ⟨od, J, hl⟩ := I.look
  exact PySem.W.get_value X J (PySem.W.plainGet_of hg).1 (PySem.W.findObj_own hh ha rfl (by rw [hl, hv])) hv' h

theorem get_meth {pl : Sem Bool} {Q : Value × List Value → Shared → Prop} (X : K.In s.heap) (I : ObjM s.heap x dx C mA) (hg : PySem.W.plainGet K C name = true)
    (hf : PySem.W.findIn K (.ref C) name = some (some (.ref f))) (ht : PySem.W.isFn K (.ref f) = true) (hv : mA name = none) (h : Q (.ref f, [.ref x]) s) :
    wpAny (model prog w) A (getMethod (.ref x) name pl) Q E s := by
  obtain ⟨od, J, hl⟩ := I.look
  exact PySem.W.method_fn X J (PySem.W.plainGet_of hg).1 (PySem.W.plainGet_of hg).2 hf (beq_iff_eq.mp ht) (by show (PySem.W.lookIn name od).map (·.isSome) = some false; rw [hl, hv]; rfl) h

theorem set_map {ns : List Str} {Q : Unit → Shared → Prop} (X : K.In s.heap) (I : ObjM s.heap x dx C mA)
    (hs : PySem.W.findIn K (.ref C) "__setattr__" = some (some (.builtin "object.__setattr__"))) (hp : PySem.W.plainOver K C = true) (ht : PySem.W.takerIn K C name = some none) (hh : PySem.W.hasDictIn K C = true)
    (hw : PySem.Within mA ns) (hsz : ns.length ≤ sizeLine)
    (h : ∀ h', ObjM h' x dx C (fun y => if y = name then some v else mA y) → Heap.SameBut dx s.heap h' → Q () { s with heap := h', toks := s.toks + 2 }) :
    wpAny (model prog w) A (setAttr (.ref x) name v) Q E s := by
  obtain ⟨od, J, hl⟩ := I.look
  refine PySem.W.set_plain X J hs (PySem.W.osa_open (s := { s with toks := s.toks + 1 }) (r := none) X J hp ht fun b => ?_)
  obtain ⟨cd, hc, hd'⟩ := PySem.W.any_some hh
  have hx : s.heap.get? x = some ⟨.ref C, some dx, .plain, #[]⟩ := I.obj
  refine wpAny_bind (wpAny_pure (wpAny_bind (wpAny_bind (wpAny_loadPart hx (wpAny_bind (PySem.W.Looks.here (s := { s with toks := s.toks + 1 }) (PySem.W.looks_clsIn X hc) ?_))))))
  rw [hd']
  refine wpAny_pure (a := some dx) (wpAny_bind (wpAny_pure (wpAny_bind ?_)))
  refine wpAny_nsSet1 (s := { s with toks := s.toks + 1 }) I.ns fun h' hn2 hs2 => ?_
  obtain ⟨oD, esD, epD, hoD, hdD, hcD⟩ := hn2.count (PySem.Within.cons name v hw)
  refine wpAny_bind (wpAny_lookBehind hoD (by rw [hdD]; exact pastItsLine_dict (Nat.le_trans hcD (by rw [List.length_cons]; omega))) ?_)
  exact wpAny_pure (h _ ⟨(hs2.2 _ (Ne.symm I.ne)).trans I.obj, hn2, I.ne⟩ hs2)

/-- C(..): the dict at the heap's end, the instance behind it; then its __init__ -/
theorem make_map {R : Result → Shared → Prop} {vs : List Value} {kw : List (Str × Value)} (X : K.In s.heap) (hm : PySem.W.makesIn K C = true)
    (hi : PySem.W.findIn K (.ref C) "__init__" = some (some (.ref f))) (hf : PySem.W.typeIn K (.ref f) = some (.type "function"))
    (h : codeAny (model prog w) (A.under (.builtin "type.__call__" ⟨.ref C :: vs, kw⟩)) (.call (.ref f) ⟨.ref (s.heap.objs.size + 1) :: vs, kw⟩) (PySem.W.InitBack (s.heap.objs.size + 1) R)
      { s with heap := (s.heap.push PySem.W.emptyDict).push (PySem.W.instObj C s.heap.objs.size) }) :
    codeAny (model prog w) A (.call (.ref C) ⟨vs, kw⟩) R s := by
  obtain ⟨hh, g, d, t, os⟩ := s
  exact PySem.W.make_core (PySem.W.makes_of X hm) (PySem.W.looks_findIn X hi) (fun self => PySem.W.bind_fn X self hf) (.inl rfl) h
end

/-! ### the attributes as a list of pairs -/
def putF (f : Str) (v : V) : List (Str × V) → List (Str × V)
  | [] => [(f, v)]
  | (g, x) :: r => if g = f then (g, v) :: r else (g, x) :: putF f v r
theorem lookup_putF (f g : Str) (v : V) : ∀ fs : List (Str × V), (putF f v fs).lookup g = if g = f then some v else fs.lookup g
  | [] => by
    show List.lookup g [(f, v)] = _
    by_cases h : g = f
    · have hb : (g == f) = true := beq_iff_eq.mpr h
      simp only [List.lookup, hb, if_pos h]
    · have hb : (g == f) = false := beq_eq_false_iff_ne.mpr h
      simp only [List.lookup, hb, if_neg h]
  | (k, x) :: r => by
    have ih := lookup_putF f g v r
    rw [show putF f v ((k, x) :: r) = (if k = f then (k, v) :: r else (k, x) :: putF f v r) from rfl]
    by_cases hk : k = f
    · rw [if_pos hk]
      by_cases h : g = k
      · have hb : (g == k) = true := beq_iff_eq.mpr h
        simp only [List.lookup, hb, if_pos (h.trans hk)]
      · have hb : (g == k) = false := beq_eq_false_iff_ne.mpr h
        simp only [List.lookup, hb, if_neg (fun e : g = f => h (e.trans hk.symm))]
    · rw [if_neg hk]
      by_cases h : g = k
      · have hb : (g == k) = true := beq_iff_eq.mpr h
        simp only [List.lookup, hb, if_neg (fun e : g = f => hk (h.symm.trans e))]
      · have hb : (g == k) = false := beq_eq_false_iff_ne.mpr h
        simp only [List.lookup, hb]
        exact ih
theorem keys_putF (f : Str) (v : V) : ∀ fs : List (Str × V), f ∈ (putF f v fs).map (·.1) ∧ ∀ g, g ∈ fs.map (·.1) → g ∈ (putF f v fs).map (·.1)
  | [] => ⟨by simp [putF], fun g h => by simp at h⟩
  | (k, x) :: r => by
    obtain ⟨i1, i2⟩ := keys_putF f v r
    rw [show putF f v ((k, x) :: r) = (if k = f then (k, v) :: r else (k, x) :: putF f v r) from rfl]
    by_cases hk : k = f
    · rw [if_pos hk]
      subst hk
      exact ⟨by simp, fun g h => by simpa using h⟩
    · rw [if_neg hk]
      refine ⟨?_, fun g h => ?_⟩
      · rw [List.map_cons]
        exact List.mem_cons_of_mem _ i1
      · rw [List.map_cons] at h ⊢
        rcases List.mem_cons.mp h with e | e
        · exact List.mem_cons.mpr (.inl e)
        · exact List.mem_cons_of_mem _ (i2 g e)
theorem length_putF (f : Str) (v : V) : ∀ fs : List (Str × V), (putF f v fs).length ≤ fs.length + 1
  | [] => by simp [putF]
  | (k, x) :: r => by
    have ih := length_putF f v r
    rw [show putF f v ((k, x) :: r) = (if k = f then (k, v) :: r else (k, x) :: putF f v r) from rfl]
    by_cases hk : k = f
    · rw [if_pos hk, List.length_cons, List.length_cons]; omega
    · rw [if_neg hk, List.length_cons, List.length_cons]; omega

theorem RelO.some_of {v : V} {o : Option Value} (r : RelO (some v) o) : ∃ u, o = some u ∧ RelV v u := by
  cases o with
  | none => exact (show False from r).elim
  | some u => exact ⟨u, rfl, r⟩
theorem RelO.none_of {o : Option Value} (r : RelO none o) : o = none := by
  cases o with
  | none => rfl
  | some u => exact (show False from r).elim
theorem handed_of {v : V} {u : Value} (r : RelV v u) : PySem.W.handedIn u = true := by
  cases v with
  | non => cases (show u = Value.none from r); rfl
  | bl b => cases (show u = Value.bool b from r); rfl
  | int i => obtain ⟨t, e⟩ := (show ∃ t, u = Value.int i t from r); cases e; rfl
  | str x => obtain ⟨t, e⟩ := (show ∃ t, u = Value.str x t from r); cases e; rfl
  | byt b => obtain ⟨t, e⟩ := (show ∃ t, u = Value.bytes b t from r); cases e; rfl
  | flt b => obtain ⟨t, e⟩ := (show ∃ t, u = Value.float b t from r); cases e; rfl
  | ref a => cases (show u = Value.ref a from r); rfl
  | ty n => cases (show u = Value.type n from r); rfl

section
variable {P : Program} {w : World} {H H' : Hp} {h h' : Heap} {a C dx : Addr} {fs fs' : List (Str × V)}
theorem ins_get (hok : HOk P w H h) (e : H a = some (.ins C dx fs)) : ∃ mA, ObjM h a dx C mA ∧ (∀ f, RelO (fs.lookup f) (mA f)) ∧ PySem.Within mA (fs.map (·.1)) ∧ fs.length ≤ 1000 ∧ H dx = some (.own a) := by
  obtain ⟨d, z, ne, ob, mA, n, r, q⟩ := (show ObjOk P w H h a (.ins C dx fs) from hok a _ e)
  exact ⟨mA, ⟨ob, n, ne⟩, r, q, z, d⟩
end

/-! ### what of the text a class must have -/
structure Cls (K : PySem.W.Frag) (C : Addr) : Prop where
  pg : PySem.W.plainGet K C Str.empty = true
  hd : PySem.W.hasDictIn K C = true
  po : PySem.W.plainOver K C = true
  sa : PySem.W.findIn K (.ref C) "__setattr__" = some (some (.builtin "object.__setattr__"))
theorem Cls.get {K : PySem.W.Frag} {C : Addr} (c : Cls K C) (f : Str) : PySem.W.plainGet K C f = true := c.pg
/-- no class of it has the name -/
def NoAttr (K : PySem.W.Frag) (C : Addr) (f : Str) : Prop := PySem.W.findIn K (.ref C) f = some none
theorem NoAttr.taker {K : PySem.W.Frag} {C : Addr} {f : Str} (n : NoAttr K C f) : PySem.W.takerIn K C f = some none := by
  unfold PySem.W.takerIn
  rw [show PySem.W.findIn K (.ref C) f = some none from n]
  rfl
/-- a constant of the class -/
structure Con (K : PySem.W.Frag) (C : Addr) (f : Str) (v : V) (u : Value) : Prop where
  at_ : PySem.W.findIn K (.ref C) f = some (some u)
  rel : RelV v u
  get : PySem.W.specialIn K u "__get__" = some none
  cp : PySem.W.copiedNames.contains f = false
/-- a method: a plain def of the class or of one above it -/
structure Meth (K : PySem.W.Frag) (C : Addr) (m : Str) (f : Addr) : Prop where
  at_ : PySem.W.findIn K (.ref C) m = some (some (.ref f))
  fn : PySem.W.isFn K (.ref f) = true
  kp : PySem.W.keepIn K (.ref f) = true

section
variable {X : Cx} {pins : List (Addr × Obj)} {σ : St} {H : Hp} {s : Shared} {a C dx : Addr} {fs : List (Str × V)} {f : Str} {v : V} {A : Around} {E : Value → Shared → Prop}

theorem getattr_ok {b : Bool} {Q : Value → Shared → Prop} (I : Inv X pins σ H s) (e : H a = some (.ins C dx fs)) (c : Cls X.K C) (n : NoAttr X.K C f) (l : fs.lookup f = some v)
    (h : ∀ u s', Inv X pins σ H s' → RelV v u → Q u s') : wpAny (model X.prog X.w) A (getAttr (.ref a) f b) Q E s := by
  obtain ⟨mA, O, r, _, _, _⟩ := ins_get I.hok e
  obtain ⟨u, hu, ru⟩ := RelO.some_of (v := v) (o := mA f) (by rw [← l]; exact r f)
  exact get_map I.kIn O (c.get f) c.hd n hu (handed_of ru) (h u _ (I.tok _) ru)

theorem getmeth_ok {m : Str} {g : Addr} {pl : Sem Bool} {Q : Value × List Value → Shared → Prop} (I : Inv X pins σ H s) (e : H a = some (.ins C dx fs)) (c : Cls X.K C) (k : Meth X.K C m g) (l : fs.lookup m = none)
    (h : Q (.ref g, [.ref a]) s) : wpAny (model X.prog X.w) A (getMethod (.ref a) m pl) Q E s := by
  obtain ⟨mA, O, r, _, _, _⟩ := ins_get I.hok e
  have hn : mA m = none := RelO.none_of (by rw [← l]; exact r m)
  exact get_meth I.kIn O (c.get m) k.at_ k.fn hn h

theorem setattr_ok {y : V} {u : Value} {Q : Unit → Shared → Prop} (I : Inv X pins σ H s) (e : H a = some (.ins C dx fs)) (c : Cls X.K C) (n : NoAttr X.K C f) (hl : fs.length < 1000) (ry : RelV y u)
    (h : ∀ s', Inv X pins σ (upd H a (.ins C dx (putF f y fs))) s' → Q () s') : wpAny (model X.prog X.w) A (setAttr (.ref a) f u) Q E s := by
  obtain ⟨mA, O, r, wi, _, ho⟩ := ins_get I.hok e
  have hz : (fs.map (·.1)).length ≤ sizeLine := by rw [List.length_map, sizeLine_eq]; omega
  refine set_map I.kIn O c.sa c.po n.taker c.hd wi hz fun h' O' sb => h _ ?_
  have hd : ∃ o, h'.get? dx = some o := let ⟨o, _, _, e', _⟩ := O'.ns; ⟨o, e'⟩
  refine I.write (x := a) (e := dx) (by rw [e]; exact True.intro) (.inr ho) (fun b q hb z => (sb.2 b hb).trans z) hd ?_
  refine ⟨by rw [upd_ne O.ne]; exact ho, ?_, O.ne, O'.obj, _, O'.ns, fun g => ?_, fun g hg => ?_⟩
  · have := length_putF f y fs; omega
  · show RelO ((putF f y fs).lookup g) (if g = f then some u else mA g)
    rw [lookup_putF]
    by_cases q : g = f
    · rw [if_pos q, if_pos q]; exact ry
    · rw [if_neg q, if_neg q]; exact r g
  · by_cases q : g = f
    · rw [q]; exact (keys_putF f y fs).1
    · refine (keys_putF f y fs).2 g (wi g fun z => hg ?_)
      show (if g = f then some u else mA g) = none
      rw [if_neg q]; exact z

/-- a new instance, tracked, without attributes -/
theorem Inv.made (I : Inv X pins σ H s) : Inv X pins σ (upd (upd H s.heap.objs.size (.own (s.heap.objs.size + 1))) (s.heap.objs.size + 1) (.ins C s.heap.objs.size []))
    { s with heap := (s.heap.push PySem.W.emptyDict).push (PySem.W.instObj C s.heap.objs.size) } := by
  have e1 : (s.heap.push PySem.W.emptyDict).get? s.heap.objs.size = some PySem.W.emptyDict := Heap.get?_push_size s.heap rfl
  have e2 : ((s.heap.push PySem.W.emptyDict).push (PySem.W.instObj C s.heap.objs.size)).get? (s.heap.objs.size + 1) = some (PySem.W.instObj C s.heap.objs.size) := by
    have := Heap.get?_push_size (s.heap.push PySem.W.emptyDict) (o := PySem.W.instObj C s.heap.objs.size) rfl
    rwa [Heap.size_push] at this
  have e3 : (s.heap.push PySem.W.emptyDict).Ns s.heap.objs.size (fun _ => none) := ⟨PySem.W.emptyDict, #[], _, e1, rfl, (fun e he => absurd he (by simp)), fun _ => rfl⟩
  have I1 := I.laid (a := s.heap.objs.size) (o := .own (s.heap.objs.size + 1)) (h' := s.heap.push PySem.W.emptyDict) (t' := s.toks) (fun b u q => Heap.get?_push_of_some _ q) (Nat.le_refl _) ⟨_, e1⟩
  refine I1.laid (a := s.heap.objs.size + 1) (o := .ins C s.heap.objs.size []) (t' := s.toks) (fun b u q => Heap.get?_push_of_some _ q) (Nat.le_of_eq (Heap.size_push _ _)) ?_
  have ne : s.heap.objs.size ≠ s.heap.objs.size + 1 := Nat.ne_of_lt (Nat.lt_succ_self _)
  refine ⟨by rw [upd_ne ne, upd_same], Nat.zero_le _, ne, e2, fun _ => none, (Heap.Ns1.of_empty e3).at fun o q => Heap.get?_push_of_some _ q, fun _ => True.intro, fun y hy => absurd rfl hy⟩

/-- e.f where nothing but the object is asked: through attributeBase (super) and the last hold -/
theorem attr_of {prog : Program} {w : World} {env : Env} {e : Expr} {f : Str} {pos : Pos} {s : Shared} {Q : Value → Shared → Prop} (hb : attributeBase e f env (eval e env) = eval e env)
    (h : wpAny (model prog w) A (eval e env) (fun o s₁ => wpAny (model prog w) A (getAttr o f true) Q E s₁) E s) : wpAny (model prog w) A (eval (.Attribute e f pos) env) Q E s :=
  Attribute_any_ h (by rw [arm_eval_Attribute, hb])
end

/-! ### readings and rules -/
/-- e.f, an attribute of the instance -/
def tFld (K : PySem.W.Frag) (ta : TE) (f : Str) : TE := fun σ H Q => ta σ H fun x H1 => ∃ a C dx fs v, x = .ref a ∧ H1 a = some (.ins C dx fs) ∧ Cls K C ∧ NoAttr K C f ∧ fs.lookup f = some v ∧ Q v H1
/-- e.f, a constant of the class -/
def tCon (K : PySem.W.Frag) (ta : TE) (f : Str) : TE := fun σ H Q => ta σ H fun x H1 => ∃ a C dx fs v u, x = .ref a ∧ H1 a = some (.ins C dx fs) ∧ Cls K C ∧ Con K C f v u ∧ fs.lookup f = none ∧ Q v H1
/-- e.f = value -/
def sFld (K : PySem.W.Frag) (ta tv : TE) (f : Str) : TS := fun D σ H => tv σ H fun y H1 => ta σ H1 fun x H2 => ∃ a C dx fs, x = .ref a ∧ H2 a = some (.ins C dx fs) ∧ Cls K C ∧ NoAttr K C f ∧ fs.length < 1000 ∧
  D.nx σ (upd H2 a (.ins C dx (putF f y fs)))
/-- an augmented operator on two values -/
def InOp (X : Cx) (op : Operator) (rd : V → V → Hp → VK → Prop) : Prop :=
  ∀ (pins : List (Addr × Obj)) (s : Shared) (σ : St) (H : Hp) (x y : V) (u v : Value) (Q : VK), Inv X pins σ H s → RelV x u → RelV y v → rd x y H Q → wpAny (model X.prog X.w) X.A (inplaceOp op u v) (EP X pins σ Q) X.xe s
/-- e.f op= value -/
def sFldAug (K : PySem.W.Frag) (ta tv : TE) (rd : V → V → Hp → VK → Prop) (f : Str) : TS := fun D σ H => ta σ H fun x H1 => ∃ a C dx fs v, x = .ref a ∧ H1 a = some (.ins C dx fs) ∧ Cls K C ∧ NoAttr K C f ∧ fs.lookup f = some v ∧
  tv σ H1 fun y H2 => rd v y H2 fun z H3 => ∃ dx' fs', H3 a = some (.ins C dx' fs') ∧ fs'.length < 1000 ∧ D.nx σ (upd H3 a (.ins C dx' (putF f z fs')))

section
variable {X : Cx} {o e value : Expr} {f : Str} {pos pos' tpos : Pos} {ta tv : TE}
theorem pe_fld (he : PE X e ta) (hb : attributeBase e f X.env (eval e X.env) = eval e X.env) : PE X (.Attribute e f pos) (tFld X.K ta f) := by
  intro pins s σ H Q I h
  refine attr_of hb (thn (he pins s σ H _ I h) fun u s1 ⟨x, H1, I1, rx, a, C, dx, fs, v, ex, ea, c, n, l, q⟩ => ?_)
  subst ex
  obtain rfl : u = Value.ref a := rx
  exact getattr_ok I1 ea c n l fun u' s2 I2 ru => ⟨v, H1, I2, ru, q⟩
theorem ps_fld (ha : PE X o ta) (hv : PE X value tv) (hs : swapsWith value (some (.Attribute o f pos')) pos.line X.env = pure false) : PS X (.Assign [.Attribute o f pos'] value pos) (sFld X.K ta tv f) := by
  intro pins s σ H D I h
  refine plainObj_wpAny_Assign_Attribute (thn (hv pins s σ H _ I h) fun u s1 ⟨y, H1, I1, ry, q⟩ => thn (ha pins s1 σ H1 _ I1 q) fun ov s2 ⟨x, H2, I2, rx, a, C, dx, fs, ex, ea, c, n, l, q2⟩ => ?_) hs
  subst ex
  obtain rfl : ov = Value.ref a := rx
  exact setattr_ok I2 ea c n l ry fun s3 I3 => ⟨σ, _, I3, q2⟩
def rAdd : V → V → Hp → VK → Prop := fun x y H Q => ∃ i j, x = .int i ∧ y = .int j ∧ Q (.int (i + j)) H
def rSub : V → V → Hp → VK → Prop := fun x y H Q => ∃ i j, x = .int i ∧ y = .int j ∧ Q (.int (i - j)) H
end

/-! ### isinstance -/
section
variable {X : Cx} {pins : List (Addr × Obj)} {σ : St} {H : Hp} {s : Shared} {A : Around} {E : Value → Shared → Prop} {Q : Value → Shared → Prop} {c : Value} {b : Bool}
/-- the type of a value, as the fragment's deciders take it; for an instance its class -/
inductive TyOf (K : PySem.W.Frag) (H : Hp) : V → Value → Prop where
  | non : TyOf K H .non (.type "NoneType")
  | bl (x : Bool) : TyOf K H (.bl x) (.type "bool")
  | int (i : Int) : TyOf K H (.int i) (.type "int")
  | str (x : Str) : TyOf K H (.str x) (.type "str")
  | flt (x : UInt64) : TyOf K H (.flt x) (.type "float")
  | lst {a : Addr} {xs : List V} (e : H a = some (.lst xs)) : TyOf K H (.ref a) (.type "list")
  | frz {a : Addr} {o : Obj} {xs : List V} (e : H a = some (.frz o (.lst xs))) : TyOf K H (.ref a) (.type "list")
  | tup {a : Addr} {xs : List V} (e : H a = some (.tup xs)) : TyOf K H (.ref a) (.type "tuple")
  | dK {a : Addr} {kvs : List (Key × V)} (e : H a = some (.dK kvs)) : TyOf K H (.ref a) (.type "dict")
  | dT {a : Addr} {kvs : List (List Key × V)} (e : H a = some (.dT kvs)) : TyOf K H (.ref a) (.type "dict")
  | ins {a C dx : Addr} {fs : List (Str × V)} (e : H a = some (.ins C dx fs)) (cl : Cls K C) (ha : PySem.W.findIn K (.ref C) "__class__" = some (some (.builtin "object.__class__")))
      (hn : PySem.W.specialIn K (.builtin "object.__class__") "__get__" = some (some (.builtin "getset_descriptor.__get__"))) (htk : PySem.W.takesIn K (.builtin "object.__class__") = some true)
      (hm : PySem.W.mroIn K C (.type "object") = some true) : TyOf K H (.ref a) (.ref C)
/-- isinstance(x, c) for one class c, a built-in or an own one: kitOne's answer -/
theorem isinst_ok {x : V} {u t : Value} (I : Inv X pins σ H s) (rx : RelV x u) (ty : TyOf X.K H x t) (e : PySem.W.kitOne X.K t c = some b) (h : ∀ tk, Q (.bool b) { s with toks := tk }) :
    wpAny (model X.prog X.w) A (call (.builtin "isinstance") [u, c]) Q E s := by
  cases ty with
  | non => cases (show u = Value.none from rx); exact PySem.W.kia_one PySem.W.kitx_none I.kIn True.intro e (fun z => nomatch z) h
  | bl y => cases (show u = Value.bool y from rx); exact PySem.W.kia_one PySem.W.kitx_bool I.kIn True.intro e (fun z => nomatch z) h
  | int i => obtain ⟨t, q⟩ := (show ∃ t, u = Value.int i t from rx); cases q; exact PySem.W.kia_one PySem.W.kitx_int I.kIn True.intro e (fun z => nomatch z) h
  | str y => obtain ⟨t, q⟩ := (show ∃ t, u = Value.str y t from rx); cases q; exact PySem.W.kia_one PySem.W.kitx_str I.kIn True.intro e (fun z => nomatch z) h
  | flt y => obtain ⟨t, q⟩ := (show ∃ t, u = Value.float y t from rx); cases q; exact PySem.W.kia_one PySem.W.kitx_float I.kIn True.intro e (fun z => nomatch z) h
  | @lst a xs ea =>
    cases (show u = Value.ref a from rx)
    obtain ⟨_, _, n, _, h1⟩ := (show ObjOk X.prog X.w H s.heap a (.lst xs) from I.hok a _ ea)
    exact PySem.W.kia_one PySem.W.kitx_list I.kIn ⟨_, h1, rfl⟩ e (fun z => nomatch z) h
  | @frz a ob xs ea =>
    cases (show u = Value.ref a from rx)
    obtain ⟨_, _, _, n, _, h1⟩ := (show ObjOk X.prog X.w H s.heap a (.frz ob (.lst xs)) from I.hok a _ ea)
    exact PySem.W.kia_one PySem.W.kitx_list I.kIn ⟨_, h1, rfl⟩ e (fun z => nomatch z) h
  | @tup a xs ea =>
    cases (show u = Value.ref a from rx)
    obtain ⟨_, _, _, p⟩ := (show ObjOk X.prog X.w H s.heap a (.tup xs) from I.hok a _ ea)
    obtain ⟨o, h1, h2, _⟩ := p
    exact PySem.W.kia_one PySem.W.kitx_tuple I.kIn ⟨o, h1, h2⟩ e (fun z => nomatch z) h
  | @dK a kvs ea =>
    cases (show u = Value.ref a from rx)
    obtain ⟨_, _, vs, _, p⟩ := (show ObjOk X.prog X.w H s.heap a (.dK kvs) from I.hok a _ ea)
    obtain ⟨o, es, ep, h1, h2, _⟩ := p
    exact PySem.W.kia_one PySem.W.kitx_dict I.kIn ⟨o, h1, h2.1⟩ e (fun z => nomatch z) h
  | @dT a kvs ea =>
    cases (show u = Value.ref a from rx)
    obtain ⟨_, _, xs, _, o, es, ep, h1, h2, _⟩ := (show ObjOk X.prog X.w H s.heap a (.dT kvs) from I.hok a _ ea)
    exact PySem.W.kia_one PySem.W.kitx_dict I.kIn ⟨o, h1, h2.1⟩ e (fun z => nomatch z) h
  | @ins a C dx fs ea cl ha hn htk hm =>
    cases (show u = Value.ref a from rx)
    obtain ⟨mA, O, _⟩ := ins_get I.hok ea
    obtain ⟨od, J, _⟩ := O.look
    exact PySem.W.kia_one (PySem.W.kitx_own (cl.get _) cl.hd ha hn htk hm) I.kIn J e (fun z => nomatch z) h
end
end L2

namespace L2
open PySem PySem.Spec PyProof.Rows

/-! ### room -/
structure Room (k : Nat) (A : Around) : Prop where
  hd : A.handled = none
  dp : A.depth + 3 * k + 5 < recursionLimit
  un : A.units + 16 * k + 200 < cLine
theorem Room.mono {j k : Nat} {A : Around} (r : Room k A) (h : j ≤ k) : Room j A := ⟨r.hd, by have := r.dp; omega, by have := r.un; omega⟩
theorem Room.deeper {k : Nat} {A : Around} (r : Room (k + 1) A) (env : Env) : Room k (A.deeper env) :=
  ⟨r.hd, by have := r.dp; show A.depth + 1 + 3 * k + 5 < _; omega, by have := r.un; show A.units + 3 + 16 * k + 200 < _; omega⟩
theorem make_depth {A : Around} {C : Addr} {us : List Value} {kw : List (Str × Value)} : (A.under (.builtin "type.__call__" ⟨.ref C :: us, kw⟩)).depth = A.depth + 1 := by
  first | rfl | simp [Around.under, Code.weight, Code.isCreation, Code.isGuard, Code.isCaller, Code.frames, Code.isFrame, guardIds]
theorem make_units {A : Around} {C : Addr} {us : List Value} {kw : List (Str × Value)} : (A.under (.builtin "type.__call__" ⟨.ref C :: us, kw⟩)).units = A.units + 1 := by
  first | rfl | simp [Around.under, Code.cUnits, Code.frames, Code.isFrame]
theorem Room.make {k : Nat} {A : Around} (r : Room (k + 1) A) (C : Addr) (us : List Value) (kw : List (Str × Value)) : Room k (A.under (.builtin "type.__call__" ⟨.ref C :: us, kw⟩)) :=
  ⟨r.hd, by have := r.dp; rw [make_depth]; omega, by have := r.un; rw [make_units]; omega⟩
theorem Room.depth {k : Nat} {A : Around} (r : Room k A) : A.depth < recursionLimit := by have := r.dp; omega
theorem Room.units0 {k : Nat} {A : Around} (r : Room k A) : A.units < cLine := by have := r.un; omega

/-! ### argument lists and displays -/
def tNil : TA := fun _ H Q => Q [] H
def tCons (ta : TE) (tr : TA) : TA := fun σ H Q => ta σ H fun x H1 => tr σ H1 fun xs H2 => Q (x :: xs) H2
section
variable {X : Cx} {e : Expr} {es : List Expr} {te : TE} {t : TA} {pos : Pos}
theorem pa_nil : PA X [] tNil := fun _ _ _ _ H Q I h => Calls.spliced_nil ⟨[], H, I, .nil, h⟩
theorem pa_cons (ha : PE X e te) (hr : PA X es t) (hs : starEach (e :: es) X.env = (false, eval e X.env) :: starEach es X.env := by rfl) : PA X (e :: es) (tCons te t) := by
  intro pos pins s σ H Q I h
  rw [hs]
  show wpAny _ _ (spliced ((false, eval e X.env) :: backTo pos (starEach es X.env))) _ _ s
  refine Calls.spliced_cons (thn (ha pins s σ H _ I h) fun u s1 ⟨x, H1, I1, r1, q1⟩ => ?_)
  exact thn (hr pos pins s1 σ H1 _ I1 q1) fun us s2 ⟨xs, H2, I2, r2, q2⟩ => ⟨x :: xs, H2, I2, .cons r1 r2, q2⟩

/-- a tuple, a list of written items -/
def tTup (t : TA) : TE := fun σ H Q => t σ H fun xs H1 => xs.length ≤ sizeLine ∧ ∀ p, H1 p = none → Q (.ref p) (upd H1 p (.tup xs))
def tLst (t : TA) : TE := fun σ H Q => t σ H fun xs H1 => xs.length ≤ sizeLine ∧ ∀ p, H1 p = none → Q (.ref p) (upd H1 p (.lst xs))
theorem pe_tup {x1} (h : PA X es t) : PE X (.Tuple es x1 pos) (tTup t) := by
  intro pins s σ H Q I hq
  refine wpAny_Tuple_spliced (thn (h pos pins s σ H _ I hq) fun us s1 ⟨xs, H1, I1, r, z, q⟩ => ⟨by rw [← r.length]; exact z, ?_⟩)
  have hf : H1 s1.heap.objs.size = none := I1.hok.fresh (Nat.le_refl _)
  refine ⟨.ref s1.heap.objs.size, upd H1 s1.heap.objs.size (.tup xs), I1.laid (t' := s1.toks) (fun b u e => Heap.get?_push_of_some _ e) (Nat.le_refl _) ?_, rfl, q _ hf⟩
  exact ⟨z, us, r, ⟨_, Heap.get?_push_size _ rfl, rfl, _, rfl⟩⟩
theorem pe_lst (h : PA X es t) : PE X (.List es pos) (tLst t) := by
  intro pins s σ H Q I hq
  refine wpAny_List_spliced (thn (h pos pins s σ H _ I hq) fun us s1 ⟨xs, H1, I1, r, z, q⟩ => ⟨by rw [← r.length]; exact z, ?_⟩)
  have hf : H1 s1.heap.objs.size = none := I1.hok.fresh (Nat.le_refl _)
  refine ⟨.ref s1.heap.objs.size, upd H1 s1.heap.objs.size (.lst xs), I1.laid (t' := s1.toks) (fun b u e => Heap.get?_push_of_some _ e) (Nat.le_refl _) ?_, rfl, q _ hf⟩
  exact ⟨z, us, 0, r, Heap.get?_push_size _ rfl⟩
end

/-! ### what a def promises -/
/-- a def's promise: the bound arguments in the parameters' order, the heap, the wanted end, the wanted exception -/
abbrev Sp := List V → Hp → VK → XK → Prop
/-- how an exception lies behind a call (file 08 gives it): the callers' frames, abstract heap and state ahead of the call, the wish, the exception, the state -/
abbrev CXT := List Env → Hp → Shared → XK → Value → Shared → Prop

/-- the state at a call -/
structure Env0 (P : Program) (w : World) (K : PySem.W.Frag) (mg : Str → Option Value) (base : Heap) (A : Around) (outer : List Env) (s : Shared) (H : Hp) : Prop where
  frames : A.frames = some outer
  mod : Mod K mg base
  bs : ∀ b o, base.get? b = some o → s.heap.get? b = some o ∧ H b = none
  bsz : base.objs.size ≤ s.heap.objs.size
  funs : s.heap.FunFrames base outer
  frf : ∀ b ∈ frs outer, H b = none
  hok : HOk P w H s.heap
  bare : AllBare s.gens
/-- a call's end -/
def CE (outer : List Env) (P : Program) (w : World) (H : Hp) (s : Shared) (Q : VK) (u : Value) (s' : Shared) : Prop :=
  ∃ v H', s'.os = s.os ∧ AllBare s'.gens ∧ Un (frs outer) [] H H' s.heap s'.heap ∧ HOk P w H' s'.heap ∧ RelV v u ∧ Q v H'
def CR (CX : CXT) (outer : List Env) (P : Program) (w : World) (H : Hp) (s : Shared) (Q : VK) (E : XK) (r : Result) (s' : Shared) : Prop :=
  match r with
  | .ok (.ret u) => CE outer P w H s Q u s'
  | .ok _ => False
  | .error e => CX outer H s E e s'
structure FnOk (P : Program) (w : World) (K : PySem.W.Frag) (mg : Str → Option Value) (base : Heap) (CX : CXT) (k : Nat) (f : Addr) (fd : FuncData) (ps : List Str) (sp : Sp) : Prop where
  len : ∀ vs H Q E, sp vs H Q E → vs.length = ps.length
  run : ∀ (A : Around) (outer : List Env) (s : Shared) (H : Hp) (args : Args) (us : List Value) (vs : List V) (Q : VK) (E : XK), Room k A → Env0 P w K mg base A outer s H → BindsTo s fd args (ps.zip us) → Vals vs us → sp vs H Q E →
    codeAny (model P w) A (.call (.ref f) args) (CR CX outer P w H s Q E) s
theorem FnOk.mono {P : Program} {w : World} {K : PySem.W.Frag} {mg : Str → Option Value} {base : Heap} {CX : CXT} {j k : Nat} {f : Addr} {fd : FuncData} {ps : List Str} {sp : Sp} (F : FnOk P w K mg base CX j f fd ps sp) (h : j ≤ k) :
    FnOk P w K mg base CX k f fd ps sp := ⟨F.len, fun A outer s H args us vs Q E hr => F.run A outer s H args us vs Q E (hr.mono h)⟩
theorem Env0.make {P : Program} {w : World} {K : PySem.W.Frag} {mg : Str → Option Value} {base : Heap} {A : Around} {outer : List Env} {s : Shared} {H : Hp} (e : Env0 P w K mg base A outer s H) (C : Addr) (us : List Value) (kw : List (Str × Value)) :
    Env0 P w K mg base (A.under (.builtin "type.__call__" ⟨.ref C :: us, kw⟩)) outer s H := ⟨by first | exact e.frames | (simpa [Around.under, Code.envs, Code.isFrame, pushEnvs] using e.frames), e.mod, e.bs, e.bsz, e.funs, e.frf, e.hok, e.bare⟩
section
variable {X : Cx} {pins : List (Addr × Obj)} {σ : St} {H : Hp} {s s' : Shared}
/-- from a body: what a callee wants -/
theorem Inv.env0 (I : Inv X pins σ H s) : Env0 X.prog X.w X.K X.mg X.base X.A X.stack s H :=
  ⟨I.ok.frames, I.ok.mod, I.bs, Nat.le_trans I.ok.bsz I.sz, I.stack, I.stkFree, I.hok, I.bare⟩
/-- behind a call -/
theorem Inv.after {Q : VK} {u : Value} (I : Inv X pins σ H s) (h : CE X.stack X.prog X.w H s Q u s') : EP X pins σ Q u s' := by
  obtain ⟨v, H', os, bare, un, hok, r, q⟩ := h
  obtain ⟨hh, g, d, t, os'⟩ := s'
  obtain rfl : os' = s.os := os
  exact ⟨v, H', I.call (h' := hh) (g' := g) (d' := d) (t' := t) (ch := []) un hok bare (fun b z => absurd z (by simp)), r, q⟩
end

/-! ### calls -/
/-- f(..): the written arguments, then the defaults dvs; E: what is wanted of an exception -/
def tCall (sp : Sp) (dvs : List V) (E : XK) (t : TA) : TE := fun σ H Q => t σ H fun vs H1 => sp (vs ++ dvs) H1 Q E
/-- o.m(..) of an instance of the class at C -/
def tMeth (C : Addr) (m : Str) (sp : Sp) (dvs : List V) (E : XK) (ta : TE) (t : TA) : TE := fun σ H Q => ta σ H fun x H1 => ∃ a dx fs, x = .ref a ∧ H1 a = some (.ins C dx fs) ∧ fs.lookup m = none ∧
  t σ H1 fun vs H2 => sp (x :: (vs ++ dvs)) H2 Q E
/-- C(..): a new instance and its dict, then __init__ -/
def tMake (C : Addr) (sp : Sp) (dvs : List V) (E : XK) (t : TA) : TE := fun σ H Q => t σ H fun vs H1 => ∀ x dx, H1 x = none → H1 dx = none → dx ≠ x →
  sp (.ref x :: (vs ++ dvs)) (upd (upd H1 dx (.own x)) x (.ins C dx [])) (fun v H2 => v = .non ∧ Q (.ref x) H2) E

/-- how the parameters are bound: us the positional arguments, kw the keywords' values by name, ds the defaults that fill up -/
def Binds (K : PySem.W.Frag) (fd : FuncData) (ps : List Str) (ds : List Value) : Prop :=
  ∀ (s : Shared) (us : List Value), K.In s.heap → (us ++ ds).length = ps.length → BindsTo s fd ⟨us, []⟩ (ps.zip (us ++ ds))
/-- every parameter is given -/
theorem Binds.all {K : PySem.W.Frag} {fd : FuncData} {ps : List Str} (h : ∀ us : List Value, us.length = ps.length → bindArgs fd ⟨us, []⟩ = pure (ps.zip us)) : Binds K fd ps [] := fun s us _ hl => by
  rw [List.append_nil] at hl ⊢
  exact .of_eq (h us hl)

/-- an exception of a callee reaches what this body wants of exceptions -/
def Passes (CX : CXT) (X : Cx) (E : XK) : Prop := ∀ (pins : List (Addr × Obj)) (σ : St) (H : Hp) (s : Shared) (e : Value) (s' : Shared), Inv X pins σ H s → CX X.stack H s E e s' → X.xe e s'

section
variable {X : Cx} {CX : CXT} {k : Nat} {f C : Addr} {fd : FuncData} {ps : List Str} {sp : Sp} {dvs : List V} {ds : List Value} {E : XK} {x m : Str} {p pos apos : Pos} {e o : Expr} {es : List Expr} {ta : TE} {t : TA}

/-- the callee runs -/
theorem run_fn {pins : List (Addr × Obj)} {σ : St} {H : Hp} {s : Shared} {Q : VK} {us : List Value} {vs : List V} (F : FnOk X.prog X.w X.K X.mg X.base CX k f fd ps sp) (hr : Room k X.A) (hb : Binds X.K fd ps ds) (hd : Vals dvs ds) (hx : Passes CX X E)
    (I : Inv X pins σ H s) (r : Vals vs us) (h : sp (vs ++ dvs) H Q E) : wpAny (model X.prog X.w) X.A (call (.ref f) us) (EP X pins σ Q) X.xe s := by
  have r2 : Vals (vs ++ dvs) (us ++ ds) := r.append hd
  have hl : (us ++ ds).length = ps.length := by rw [← r2.length]; exact F.len _ _ _ _ h
  refine wpAny_call (codeAny_mono (F.run X.A X.stack s H ⟨us, []⟩ (us ++ ds) (vs ++ dvs) Q E hr I.env0 (hb s us I.kIn hl) r2 h) fun r s' hq => ?_)
  cases r with
  | error e => exact hx pins σ H s e s' I hq
  | ok fl =>
    cases fl with
    | ret u => exact I.after hq
    | next => exact False.elim hq
    | brk => exact False.elim hq
    | cont => exact False.elim hq

theorem pe_call (F : FnOk X.prog X.w X.K X.mg X.base CX k f fd ps sp) (hr : Room k X.A) (hg : Gl X x) (hm : X.mg x = some (.ref f)) (hk : PySem.W.keepIn X.K (.ref f) = true) (hb : Binds X.K fd ps ds) (hd : Vals dvs ds) (hx : Passes CX X E)
    (ha : PA X (e :: es) t) (hdb : (x == ("__debug__" : Str)) = false := by decide) (he : starEach (e :: es) X.env = (false, eval e X.env) :: starEach es X.env := by rfl) (hpl : (backTo pos (starEach es X.env)).any (·.1) = false := by rfl) :
    PE X (.Call (.Name x p) (e :: es) [] pos) (tCall sp dvs E t) := by
  intro pins s σ H Q I h
  refine wpAny_Call_Name_kw (ld_glob I hg hm ?_ hdb)
  refine PySem.W.callWith_K (h₀ := X.base) I.ok.mod.kin hk (thn (ha pos pins s σ H _ I h) fun us s1 ⟨vs, H1, I1, r, q⟩ => ⟨I1.kIn, ?_⟩) he hpl
  exact run_fn F hr hb hd hx I1 r q
/-- o.m(e, ..) -/
theorem pe_meth {pl : Sem Bool} (he : PE X o ta) (c : Cls X.K C) (hm : Meth X.K C m f) (F : FnOk X.prog X.w X.K X.mg X.base CX k f fd ps sp) (hr : Room k X.A) (hb : Binds X.K fd ps ds) (hd : Vals dvs ds) (hx : Passes CX X E) (ha : PA X (e :: es) t)
    (hst : starEach (e :: es) X.env = (false, eval e X.env) :: starEach es X.env := by rfl) (hpl : (backTo pos (starEach es X.env)).any (·.1) = false := by rfl)
    (ht : eval (.Call (.Attribute o m apos) (e :: es) [] pos) X.env = (do
      let ov ← eval o X.env
      standAt apos.atName
      let (f, first) ← holding [ov] (getMethod ov m pl)
      callWith pos f first (backTo pos (starEach (e :: es) X.env)) (backToKw pos (keywordEach [] X.env))) := by rfl) :
    PE X (.Call (.Attribute o m apos) (e :: es) [] pos) (tMeth C m sp dvs E ta t) := by
  intro pins s σ H Q I h
  refine PySem.W.methodCall_KW (pl := pl) (thn (he pins s σ H _ I h) fun u s1 ⟨x, H1, I1, rx, a, dx, fs, ex, ea, l, q⟩ => ?_) ht
  subst ex
  obtain rfl : u = Value.ref a := rx
  refine getmeth_ok I1 ea c hm l ?_
  refine PySem.W.callWith_K (first := [.ref a]) (h₀ := X.base) I.ok.mod.kin hm.kp (thn (ha pos pins s1 σ H1 _ I1 q) fun us s2 ⟨vs, H2, I2, r, q2⟩ => ⟨I2.kIn, ?_⟩) hst hpl
  exact run_fn (us := .ref a :: us) (vs := .ref a :: vs) F hr hb hd hx I2 (.cons rfl r) q2
/-- o.m() -/
theorem pe_meth0 {pl : Sem Bool} (he : PE X o ta) (c : Cls X.K C) (hm : Meth X.K C m f) (F : FnOk X.prog X.w X.K X.mg X.base CX k f fd ps sp) (hr : Room k X.A) (hb : Binds X.K fd ps ds) (hd : Vals dvs ds) (hx : Passes CX X E)
    (ht : eval (.Call (.Attribute o m apos) [] [] pos) X.env = (do
      let ov ← eval o X.env
      standAt apos.atName
      let (f, first) ← holding [ov] (getMethod ov m pl)
      callWith pos f first (backTo pos (starEach [] X.env)) (backToKw pos (keywordEach [] X.env))) := by rfl) :
    PE X (.Call (.Attribute o m apos) [] [] pos) (tMeth C m sp dvs E ta tNil) := by
  intro pins s σ H Q I h
  refine PySem.W.methodCall_KW (pl := pl) (thn (he pins s σ H _ I h) fun u s1 ⟨x, H1, I1, rx, a, dx, fs, ex, ea, l, q⟩ => ?_) ht
  subst ex
  obtain rfl : u = Value.ref a := rx
  refine getmeth_ok I1 ea c hm l ?_
  exact PySem.W.callWith_K0 (first := [.ref a]) I1.kIn hm.kp (run_fn (us := [.ref a]) (vs := [.ref a]) F hr hb hd hx I1 (.cons rfl .nil) q)

/-- what a class must have to be made -/
structure Mk (K : PySem.W.Frag) (C f : Addr) : Prop where
  makes : PySem.W.makesIn K C = true
  init : PySem.W.findIn K (.ref C) "__init__" = some (some (.ref f))
  fn : PySem.W.isFn K (.ref f) = true
  kp : PySem.W.keepIn K (.ref C) = true

theorem run_make {pins : List (Addr × Obj)} {σ : St} {H : Hp} {s : Shared} {Q : VK} {us : List Value} {vs : List V} (M : Mk X.K C f) (F : FnOk X.prog X.w X.K X.mg X.base CX k f fd ps sp) (hr : Room (k + 1) X.A) (hb : Binds X.K fd ps ds) (hd : Vals dvs ds)
    (hx : Passes CX X E) (I : Inv X pins σ H s) (r : Vals vs us)
    (h : ∀ x dx, H x = none → H dx = none → dx ≠ x → sp (.ref x :: (vs ++ dvs)) (upd (upd H dx (.own x)) x (.ins C dx [])) (fun v H2 => v = .non ∧ Q (.ref x) H2) E) :
    wpAny (model X.prog X.w) X.A (call (.ref C) us) (EP X pins σ Q) X.xe s := by
  have hq := h (s.heap.objs.size + 1) s.heap.objs.size (I.hok.fresh (Nat.le_succ _)) (I.hok.fresh (Nat.le_refl _)) (Nat.ne_of_lt (Nat.lt_succ_self _))
  have I2 := Inv.made (C := C) I
  have r2 : Vals (V.ref (s.heap.objs.size + 1) :: (vs ++ dvs)) (Value.ref (s.heap.objs.size + 1) :: (us ++ ds)) := .cons rfl (r.append hd)
  have hl : (Value.ref (s.heap.objs.size + 1) :: us ++ ds).length = ps.length := by
    have e := r2.length
    rw [F.len _ _ _ _ hq] at e
    exact e.symm
  refine wpAny_call (make_map (f := f) I.kIn M.makes M.init (beq_iff_eq.mp M.fn) (codeAny_mono (F.run _ X.stack _ _ ⟨Value.ref (s.heap.objs.size + 1) :: us, []⟩ (Value.ref (s.heap.objs.size + 1) :: (us ++ ds)) _ _ E (hr.make C us [])
    (I2.env0.make C us []) (hb _ (Value.ref (s.heap.objs.size + 1) :: us) I2.kIn hl) r2 hq) fun r s' hq' => ?_))
  cases r with
  | error e => exact hx pins σ _ _ e s' I2 hq'
  | ok fl =>
    cases fl with
    | ret u =>
      obtain ⟨v, H', I3, rv, ev, q3⟩ := I2.after hq'
      subst ev
      exact ⟨rv, ⟨V.ref (s.heap.objs.size + 1), H', I3, rfl, q3⟩⟩
    | next => exact False.elim hq'
    | brk => exact False.elim hq'
    | cont => exact False.elim hq'
theorem pe_make0 (M : Mk X.K C f) (F : FnOk X.prog X.w X.K X.mg X.base CX k f fd ps sp) (hr : Room (k + 1) X.A) (hg : Gl X x) (hm : X.mg x = some (.ref C)) (hb : Binds X.K fd ps ds) (hd : Vals dvs ds) (hx : Passes CX X E)
    (hdb : (x == ("__debug__" : Str)) = false := by decide) : PE X (.Call (.Name x p) [] [] pos) (tMake C sp dvs E tNil) := by
  intro pins s σ H Q I h
  refine wpAny_Call_Name_kw (ld_glob I hg hm ?_ hdb)
  exact PySem.W.callWith_K0 I.kIn M.kp (run_make (us := []) M F hr hb hd hx I .nil h)
end

/-! ### keywords -/
/-- the values of the keywords, from the left -/
def PK (X : Cx) (kws : List Keyword) (t : TA) : Prop :=
  ∀ (pos : Pos) (pins : List (Addr × Obj)) (s : Shared) (σ : St) (H : Hp) (Q : List V → Hp → Prop), Inv X pins σ H s → t σ H Q → wpAny (model X.prog X.w) X.A (evalAll ((backToKw pos (keywordEach kws X.env)).map (·.2))) (AP X pins σ Q) X.xe s
section
variable {X : Cx} {CX : CXT} {k : Nat} {f C : Addr} {fd : FuncData} {ps ks : List Str} {sp : Sp} {E : XK} {x m : Str} {p pos apos kpos : Pos} {e o : Expr} {es : List Expr} {kws : List Keyword} {te ta : TE} {t tk : TA} {nm : Option Str}
/-- how a call with keywords binds: g puts the positional values us and the keywords' values ws (names ks) in the parameters' order, defaults among them -/
structure KBinds (K : PySem.W.Frag) (fd : FuncData) (ps ks : List Str) (g : List Value → List Value → List Value) (gV : List V → List V → List V) : Prop where
  to : ∀ (s : Shared) (us ws : List Value), K.In s.heap → (g us ws).length = ps.length → BindsTo s fd ⟨us, ks.zip ws⟩ (ps.zip (g us ws))
  rel : ∀ {vs : List V} {us : List Value} {zs : List V} {ws : List Value}, Vals vs us → Vals zs ws → Vals (gV vs zs) (g us ws)
def tCallK (sp : Sp) (gV : List V → List V → List V) (E : XK) (t tk : TA) : TE := fun σ H Q => t σ H fun vs H1 => tk σ H1 fun zs H2 => sp (gV vs zs) H2 Q E
variable {g : List Value → List Value → List Value} {gV : List V → List V → List V}
end

/-! ### a def's body keeps its promise -/
/-- names: the parameters first -/
structure FnScope (N P : List Str) (sc : Scope) : Prop where
  kind : sc.kind = .function
  co : sc.isCoroutine = false
  gen : sc.isGenerator = false
  nd : N.Nodup
  pre : N.take P.length = P
  par : ∀ x ∈ P, sc.names.lookup x = some .local ∨ sc.names.lookup x = some .cell
  nofree : ∀ y ∈ sc.names, y.2 ≠ .free

theorem bindL_out {kindOf : Str → Option NameKind} {x : Str} : ∀ {binds : List (Str × Value)} {m : Str → Option Value}, (∀ v, (x, v) ∉ binds) → bindL kindOf binds m x = m x
  | [], _, _ => rfl
  | (n, v) :: r, m, h => by
    unfold bindL
    rw [bindL_out fun w hw => h w (List.mem_cons_of_mem _ hw)]
    split
    · have : x ≠ n := by rintro rfl; exact h v List.mem_cons_self
      simp [this]
    · rfl
theorem bindC_out {kindOf : Str → Option NameKind} {x : Str} : ∀ {binds : List (Str × Value)} {m : Str → Option Value}, (∀ v, (x, v) ∉ binds) → bindC kindOf binds m x = m x
  | [], _, _ => rfl
  | (n, v) :: r, m, h => by
    unfold bindC
    rw [bindC_out fun w hw => h w (List.mem_cons_of_mem _ hw)]
    split
    · rfl
    · have : x ≠ n := by rintro rfl; exact h v List.mem_cons_self
      simp [this]
theorem bindL_get {kindOf : Str → Option NameKind} {x : Str} {v : Value} : ∀ {P : List Str} {vs : List Value} {i : Nat} {m : Str → Option Value}, P.Nodup → P[i]? = some x → vs[i]? = some v → kindOf x = some .local →
    bindL kindOf (P.zip vs) m x = some v
  | [], _, _, _, _, h, _, _ => by simp at h
  | _ :: _, [], _, _, _, _, h, _ => by simp at h
  | p :: P, w :: vs, 0, m, nd, h1, h2, hk => by
    simp at h1 h2; subst h1; subst h2
    show bindL kindOf ((p, w) :: P.zip vs) m p = _
    unfold bindL
    rw [bindL_out fun v hv => (List.nodup_cons.mp nd).1 (List.of_mem_zip hv).1, if_pos hk]
    simp
  | p :: P, w :: vs, i + 1, m, nd, h1, h2, hk => by
    show bindL kindOf ((p, w) :: P.zip vs) m x = _
    unfold bindL
    exact bindL_get (i := i) (List.nodup_cons.mp nd).2 (by simpa using h1) (by simpa using h2) hk
theorem bindC_get {kindOf : Str → Option NameKind} {x : Str} {v : Value} : ∀ {P : List Str} {vs : List Value} {i : Nat} {m : Str → Option Value}, P.Nodup → P[i]? = some x → vs[i]? = some v → kindOf x ≠ some .local →
    bindC kindOf (P.zip vs) m x = some v
  | [], _, _, _, _, h, _, _ => by simp at h
  | _ :: _, [], _, _, _, _, h, _ => by simp at h
  | p :: P, w :: vs, 0, m, nd, h1, h2, hk => by
    simp at h1 h2; subst h1; subst h2
    show bindC kindOf ((p, w) :: P.zip vs) m p = _
    unfold bindC
    rw [bindC_out fun v hv => (List.nodup_cons.mp nd).1 (List.of_mem_zip hv).1, if_neg hk]
    simp
  | p :: P, w :: vs, i + 1, m, nd, h1, h2, hk => by
    show bindC kindOf ((p, w) :: P.zip vs) m x = _
    unfold bindC
    exact bindC_get (i := i) (List.nodup_cons.mp nd).2 (by simpa using h1) (by simpa using h2) hk

/-- the names' values at the entry -/
def start (N : List Str) (vs : List V) : St := vs.map some ++ List.replicate (N.length - vs.length) none

/-- the context of a def's body, at its entry; an exception leaves the frame, then lies as CX says -/
def cxOf (CX : CXT) (P : Program) (w : World) (K : PySem.W.Frag) (mg : Str → Option Value) (base : Heap) (N : List Str) (qual : Str) (scope : Scope) (f : Addr) (cd : Value) (A : Around) (outer : List Env) (s : Shared) (H : Hp) (E : XK) : Cx where
  prog := P
  w := w
  K := K
  mg := mg
  base := base
  A := A.deeper (envOfC qual scope s.heap.objs.size f cd)
  N := N
  s₀ := s
  H₀ := H
  env := envOfC qual scope s.heap.objs.size f cd
  outer := outer
  stack := envOfC qual scope s.heap.objs.size f cd :: outer
  ex := []
  calm := true
  fn := fun _ => true
  pn := []
  xe := fun e s' => wpAny (model P w) (A.deeper (envOfC qual scope s.heap.objs.size f cd)) (leaving (envOfC qual scope s.heap.objs.size f cd) e) (fun _ s'' => CX outer H s E e s'') (fun e' s'' => CX outer H s E e' s'') s'

theorem cell_has {sc : Scope} {n : Nat} {x : Str} (h : sc.names.lookup x = some .cell) : ∃ c, (cellsFrom n sc.names []).lookup x = some c := by
  have q := PySem.W.cellsFrom_some sc.names n [] (.inl h)
  exact Option.isSome_iff_exists.mp q

theorem inv_start {CX : CXT} {P : Program} {w : World} {K : PySem.W.Frag} {mg : Str → Option Value} {base : Heap} {N ps : List Str} {qual : Str} {scope : Scope} {f : Addr} {cd : Value} {A : Around} {outer : List Env} {s s1 : Shared} {H : Hp} {E : XK} {us : List Value} {vs : List V}
    (S : FnScope N ps scope) (hd : A.handled = none) (e0 : Env0 P w K mg base A outer s H) (hl : vs.length = ps.length) (r : Vals vs us)
    (x : InCallC s s.heap.objs.size (bindL (envOfC qual scope s.heap.objs.size f cd).kindOf (ps.zip us) fun _ => none) (cellsFrom (s.heap.objs.size + 1) scope.names []) (bindC (envOfC qual scope s.heap.objs.size f cd).kindOf (ps.zip us) fun _ => none) s1) :
    Inv (cxOf CX P w K mg base N qual scope f cd A outer s H E) [] (start N vs) H s1 := by
  have hpl : ps.length ≤ N.length := by have := congrArg List.length S.pre; rw [List.length_take] at this; omega
  obtain ⟨h1, tk, rfl, hk⟩ := x.done
  have noA : ∀ b : Addr, b ∉ (cxOf CX P w K mg base N qual scope f cd A outer s H E).ex := fun b z => absurd (show b ∈ ([] : List Addr) from z) (by simp)
  refine ⟨⟨e0.mod, S.kind, rfl, rfl, Nat.le_refl _, fun y z c h1 h2 => ?_, fun y hy => ?_, fun y c _ h => ?_, fun _ => hd, Around.frames_deeper e0.frames, .inr ⟨rfl, rfl⟩, fun b z => absurd z (noA b), e0.bs, e0.bsz, fun b _ _ => noA b, fun b z => absurd z (noA b), e0.funs, e0.frf⟩,
    rfl, e0.bare, Un.kept hk, ⟨_, x.toInCall.ns, fun i y v h1 h2 h3 => ?_⟩, fun y c h => ⟨_, x.cell y c h⟩, e0.hok.fresh (Nat.le_refl _), fun y c h => ?_, fun p hp => absurd (show p ∈ ([] : List (Addr × Obj)) from hp) (by simp), e0.hok.kept hk, ?_⟩
  · exact name_of_addr x.apart (PySem.mem_of_lookup h1) (PySem.mem_of_lookup h2)
  · have hy : scope.names.lookup y = some .cell ∨ scope.names.lookup y = some .free := hy
    rcases hy with hy | hy
    · exact cell_has hy
    · exact absurd rfl (S.nofree _ (PySem.mem_of_lookup hy))
  · exact Nat.le_of_lt (x.above y c (PySem.mem_of_lookup h))
  · have hi : i < vs.length := by
      unfold start at h2
      by_cases hi : i < vs.length
      · exact hi
      · rw [List.getElem?_append_right (by simpa using hi)] at h2
        rw [List.getElem?_replicate] at h2
        split at h2 <;> cases h2
    have ha : vs[i]? = some v := by
      unfold start at h2
      rw [List.getElem?_append_left (by simpa using hi), List.getElem?_map] at h2
      cases e : vs[i]? with
      | none => rw [e] at h2; cases h2
      | some a => rw [e] at h2; cases h2; rfl
    obtain ⟨u, hu, rv⟩ := r.get ha
    have hp : ps[i]? = some y := by
      rw [← S.pre, List.getElem?_take_of_lt (by omega)]; exact h1
    have ndP : ps.Nodup := by rw [← S.pre]; exact S.nd.sublist (List.take_sublist _ _)
    refine ⟨u, rv, ?_⟩
    rcases S.par y (List.mem_of_getElem? hp) with k | k
    · exact .inl ⟨k, bindL_get ndP hp hu k⟩
    · obtain ⟨c, e⟩ := cell_has (n := s.heap.objs.size + 1) k
      refine .inr ⟨.inl k, c, e, ?_⟩
      have q := x.cell y c e
      rw [bindC_get ndP hp hu (by show scope.names.lookup y ≠ _; rw [k]; decide)] at q
      exact q
  · exact e0.hok.fresh (Nat.le_of_lt (x.above y c (PySem.mem_of_lookup h)))
  · unfold start
    show _ = N.length
    rw [List.length_append, List.length_map, List.length_replicate]
    omega

/-- THE RULE: a def (or a method) of the text, by its body. The body's reading t is chosen for each entry; it is run at the parameters' values -/
theorem fn_of {CX : CXT} {P : Program} {w : World} {K : PySem.W.Frag} {mg : Str → Option Value} {base : Heap} {k : Nat} {f : Addr} {name qual : Str} {params : Arguments} {body : List Stmt} {scope : Scope} {dV kV doc pm cdv ct oc : Value} {an od : Option Addr}
    {osl : Array (Option Value)} {N ps : List Str} {sp : Sp} (lk : K.lookup f = some ⟨oc, od, .func (PySem.W.fnOf name qual params body scope dV kV doc pm an cdv ct), osl⟩) (hcd : PySem.W.codeIn K cdv qual = true) (S : FnScope N ps scope)
    (len : ∀ vs H Q E, sp vs H Q E → vs.length = ps.length)
    (hbody : ∀ (A : Around) (outer : List Env) (s : Shared) (H : Hp) (vs : List V) (Q : VK) (E : XK), Room k (A.deeper (envOfC qual scope s.heap.objs.size f cdv)) → sp vs H Q E →
      ∃ t, PSs (cxOf CX P w K mg base N qual scope f cdv A outer s H E) body t ∧ t { nx := fun _ H' => Q .non H', rt := Q } (start N vs) H) :
    FnOk P w K mg base CX (k + 1) f (PySem.W.fnOf name qual params body scope dV kV doc pm an cdv ct) ps sp := by
  refine ⟨len, fun A outer s H args us vs Q E hr e0 hb r hsp => ?_⟩
  have hl := len _ _ _ _ hsp
  have KX : K.In s.heap := e0.mod.kin.keeps fun b o e => (e0.bs b o e).1
  have lim : s.heap.NoLimit := e0.mod.nolimit.keeps fun b o e => (e0.bs b o e).1
  have hkind : ∀ y ∈ ps.zip us, scope.names.lookup y.1 = some .local ∨ (scope.names.lookup y.1 = some .cell ∧ ((cellsFrom (s.heap.objs.size + 1) scope.names []).lookup y.1).isSome = true) := fun ⟨n, v⟩ hy => by
    rcases S.par n (List.of_mem_zip hy).1 with q | q
    · exact .inl q
    · exact .inr ⟨q, PySem.W.cellsFrom_some _ _ _ (.inl q)⟩
  refine codeAny_call_function hr.depth (KX _ _ lk) rfl S.co S.gen rfl (PySem.W.codeRec_of KX hcd) (hb _ _ _ _ ?_)
  refine wpAny_newFunctionEnv_cells S.kind hkind fun env he s1 x => ?_
  subst he
  refine ⟨lim.keeps x.toInCall.keep, codeAny_func ?_⟩
  obtain ⟨t, ht, hq⟩ := hbody A outer s H vs Q E (hr.deeper _) hsp
  have I : Inv (cxOf CX P w K mg base N qual scope f cdv A outer s H E) [] (start N vs) H s1 := inv_start S hr.hd e0 hl r x
  refine wpAny_mono (ht [] s1 (start N vs) H _ I hq) (fun fl s' hs => ?_) fun e s' hs => hs
  have fin : ∀ {σ' : St} {H' : Hp} {v : V} {u : Value}, Inv (cxOf CX P w K mg base N qual scope f cdv A outer s H E) [] σ' H' s' → RelV v u → Q v H' → CE outer P w H s Q u s' :=
    fun {σ' H' v u} J rv q => ⟨v, H', J.os, J.bare, J.base, J.hok, rv, q⟩
  cases fl with
  | ret u =>
    obtain ⟨v, σ', H', J, rv, q⟩ := hs
    exact fin J rv q
  | next =>
    obtain ⟨σ', H', J, q⟩ := hs
    exact fin (v := V.non) (u := Value.none) J rfl q
  | brk =>
    obtain ⟨_, _, _, q⟩ := hs
    exact False.elim q
  | cont =>
    obtain ⟨_, _, _, q⟩ := hs
    exact False.elim q
end L2

namespace L2
open PySem PySem.Spec PyProof.Rows
section
variable {X : Cx} {x : Str} {p pos : Pos} {e : Expr} {es : List Expr} {t : TA} {id T : String} {r : List V → Hp → VK → Prop}

def tCB (r : List V → Hp → VK → Prop) (t : TA) : TE := fun σ H Q => t σ H fun vs H1 => r vs H1 Q
/-- f(e, ..), f a built-in function -/
theorem pe_callB (hc : CallR X (.builtin id) r) (hg : Gl X x) (hm : X.mg x = none) (hv : bootBuiltins x = some (.builtin id)) (ha : PA X (e :: es) t) (hn : x ≠ "__name__" := by decide) (hdb : (x == ("__debug__" : Str)) = false := by decide)
    (he : starEach (e :: es) X.env = (false, eval e X.env) :: starEach es X.env := by rfl) (hpl : (backTo pos (starEach es X.env)).any (·.1) = false := by rfl) : PE X (.Call (.Name x p) (e :: es) [] pos) (tCB r t) := by
  intro pins s σ H Q I h
  refine wpAny_Call_Name_kw (ld_blt I hg hm hv ?_ hn hdb)
  exact PyProof.Rows.callWith_builtin1 (thn (ha pos pins s σ H _ I h) fun us s1 ⟨vs, H1, I1, r1, q1⟩ => hc pins s1 σ H1 vs us Q I1 r1 q1) he hpl
/-- T(e, ..), T a built-in type -/
theorem pe_callTy (hc : CallR X (.type T) r) (hg : Gl X x) (hm : X.mg x = none) (hv : bootBuiltins x = some (.type T)) (ha : PA X (e :: es) t) (hn : x ≠ "__name__" := by decide) (hdb : (x == ("__debug__" : Str)) = false := by decide)
    (he : starEach (e :: es) X.env = (false, eval e X.env) :: starEach es X.env := by rfl) (hpl : (backTo pos (starEach es X.env)).any (·.1) = false := by rfl) : PE X (.Call (.Name x p) (e :: es) [] pos) (tCB r t) := by
  intro pins s σ H Q I h
  refine wpAny_Call_Name_kw (ld_blt I hg hm hv ?_ hn hdb)
  exact PyProof.Rows.callWith_type1 (thn (ha pos pins s σ H _ I h) fun us s1 ⟨vs, H1, I1, r1, q1⟩ => hc pins s1 σ H1 vs us Q I1 r1 q1) he hpl
end
end L2

namespace HT
open PySem PyProof.Rows

/-- t < u of tuples of ints -/
def lexLt : List Int → List Int → Bool
  | [], [] => false
  | [], _ :: _ => true
  | _ :: _, [] => false
  | x :: xs, y :: ys => if x = y then lexLt xs ys else decide (x < y)
section
open PySem.SeqAt
open PySem.AutoSeq1 (wpAny_loadPart')
open PySem.MeetsSeq PySem.MeetsSeq2 PySem.MeetsSeq3

end

section
variable {prog : Program} {w : World} {A : Around} {E : Value → Shared → Prop} {s : Shared}

/-! ### t[a:b], not the whole -/
/-- a slice's bound as a place among n (d where it is left out) -/
def sIx (n d : Nat) : Option Int → Nat
  | none => d
  | some v => if v < 0 then (v + (n : Int)).toNat else min v.toNat n
theorem sIx_none (n d : Nat) : sIx n d none = d := rfl
theorem sIx_nat (n d k : Nat) : sIx n d (some (k : Int)) = min k n := by
  show (if (k : Int) < 0 then ((k : Int) + (n : Int)).toNat else min (k : Int).toNat n) = min k n
  rw [if_neg (by omega), Int.toNat_natCast]
theorem sIx_le (n d : Nat) (hd : d ≤ n) (o : Option Int) : sIx n d o ≤ n := by
  cases o with
  | none => exact hd
  | some v =>
    show (if v < 0 then (v + (n : Int)).toNat else min v.toNat n) ≤ n
    by_cases hv : v < 0
    · rw [if_pos hv]; omega
    · rw [if_neg hv]; exact Nat.min_le_right _ _
theorem clip_eq (v : Int) (n d : Nat) : (if v < 0 then max (v + (n : Int)) 0 else min v (n : Int)) = ((sIx n d (some v) : Nat) : Int) := by
  show (if v < 0 then max (v + (n : Int)) 0 else min v (n : Int)) = (((if v < 0 then (v + (n : Int)).toNat else min v.toNat n) : Nat) : Int)
  by_cases hv : v < 0
  · simp only [if_pos hv]; omega
  · simp only [if_neg hv]; omega
end
end HT

namespace L2
open PySem PySem.Spec PyProof.Rows

/-! ### the parts of a slice -/
abbrev TO := St → Hp → (Option Int → Hp → Prop) → Prop
/-- a slice's part (left out, or an int) -/
def PO (X : Cx) (e : Option Expr) (t : TO) : Prop :=
  ∀ (pins : List (Addr × Obj)) (s : Shared) (σ : St) (H : Hp) (Q : Option Int → Hp → Prop), Inv X pins σ H s → t σ H Q →
    wpAny (model X.prog X.w) X.A (evalPart e X.env) (fun u s' => ∃ o H', Inv X pins σ H' s' ∧ IsPart u o ∧ Q o H') X.xe s
def tNoPart : TO := fun _ H Q => Q none H
def tPart (t : TE) : TO := fun σ H Q => t σ H fun x H1 => ∃ i, x = .int i ∧ Q (some i) H1

theorem intsAre_of {ns : List Int} : ∀ {us : List Value}, Vals (ns.map V.int) us → IntsAre us ns := by
  induction ns with
  | nil => intro us r; rw [List.map_nil] at r; cases r; exact .nil
  | cons n ns ih =>
    intro us r
    rw [List.map_cons] at r
    cases r with
    | cons r1 r2 =>
      obtain ⟨t, e⟩ := r1
      subst e
      exact .cons n t (ih r2)

section
variable {X : Cx} {e : Expr} {te : TE} {lo hi : Option Expr} {tl th : TO} {pos p2 : Pos}

theorem po_none : PO X none tNoPart := by
  intro pins s σ H Q I h
  rw [evalPart_none]
  exact wpAny_pure ⟨none, H, I, .none, h⟩
theorem po_some (h : PE X e te) : PO X (some e) (tPart te) := by
  intro pins s σ H Q I hw
  rw [evalPart_some]
  refine thn (h pins s σ H _ I hw) fun u s1 ⟨x, H1, I1, r1, q1⟩ => ?_
  obtain ⟨i, rfl, q⟩ := q1
  obtain ⟨t, rfl⟩ := r1
  exact ⟨some i, H1, I1, .int i t, q⟩

/-- what a slice of a value is, by values: the slice object stands at sl -/
def SlR (X : Cx) (r : V → Option Int → Option Int → Hp → VK → Prop) : Prop :=
  ∀ (pins : List (Addr × Obj)) (s : Shared) (σ : St) (H : Hp) (x : V) (v vl vu : Value) (lo hi : Option Int) (sl : Addr) (Q : VK), Inv X pins σ H s → RelV x v → s.heap.IsSliceOf sl vl vu .none → IsPart vl lo → IsPart vu hi → r x lo hi H Q →
    ∃ T id, typeLookup (.type T) "__getitem__" = pure (some (.builtin id)) ∧ s.TypeIs v T ∧ wpAny (model X.prog X.w) X.A (getItem v (.ref sl)) (EP X pins σ Q) X.xe s
def tSl (r : V → Option Int → Option Int → Hp → VK → Prop) (te : TE) (tl th : TO) : TE := fun σ H Q => te σ H fun x H1 => tl σ H1 fun l H2 => th σ H2 fun u H3 => r x l u H3 Q
/-- a[lo:hi], any a -/
theorem pe_slice {r : V → Option Int → Option Int → Hp → VK → Prop} (hr : SlR X r) (he : PE X e te) (hl : PO X lo tl) (hu : PO X hi th) : PE X (.Subscript e (.Slice lo hi none p2) pos) (tSl r te tl th) := by
  intro pins s σ H Q I h
  refine Subscript_ (thn (he pins s σ H _ I h) fun v s1 ⟨x, H1, I1, r1, q1⟩ => ?_)
  refine wpAny_Slice (thn (hl pins s1 σ H1 _ I1 q1) fun vl s2 ⟨l, H2, I2, pl, q2⟩ => thn (hu pins s2 σ H2 _ I2 q2) fun vu s3 ⟨u, H3, I3, pu, q3⟩ => ?_)
  rw [evalPart_none]
  refine wpAny_pure ?_
  have I4 : Inv X pins σ H3 { s3 with heap := s3.heap.push { cls := .type "slice", data := .fields #[vl, vu, .none] } } := I3.kept (t' := s3.toks) fun b ob q => Heap.get?_push_of_some _ q
  obtain ⟨T, id, hT, ht, hg⟩ := hr pins { s3 with heap := s3.heap.push { cls := .type "slice", data := .fields #[vl, vu, .none] } } σ H3 x v vl vu l u s3.heap.objs.size Q I4 r1 (Heap.IsSliceOf.new ..) pl pu q3
  show wpAny (model X.prog X.w) X.A (subscriptTail e (.Slice lo hi none p2) v (.ref s3.heap.objs.size)) (EP X pins σ Q) X.xe { s3 with heap := s3.heap.push { cls := .type "slice", data := .fields #[vl, vu, .none] } }
  exact tail_any (ops := [.ref s3.heap.objs.size, v]) ht hT hg (by with_unfolding_all rfl)

/-- the items of xs[lo:hi] -/
def cutV (xs : List V) (lo hi : Option Int) : List V := (xs.drop (HT.sIx xs.length 0 lo)).take (HT.sIx xs.length xs.length hi - HT.sIx xs.length 0 lo)
theorem cutV_length (xs : List V) (lo hi : Option Int) : (cutV xs lo hi).length ≤ xs.length := by
  unfold cutV
  rw [List.length_take, List.length_drop]
  omega
/-- t[lo:hi], not the whole of it (the whole would be t itself) -/
def rSlT (K : PySem.W.Frag) : V → Option Int → Option Int → Hp → VK → Prop := fun x lo hi H Q => ∃ a xs, x = .ref a ∧ SqT K H a xs ∧
  ¬ (HT.sIx xs.length 0 lo = 0 ∧ HT.sIx xs.length xs.length hi = xs.length) ∧ ∀ p, H p = none → Q (.ref p) (upd H p (.tup (cutV xs lo hi)))
/-! ### t < u, t + u -/
def rLtT (K : PySem.W.Frag) : R2 := fun x y H Q => ∃ a b ns ms, x = .ref a ∧ y = .ref b ∧ SqT K H a (ns.map V.int) ∧ SqT K H b (ms.map V.int) ∧ Q (.bl (HT.lexLt ns ms)) H
/-- t + u, t not empty: u empty gives t itself -/
def rCatT (K : PySem.W.Frag) : R2 := fun x y H Q => ∃ a b xs ys, x = .ref a ∧ y = .ref b ∧ SqT K H a xs ∧ SqT K H b ys ∧ xs ≠ [] ∧ xs.length + ys.length ≤ sizeLine ∧
  (ys = [] → Q (.ref a) H) ∧ (ys ≠ [] → ∀ p, H p = none → Q (.ref p) (upd H p (.tup (xs ++ ys))))
end
end L2

namespace L2
open PySem PySem.Spec PyProof.Rows

/-! ### places -/
/-- the place that an index of any sign means -/
def ixN (n : Nat) (i : Int) : Option Nat := if 0 ≤ i then (if i < n then some i.toNat else none) else if -(n : Int) ≤ i then some (i + n).toNat else none
def atI {α : Type} (xs : List α) (i : Int) : Option α := (ixN xs.length i).bind fun j => xs[j]?
theorem ixN_seq {n : Nat} {i : Int} {j : Nat} (h : ixN n i = some j) : seqIndex? i n = some j ∧ j < n ∧ -(n : Int) ≤ i ∧ i < n := by
  unfold ixN at h
  by_cases h0 : 0 ≤ i
  · rw [if_pos h0] at h
    by_cases h1 : i < n
    · rw [if_pos h1] at h
      have e : i.toNat = j := Option.some.inj h
      exact ⟨by rw [seqIndex_of h0 h1, e], by omega, by omega, h1⟩
    · rw [if_neg h1] at h; cases h
  · rw [if_neg h0] at h
    by_cases h1 : -(n : Int) ≤ i
    · rw [if_pos h1] at h
      have e : (i + n).toNat = j := Option.some.inj h
      exact ⟨by rw [seqIndex_neg (by omega) h1, e], by omega, h1, by omega⟩
    · rw [if_neg h1] at h; cases h
theorem atI_get {α : Type} {xs : List α} {i : Int} {v : α} (h : atI xs i = some v) : ∃ j, seqIndex? i xs.length = some j ∧ xs[j]? = some v ∧ j < xs.length ∧ -(xs.length : Int) ≤ i ∧ i < xs.length := by
  unfold atI at h
  cases e : ixN xs.length i with
  | none => rw [e] at h; cases h
  | some j =>
    rw [e] at h
    obtain ⟨h1, h2, h3, h4⟩ := ixN_seq e
    exact ⟨j, h1, h, h2, h3, h4⟩
theorem atI_nat {α : Type} {xs : List α} {j : Nat} {v : α} (h : xs[j]? = some v) : atI xs (j : Int) = some v := by
  have hj : j < xs.length := (List.getElem?_eq_some_iff.mp h).1
  have e : ixN xs.length (j : Int) = some j := by
    unfold ixN
    rw [if_pos (by omega), if_pos (by omega)]; simp
  unfold atI; rw [e]; exact h
/-! ### what may be subscripted -/
/-- what stands as an index of a plain subscript -/
def PlainIx (b : Expr) : Prop := ∀ o i, subscripted b false o i = operate [o, i] (getItem o i)
/-- a subscript by values -/
def IxR (X : Cx) (r : R2) : Prop :=
  ∀ (value slice : Expr) (pins : List (Addr × Obj)) (s : Shared) (σ : St) (H : Hp) (x y : V) (v u : Value) (Q : VK), Inv X pins σ H s → RelV x v → RelV y u → r x y H Q →
    subscripted slice false v u = operate [v, u] (getItem v u) → wpAny (model X.prog X.w) X.A (subscriptTail value slice v u) (EP X pins σ Q) X.xe s
/-- a call of a builtin's method by values: the receiver, the arguments -/
def MtR (X : Cx) (id : String) (r : V → List V → Hp → VK → Prop) : Prop :=
  ∀ (pins : List (Addr × Obj)) (s : Shared) (σ : St) (H : Hp) (x : V) (xs : List V) (v : Value) (us : List Value) (Q : VK), Inv X pins σ H s → RelV x v → Vals xs us → r x xs H Q →
    wpAny (model X.prog X.w) X.A (call (.builtin id) (v :: us)) (EP X pins σ Q) X.xe s
section
variable {X : Cx} {a b : Expr} {ta tb : TE} {pos : Pos}
/-- a[b] -/
theorem pe_ix {r : R2} (hr : IxR X r) (ha : PE X a ta) (hb : PE X b tb) (hs : PlainIx b) : PE X (.Subscript a b pos) (tOp r ta tb) := by
  intro pins s σ H Q I h
  exact Subscript_ (binT ha hb I h fun v u s2 x y H2 I2 rx ry q => hr a b pins s2 σ H2 x y v u Q I2 rx ry q (hs _ _))

def rIxL (K : PySem.W.Frag) : R2 := fun x y H Q => ∃ p xs i v, x = .ref p ∧ y = .int i ∧ SqL K H p xs ∧ atI xs i = some v ∧ Q v H
def rIxT (K : PySem.W.Frag) : R2 := fun x y H Q => ∃ p xs i v, x = .ref p ∧ y = .int i ∧ SqT K H p xs ∧ atI xs i = some v ∧ Q v H
def rIxS : R2 := fun x y H Q => ∃ z i c, x = .str z ∧ y = .int i ∧ z.length ≤ sizeLine ∧ atI z.cps.toList i = some c ∧ Q (.str ⟨#[c]⟩) H
theorem ix_list : IxR X (rIxL X.K) := by
  intro value slice pins s σ H x y v u Q I rx ry h hs
  obtain ⟨p, xs, i, z, rfl, rfl, hq, he, q⟩ := h
  cases rx
  obtain ⟨t, rfl⟩ := ry
  obtain ⟨its, r, pl, hz⟩ := I.list hq
  obtain ⟨j, h1, h2, h3, h4, h5⟩ := atI_get he
  obtain ⟨w, ew, rw'⟩ := r.get h2
  have hl := r.length
  have hn := line63
  have fin : EP X pins σ Q w s := ⟨z, H, I, rw', q⟩
  by_cases h0 : 0 ≤ i
  · have hj : i.toNat = j := by
      rw [seqIndex_of h0 h5] at h1
      exact Option.some.inj h1
    exact item_listR pl.isList h0 (by omega) (by rw [hj]; simpa using ew) fin hs
  · have hj : (i + (its.toArray.size : Int)).toNat = j := by
      rw [seqIndex_neg (by omega) h4] at h1
      rw [List.size_toArray, ← hl]
      exact Option.some.inj h1
    exact subscriptTail_builtinR (x := w) pl.isList.typeIs slot_list_getitem.lookup
      (wpAny_getItem_list_neg (Q := fun r s' => r = w ∧ EP X pins σ Q r s') pl.isList (by omega) (by rw [List.size_toArray] <;> omega) (by omega) (by rw [hj]; simpa using ew) ⟨rfl, fin⟩) hs
theorem ix_tup : IxR X (rIxT X.K) := by
  intro value slice pins s σ H x y v u Q I rx ry h hs
  obtain ⟨p, xs, i, z, rfl, rfl, hq, he, q⟩ := h
  cases rx
  obtain ⟨t, rfl⟩ := ry
  obtain ⟨its, r, pl, hz⟩ := I.tuple hq
  obtain ⟨j, h1, h2, h3, h4, h5⟩ := atI_get he
  obtain ⟨w, ew, rw'⟩ := r.get h2
  have hl := r.length
  have hn := line63
  have fin : EP X pins σ Q w s := ⟨z, H, I, rw', q⟩
  exact subscriptTail_builtinR (x := w) pl.typeIs slot_tuple_getitem.lookup
    (getItem_tuple (j := j) (Q := fun r s' => r = w ∧ EP X pins σ Q r s') pl (by omega) (by omega) (by rw [List.size_toArray, ← hl]; exact h1) (by simpa using ew) ⟨rfl, fin⟩) hs
theorem ix_str : IxR X rIxS := by
  intro value slice pins s σ H x y v u Q I rx ry h hs
  obtain ⟨z, i, c, rfl, rfl, hz, he, q⟩ := h
  obtain ⟨t, rfl⟩ := rx
  obtain ⟨t', rfl⟩ := ry
  obtain ⟨j, h1, h2, h3, h4, h5⟩ := atI_get he
  have hl : z.cps.toList.length = z.length := by simp [Str.length]
  rw [hl] at h1 h4 h5
  have hn := line63
  exact tail_any (typeIs_str s z t) slot_str_getitem.lookup (getItem_str (c := c) (by
    have e1 : decide (i < -(2 ^ 63 : Int)) = false := decide_eq_false (by omega)
    have e2 : decide (i ≥ 2 ^ 63) = false := decide_eq_false (by omega)
    rw [e1, e2, Bool.or_false]) (by rw [h1]; simpa using h2) ⟨.str ⟨#[c]⟩, H, I.tok _, ⟨_, rfl⟩, q⟩) hs
/-- list, tuple or str -/
def rIx (K : PySem.W.Frag) : R2 := fun x y H Q => rIxL K x y H Q ∨ rIxT K x y H Q ∨ rIxS x y H Q
/-! ### xs[i] = v, any sign -/
/-- the list's object behind a store -/
theorem mapSeq_set (its : List Value) (n j : Nat) (u : Value) : Obj.mapSeq (·.setIfInBounds j u) { cls := .type "list", data := .seq its.toArray n } = { cls := .type "list", data := .seq (its.set j u).toArray n } := by
  simp [Obj.mapSeq]
theorem Inv.lst {pins : List (Addr × Obj)} {σ : St} {H : Hp} {s : Shared} {p : Addr} {xs : List V} (I : Inv X pins σ H s) (h : H p = some (.lst xs)) :
    ∃ (its : List Value) (n : Nat), Vals xs its ∧ s.heap.get? p = some { cls := .type "list", data := .seq its.toArray n } ∧ xs.length ≤ sizeLine := by
  obtain ⟨z, its, n, r, e⟩ := I.hok p _ h
  exact ⟨its, n, r, e, z⟩
/-- the list at p is written by an update of its object -/
theorem Inv.lstUpd {pins : List (Addr × Obj)} {σ : St} {H : Hp} {s : Shared} {p : Addr} {xs ys : List V} {its its' : List Value} {n n' : Nat} {f : Obj → Obj} (I : Inv X pins σ H s) (h : H p = some (.lst xs))
    (ho : s.heap.get? p = some { cls := .type "list", data := .seq its.toArray n }) (hf : f { cls := .type "list", data := .seq its.toArray n } = { cls := .type "list", data := .seq its'.toArray n' }) (r : Vals ys its') (hz : ys.length ≤ sizeLine) (t : Nat) :
    Inv X pins σ (upd H p (.lst ys)) { s with heap := s.heap.update p f, toks := t } := by
  have e : (s.heap.update p f).get? p = some { cls := .type "list", data := .seq its'.toArray n' } := by
    rw [Heap.get?_update_self f ho (by rw [hf] <;> rfl), hf]
  refine I.write (x := p) (e := p) (by rw [h]; trivial) (.inl rfl) (fun b u hb q => (Heap.get?_update_other _ _ (Ne.symm hb)).trans q) ⟨_, e⟩ ?_
  exact ⟨hz, its', n', r, e⟩
def rSetL : V → V → V → Hp → (Hp → Prop) → Prop := fun o i v H Q => ∃ p xs k j, o = .ref p ∧ i = .int k ∧ H p = some (.lst xs) ∧ ixN xs.length k = some j ∧ Q (upd H p (.lst (xs.set j v)))
theorem set_list : PSet X rSetL := by
  intro pins s σ H o i v ov iv u Q I ro ri rv h
  obtain ⟨p, xs, k, j, rfl, rfl, hp, hj, q⟩ := h
  cases ro
  obtain ⟨t, rfl⟩ := ri
  obtain ⟨its, n, r, ho, hz⟩ := I.lst hp
  obtain ⟨h1, h2, h3, h4⟩ := ixN_seq hj
  have hl := r.length
  have hn := line63
  have I' : Inv X pins σ (upd H p (.lst (xs.set j v))) { s with heap := s.heap.update p (Obj.mapSeq (·.setIfInBounds j u)) } :=
    I.lstUpd hp ho (mapSeq_set its n j u) (r.set rv j) (by rw [List.length_set]; exact hz) s.toks
  by_cases h0 : 0 ≤ k
  · have hk : k.toNat = j := by
      rw [seqIndex_of h0 h4] at h1
      exact Option.some.inj h1
    exact PySem.W.ki_setAt ho h0 (by omega) (by rw [List.size_toArray, ← hl]; exact h4) (by rw [hk]; exact ⟨_, I', q⟩)
  · have hk : (k + (its.toArray.size : Int)).toNat = j := by
      rw [seqIndex_neg (by omega) h3] at h1
      rw [List.size_toArray, ← hl]
      exact Option.some.inj h1
    exact PySem.W.ki_setBack ho (by omega) (by rw [List.size_toArray, ← hl]; exact h3) (by omega) (by rw [hk]; exact ⟨_, I', q⟩)

/-! ### slices -/
theorem slice_bounds (lo hi : Option Int) (n : Nat) : (sliceBounds lo hi none n).1 = ((HT.sIx n 0 lo : Nat) : Int) ∧ (sliceBounds lo hi none n).2.1 = ((HT.sIx n n hi : Nat) : Int) ∧ (sliceBounds lo hi none n).2.2 = 1 := by
  refine ⟨?_, ?_, rfl⟩
  · cases lo with
    | none => simp [sliceBounds, HT.sIx]
    | some i =>
      simp only [sliceBounds, HT.sIx, Option.getD_none, show (1 : Int) > 0 by decide, if_true]
      by_cases h : i < 0
      · simp only [h, if_true] <;> omega
      · simp only [h, if_false] <;> omega
  · cases hi with
    | none => simp [sliceBounds, HT.sIx]
    | some i =>
      simp only [sliceBounds, HT.sIx, Option.getD_none, show (1 : Int) > 0 by decide, if_true]
      by_cases h : i < 0
      · simp only [h, if_true] <;> omega
      · simp only [h, if_false] <;> omega
theorem slicePick_cut (its : List Value) (lo hi : Option Int) : slicePick its.toArray lo hi none = ((its.drop (HT.sIx its.length 0 lo)).take (HT.sIx its.length its.length hi - HT.sIx its.length 0 lo)).toArray := by
  obtain ⟨h1, h2, h3⟩ := slice_bounds lo hi its.toArray.size
  unfold slicePick
  rw [h1, h2, h3]
  simp only [sliceRange_one, pick_run, List.size_toArray] <;> rfl
/-- xs[lo:hi] of a list: a new list -/
def rSlL (K : PySem.W.Frag) : V → Option Int → Option Int → Hp → VK → Prop := fun x lo hi H Q => ∃ a xs, x = .ref a ∧ SqL K H a xs ∧ ∀ p, H p = none → Q (.ref p) (upd H p (.lst (cutV xs lo hi)))
theorem sl_list : SlR X (rSlL X.K) := by
  intro pins s σ H x v vl vu lo hi sl Q I rx hs pl pu h
  obtain ⟨a, xs, rfl, hx, q⟩ := h
  cases rx
  obtain ⟨its, r, ht, hz⟩ := I.list hx
  have hlen := r.length
  refine ⟨"list", _, slot_list_getitem.lookup, ht.isList.typeIs, ?_⟩
  refine wpAny_getItem_list_slice ht.isList hs pl pu .none (by simp) ?_ (by rw [List.size_toArray] <;> omega)
  rw [slicePick_cut, ← hlen]
  refine ⟨.ref s.heap.objs.size, _, I.laid (t' := s.toks) (o := .lst (cutV xs lo hi)) (fun b ob q => Heap.get?_push_of_some _ q) (Nat.le_refl _) ?_, rfl, q _ (I.hok.fresh (Nat.le_refl _))⟩
  exact ⟨Nat.le_trans (cutV_length xs lo hi) hz, _, 0, (r.drop (HT.sIx xs.length 0 lo)).take (HT.sIx xs.length xs.length hi - HT.sIx xs.length 0 lo), Heap.get?_push_size _ rfl⟩

/-! ### in, not in: flat items -/
def flatV : V → Bool
  | .non => true
  | .bl _ => true
  | .int _ => true
  | .str _ => true
  | _ => false
/-- == of flat values -/
def eqV : V → V → Bool
  | .non, .non => true
  | .bl a, .bl b => a == b
  | .bl a, .int b => (if a then 1 else 0) == b
  | .int a, .bl b => a == (if b then 1 else 0)
  | .int a, .int b => a == b
  | .str a, .str b => a == b
  | _, _ => false
theorem eqAt_V {A : Around} {s : Shared} {y x : V} {u v : Value} (ry : RelV y u) (rx : RelV x v) (fy : flatV y = true) (fx : flatV x = true) : SeqAt.EqAt A s u v (eqV y x) := by
  cases y with
  | non =>
    cases ry
    cases x with
    | non => cases rx; exact SeqAt.EqAt.same _
    | bl b => cases rx; exact SeqAt.EqAt.none_bool b
    | int b => obtain ⟨t, rfl⟩ := rx; exact SeqAt.EqAt.none_int b t
    | str b => obtain ⟨t, rfl⟩ := rx; exact SeqAt.EqAt.none_str b t
    | _ => exact absurd (show false = true from fx) Bool.false_ne_true
  | bl a =>
    cases ry
    cases x with
    | non => cases rx; exact SeqAt.EqAt.bool_none a
    | bl b => cases rx; exact SeqAt.EqAt.bool_bool a b
    | int b => obtain ⟨t, rfl⟩ := rx; exact SeqAt.EqAt.bool_int a b t
    | str b => obtain ⟨t, rfl⟩ := rx; exact SeqAt.EqAt.bool_str a b t
    | _ => exact absurd (show false = true from fx) Bool.false_ne_true
  | int a =>
    obtain ⟨t', rfl⟩ := ry
    cases x with
    | non => cases rx; exact SeqAt.EqAt.int_none a t'
    | bl b => cases rx; exact SeqAt.EqAt.int_bool a t' b
    | int b => obtain ⟨t, rfl⟩ := rx; exact SeqAt.EqAt.int_int a t' b t
    | str b => obtain ⟨t, rfl⟩ := rx; exact SeqAt.EqAt.int_str a t' b t
    | _ => exact absurd (show false = true from fx) Bool.false_ne_true
  | str a =>
    obtain ⟨t', rfl⟩ := ry
    cases x with
    | non => cases rx; exact SeqAt.EqAt.str_none a t'
    | bl b => cases rx; exact SeqAt.EqAt.str_bool a t' b
    | int b => obtain ⟨t, rfl⟩ := rx; exact SeqAt.EqAt.str_int a t' b t
    | str b => obtain ⟨t, rfl⟩ := rx; exact SeqAt.EqAt.str_str a t' b t
    | _ => exact absurd (show false = true from fx) Bool.false_ne_true
  | _ => exact absurd (show false = true from fy) Bool.false_ne_true
/-- the items' answers, read off the values (a value's own answer does not lean on its token) -/
def eqU (x : V) (u : Value) : Bool := match u with
  | .none => eqV .non x
  | .bool b => eqV (.bl b) x
  | .int i _ => eqV (.int i) x
  | .str z _ => eqV (.str z) x
  | _ => false
def inV (x : V) (xs : List V) : Bool := xs.any fun y => eqV y x
/-- x in a list or tuple of flat items -/
def rIn (K : PySem.W.Frag) (neg : Bool) : R2 := fun x y H Q => ∃ p xs, y = .ref p ∧ (SqL K H p xs ∨ SqT K H p xs) ∧ flatV x = true ∧ xs.all flatV = true ∧ Q (.bl (if neg then !inV x xs else inV x xs)) H
/-! ### len, list(x), tuple(x) of any list or tuple that is read -/
theorem call_len_seq : CallR X (.builtin "len") (fun xs H Q => ∃ p ys, xs = [.ref p] ∧ (SqL X.K H p ys ∨ SqT X.K H p ys) ∧ Q (.int ys.length) H) := by
  intro pins s σ H xs us Q I r h
  obtain ⟨p, ys, rfl, hq, q⟩ := h
  obtain ⟨u, rfl, rx⟩ := vals1 r
  cases rx
  have hn := line63
  rcases hq with hq | hq
  · obtain ⟨its, r', pl, hz⟩ := I.list hq
    have hlen := r'.length
    exact Calls.call_len_list pl.isList (by simp only [List.size_toArray] <;> omega) ⟨.int ys.length, H, I.tok _, ⟨s.toks + 1, by rw [List.size_toArray, hlen]⟩, q⟩
  · obtain ⟨its, r', pl, hz⟩ := I.tuple hq
    have hlen := r'.length
    exact len_tuple pl (by simp only [List.size_toArray] <;> omega) ⟨.int ys.length, H, I.tok _, ⟨s.toks + 1, by rw [List.size_toArray, hlen]⟩, q⟩
theorem call_len_str : CallR X (.builtin "len") (fun xs H Q => ∃ z, xs = [.str z] ∧ z.length ≤ sizeLine ∧ Q (.int z.length) H) := by
  intro pins s σ H xs us Q I r h
  obtain ⟨z, rfl, hz, q⟩ := h
  obtain ⟨u, rfl, t, rfl⟩ := vals1 r
  have hn := line63
  exact len_str (by omega) ⟨.int z.length, H, I.tok _, ⟨_, rfl⟩, q⟩
theorem call_list_of : CallR X (.type "list") (fun xs H Q => ∃ p ys, xs = [.ref p] ∧ (SqL X.K H p ys ∨ SqT X.K H p ys) ∧ ∀ l, H l = none → Q (.ref l) (upd H l (.lst ys))) := by
  intro pins s σ H xs us Q I r h
  obtain ⟨p, ys, rfl, hq, q⟩ := h
  obtain ⟨u, rfl, rx⟩ := vals1 r
  cases rx
  have fin : ∀ (its : List Value), Vals ys its → ys.length ≤ sizeLine → ∀ (h' : Heap) (c' : Nat), (∀ b o', s.heap.get? b = some o' → h'.get? b = some o') →
      h'.get? s.heap.objs.size = some { cls := .type "list", dict := none, data := .seq its.toArray c', slots := #[] } → EP X pins σ Q (.ref s.heap.objs.size) { s with heap := h' } := fun its r' hz h' c' kp e =>
    ⟨.ref s.heap.objs.size, _, I.laid (t' := s.toks) kp (Nat.le_refl _) (show ObjOk X.prog X.w _ h' _ (.lst ys) from ⟨hz, its, c', r', e⟩), rfl, q _ (I.hok.fresh (Nat.le_refl _))⟩
  rcases hq with hq | hq
  · obtain ⟨its, r', pl, hz⟩ := I.list hq
    have hlen := r'.length
    obtain ⟨o, ho, hc, n, hd⟩ := pl.isList
    exact call_list_seq p (.inl rfl) ho hc hd (fun h' c' kp e => fin its r' hz h' c' kp e) (by simp only [List.size_toArray] <;> omega)
  · obtain ⟨its, r', pl, hz⟩ := I.tuple hq
    have hlen := r'.length
    obtain ⟨o, ho, hc, n, hd⟩ := pl
    exact call_list_seq p (.inr rfl) ho hc hd (fun h' c' kp e => fin its r' hz h' c' kp e) (by simp only [List.size_toArray] <;> omega)
/-! ### the call of a builtin's method: o.m(..) -/
/-- the value is of that builtin type -/
def tyV (K : PySem.W.Frag) (T : String) (x : V) (H : Hp) : Prop := match x with
  | .str _ => T = "str"
  | .int _ => T = "int"
  | .ref p => (T = "list" ∧ ∃ xs, SqL K H p xs) ∨ (T = "tuple" ∧ ∃ o, K.lookup p = some o ∧ o.cls = .type "tuple" ∧ o.dict = none) ∨
      (T = "dict" ∧ ((∃ kvs, H p = some (.dK kvs)) ∨ ∃ kvs, H p = some (.dT kvs))) ∨ (T = "set" ∧ ∃ S n, H p = some (.set S n))
  | _ => False
theorem tyV_is {pins : List (Addr × Obj)} {σ : St} {H : Hp} {s : Shared} {T : String} {x : V} {v : Value} (I : Inv X pins σ H s) (r : RelV x v) (ty : tyV X.K T x H) :
    s.TypeIs v T ∧ ∀ a, v = .ref a → ∃ ob, s.heap.get? a = some ob ∧ ob.dict = none := by
  cases x with
  | str z =>
    obtain ⟨t, rfl⟩ := r
    cases (show T = "str" from ty)
    exact ⟨typeIs_str s z t, fun _ e => nomatch e⟩
  | int i =>
    obtain ⟨t, rfl⟩ := r
    cases (show T = "int" from ty)
    exact ⟨typeIs_int s i t, fun _ e => nomatch e⟩
  | ref p =>
    cases r
    rcases ty with ⟨rfl, xs, hq⟩ | ⟨rfl, o, hk, hc, hd⟩ | ⟨rfl, hk⟩ | ⟨rfl, S, n, hk⟩
    · obtain ⟨its, _, pl, _⟩ := I.list hq
      refine ⟨pl.isList.typeIs, fun a e => ?_⟩
      cases e
      obtain ⟨o, n, e, c, hd, _⟩ := pl
      exact ⟨o, e, hd⟩
    · refine ⟨⟨o, I.kIn p o hk, hc⟩, fun a e => ?_⟩
      cases e
      exact ⟨o, I.kIn _ o hk, hd⟩
    · have z : ∃ o, s.heap.get? p = some o ∧ o.ExactDict := by
        rcases hk with ⟨kvs, hk⟩ | ⟨kvs, hk⟩
        · obtain ⟨_, _, _, _, o, _, _, e, ex, _⟩ := I.hok p _ hk
          exact ⟨o, e, ex⟩
        · obtain ⟨_, _, _, _, o, _, _, e, ex, _⟩ := I.hok p _ hk
          exact ⟨o, e, ex⟩
      obtain ⟨o, e, ex⟩ := z
      refine ⟨⟨o, e, ex.1⟩, fun a e2 => ?_⟩
      cases e2
      exact ⟨o, e, ex.2.1⟩
    · obtain ⟨o, _, _, _, e, ex, _⟩ := I.hok p _ hk
      refine ⟨⟨o, e, ex.1⟩, fun a e2 => ?_⟩
      cases e2
      exact ⟨o, e, ex.2.1⟩
  | _ => exact False.elim ty
def tBM0 (K : PySem.W.Frag) (T : String) (r : V → List V → Hp → VK → Prop) (to : TE) : TE := fun σ H Q => to σ H fun x H1 => tyV K T x H1 ∧ r x [] H1 Q
def tBM (K : PySem.W.Frag) (T : String) (r : V → List V → Hp → VK → Prop) (to : TE) (t : TA) : TE := fun σ H Q => to σ H fun x H1 => tyV K T x H1 ∧ t σ H1 fun xs H2 => r x xs H2 Q
variable {o e : Expr} {es : List Expr} {to : TE} {t : TA} {name : Str} {apos cpos : Pos} {T id : String} {r : V → List V → Hp → VK → Prop}
theorem pe_bm (pa : PlainAttrs T) (slot : Slot T name id) (hty : typeOf (.builtin id) = pure (.type "method_descriptor")) (hm : MtR X id r) (ho : PE X o to) (ha : PA X (e :: es) t)
    (hbase : attributeBase o name X.env (eval o X.env) = eval o X.env := by rfl)
    (hfew : ((backTo cpos (starEach (e :: es) X.env)).all (fun x => !x.1) && (backToKw cpos (keywordEach [] X.env)).all (fun x => x.1.isSome)
      && decide ((e :: es).length + ([] : List Keyword).length + (if ([] : List Keyword).isEmpty then 0 else 1) < 30)) = true := by rfl)
    (hline : (apos.endLine == cpos.line) = true := by rfl) (hs : starEach (e :: es) X.env = (false, eval e X.env) :: starEach es X.env := by rfl) (hplain : (backTo cpos (starEach es X.env)).any (·.1) = false := by rfl) :
    PE X (.Call (.Attribute o name apos) (e :: es) [] cpos) (tBM X.K T r to t) := by
  intro pins s σ H Q I h
  refine wpAny_Call_method_late hbase hfew hline rfl (thn (ho pins s σ H _ I h) fun v s1 ⟨x, H1, I1, r1, ty, q1⟩ => ?_)
  obtain ⟨h1, h2⟩ := tyV_is I1 r1 ty
  refine ⟨T, id, pa, slot, hty, h1, h2, ?_⟩
  have hA := ha cpos pins s1 σ H1 _ I1 q1
  rw [hs] at hA ⊢
  refine Calls.callWith_builtin (by show (false || (backTo cpos (starEach es X.env)).any (·.1)) = false; rw [hplain] <;> rfl) (Calls.evalArgs_plain ?_)
  exact thn hA fun us s2 ⟨vs, H2, I2, r2, q2⟩ => hm pins s2 σ H2 x vs v us Q I2 r1 r2 q2
/- xs.append(e), list.index on a module's tuple .. are MtR facts of 06m -/
end
end L2

namespace L2
open PySem PySem.Spec PyProof.Rows

def MtM (X : Cx) (id : String) (r : V → List V → Hp → VK → Prop) : Prop :=
  ∀ (pins : List (Addr × Obj)) (s : Shared) (σ : St) (H : Hp) (x : V) (xs : List V) (v : Value) (us : List Value) (Q : VK), Inv X pins σ H s → RelV x v → Vals xs us → r x xs H Q →
    wpAny (model X.prog X.w) X.A (call (.builtin id) (v :: us)) (EP X pins σ Q) X.xe s

/-! ### lists of values -/
theorem Vals.one : ∀ {x : V} {us : List Value}, Vals [x] us → ∃ u, us = [u] ∧ RelV x u
  | _, _, .cons r .nil => ⟨_, rfl, r⟩
section
variable {X : Cx} {pins : List (Addr × Obj)} {σ : St} {H : Hp} {s : Shared} {l b : Addr} {xs ys zs : List V}

/-! ### the two steps: a tracked list is rewritten, a new list is laid -/
theorem Inv.lset {its its' : List Value} {n : Nat} {f : Array Value → Array Value} {t' : Nat} (I : Inv X pins σ H s) (hH : H l = some (.lst xs))
    (e : s.heap.get? l = some { cls := .type "list", data := .seq its.toArray n }) (hf : f its.toArray = its'.toArray) (hv : Vals ys its') (hz : ys.length ≤ sizeLine) :
    Inv X pins σ (upd H l (.lst ys)) { s with heap := s.heap.update l (Obj.mapSeq f), toks := t' } := by
  have q := PySem.IsL.update e f
  rw [hf] at q
  refine I.write (x := l) (e := l) (by rw [hH]; exact trivial) (.inl rfl) (fun b' u hb hu => (Heap.get?_update_other s.heap (Obj.mapSeq f) (Ne.symm hb)).trans hu) ⟨_, q⟩ ?_
  exact ⟨hz, its', _, hv, q⟩
theorem Inv.lnew {its : List Value} {t' : Nat} (I : Inv X pins σ H s) (hv : Vals ys its) (hz : ys.length ≤ sizeLine) :
    Inv X pins σ (upd H s.heap.objs.size (.lst ys)) { s with heap := s.heap.push { cls := .type "list", data := .seq its.toArray }, toks := t' } :=
  I.laid (fun _ _ q => Heap.get?_push_of_some _ q) (Nat.le_refl _) ⟨hz, its, 0, hv, Heap.get?_push_size _ rfl⟩
theorem Inv.fresh (I : Inv X pins σ H s) : H s.heap.objs.size = none := I.hok.fresh (Nat.le_refl _)
theorem Inv.lstM (I : Inv X pins σ H s) (hH : H l = some (.lst xs)) : xs.length ≤ sizeLine ∧ ∃ (its : List Value) (n : Nat), Vals xs its ∧ xs.length = its.length ∧ s.heap.get? l = some { cls := .type "list", data := .seq its.toArray n } := by
  obtain ⟨z, its, n, r, e⟩ := I.hok l _ hH
  exact ⟨z, its, n, r, r.length, e⟩

theorem notLongL {n : Nat} (h : n ≤ sizeLine) : Builtin.List.listTooLong n = false := by
  unfold Builtin.List.listTooLong
  exact decide_eq_false (by omega)
end

section
variable {X : Cx}

/-! ### methods -/
def rAppend : V → List V → Hp → VK → Prop := fun x vs H Q => ∃ l xs y, x = .ref l ∧ vs = [y] ∧ H l = some (.lst xs) ∧ xs.length < sizeLine ∧ Q .non (upd H l (.lst (xs ++ [y])))
theorem mt_append : MtM X "list.append" rAppend := by
  intro pins s σ H x vs v us Q I rx rv h
  obtain ⟨l, xs, y, rfl, rfl, hH, hz, q⟩ := h
  cases rx
  obtain ⟨u, rfl, ru⟩ := rv.one
  obtain ⟨z, its, n, r, hl, e⟩ := I.lstM hH
  refine call_meets F.slot_list_append ⟨_, e, rfl⟩ F.entry_list_append (F.args_list_append_2 _ _) (PySem.list_append l its.toArray n u (by rw [List.size_toArray]; omega)) ⟨e, ?_⟩
  refine ⟨.non, _, I.lset (its' := its ++ [u]) hH e (by simp) (r.append (.cons ru .nil)) ?_, rfl, q⟩
  rw [List.length_append, List.length_singleton]
  omega

def rExtend : V → List V → Hp → VK → Prop := fun x vs H Q => ∃ l b xs zs, x = .ref l ∧ vs = [.ref b] ∧ H l = some (.lst xs) ∧ H b = some (.lst zs) ∧ xs.length + zs.length ≤ sizeLine ∧ Q .non (upd H l (.lst (xs ++ zs)))
def rPop : V → List V → Hp → VK → Prop := fun x vs H Q => ∃ l xs y, x = .ref l ∧ vs = [] ∧ H l = some (.lst xs) ∧ xs[xs.length - 1]? = some y ∧ Q y (upd H l (.lst xs.dropLast))
def rPopAt : V → List V → Hp → VK → Prop := fun x vs H Q => ∃ l xs i k y, x = .ref l ∧ vs = [.int i] ∧ H l = some (.lst xs) ∧ -(2 ^ 63) ≤ i ∧ i < 2 ^ 63 ∧ seqIndex? i xs.length = some k ∧ xs[k]? = some y ∧ Q y (upd H l (.lst (xs.eraseIdx k)))
def rReverse : V → List V → Hp → VK → Prop := fun x vs H Q => ∃ l xs, x = .ref l ∧ vs = [] ∧ H l = some (.lst xs) ∧ Q .non (upd H l (.lst xs.reverse))
def rClear : V → List V → Hp → VK → Prop := fun x vs H Q => ∃ l xs, x = .ref l ∧ vs = [] ∧ H l = some (.lst xs) ∧ Q .non (upd H l (.lst []))
/-! ### list + list, list += list, list * int -/
def rCat : R2 := fun x y H Q => ∃ l b xs zs, x = .ref l ∧ y = .ref b ∧ H l = some (.lst xs) ∧ H b = some (.lst zs) ∧ xs.length + zs.length ≤ sizeLine ∧ ∀ p, H p = none → Q (.ref p) (upd H p (.lst (xs ++ zs)))
theorem op_cat : OpR X (binaryOp .Add) rCat := by
  intro pins s σ H x y v u Q I rx ry h
  obtain ⟨l, b, xs, zs, rfl, rfl, hH, hB, hz, q⟩ := h
  cases rx
  cases ry
  obtain ⟨z, its, n, r, hl, e⟩ := I.lstM hH
  obtain ⟨z2, its2, n2, r2, hl2, e2⟩ := I.lstM hB
  refine PySem.P.add_list e e2 ?_ (by rw [List.size_toArray, List.size_toArray]; omega)
  have ea : its.toArray ++ its2.toArray = (its ++ its2).toArray := by simp
  rw [ea]
  exact ⟨.ref _, _, I.lnew (t' := s.toks) (r.append r2) (by rw [List.length_append]; omega), rfl, q _ I.fresh⟩
/-- a list times an int (a negative one is nothing) -/
def rRep : R2 := fun x y H Q => ∃ l k xs, x = .ref l ∧ y = .int k ∧ H l = some (.lst xs) ∧ -(2 ^ 63) ≤ k ∧ k < 2 ^ 63 ∧ xs.length * k.toNat ≤ sizeLine ∧
  ∀ p, H p = none → Q (.ref p) (upd H p (.lst (List.replicate k.toNat xs).flatten))
/-! ### del xs[i] -/
end

/-! ### xs[a:b] = ys -/
section
variable {prog : Program} {w : World} {A : Around} {E : Value → Shared → Prop} {s : Shared}
end

section
variable {X : Cx}
end
end L2

namespace Att
open PySem PySem.W PySem.Calls PyProof.Rows

/-! ### the script -/
theorem ints_of_wellAll {P : Params} {h : Heap} : ∀ (ns : List Int) (vs : List Value), WellAll P h vs (ns.map WData.int) → IntsAre vs ns := by
  intro ns
  induction ns with
  | nil =>
    intro vs w
    rw [List.map_nil] at w
    cases w
    exact .nil
  | cons n ns ih =>
    intro vs w
    rw [List.map_cons] at w
    cases w with
    | cons a b =>
      cases a
      exact .cons _ _ (ih _ b)

theorem script_of {l : OpenLaw} {n : Nat} (hn : l.most = some n) {P : Params} {h : Heap} {args : List WData} {vals : List Value}
    (hpre : l.row.toRowW.claim.pre args = true) (hwl : WellAll P h vals args) :
    ∃ a vs ns, vals = [Value.ref a] ∧ args = [WData.list (ns.map WData.int)] ∧ h.get? a = some { cls := .type "list", data := .seq vs.toArray } ∧ IntsAre vs ns ∧ ns.length ≤ n := by
  have hsh : WShape.hasAll [] args [.list .int] = true := (pre_splitW hpre).1
  have hc : l.pre.holds [] { args := args } = true := (pre_splitW hpre).2
  obtain ⟨d, r, rfl, h1, h2⟩ := hasAllW_cons hsh
  obtain rfl := hasAllW_nil h2
  obtain ⟨xs, rfl, h3⟩ := hasW_list h1
  obtain ⟨ns, rfl⟩ := items_int h3
  have hlen : ns.length ≤ n := by
    unfold OpenLaw.pre at hc
    have h4 : (WTm.not (.lt (.lit (.int (n : Int))) (.len (.arg 0)))).holds [] { args := [.list (ns.map .int)] } = true := by
      have h4 := (holds_andW hc).1
      rw [hn] at h4
      exact h4
    have h5 := condW_of h4 (w_not (w_lt w_lit (w_len_list (w_arg rfl))))
    rw [List.length_map] at h5
    refine Nat.le_of_not_lt fun q => ?_
    have q' : (n : Int) < ((ns.length : Nat) : Int) := by omega
    first
      | (rw [decide_eq_true q'] at h5; exact absurd h5 (by decide))
      | (simp at h5; omega)
  cases hwl with
  | cons w1 w2 =>
    cases w2
    cases w1 with
    | list ho hall => exact ⟨_, _, ns, rfl, rfl, ho, ints_of_wellAll ns _ hall, hlen⟩

theorem post_true (l : OpenLaw) (args : List WData) : l.row.toRowW.claim.post args (.bool true) args = true :=
  postW_of (r := l.row.toRowW) (X := (true == true))
    (show WShape.has [] (.bool true) .bool = true by first | rfl | decide | simp [WShape.has, WShape.arms, WShape.armsAll])
    (show (WTm.eq .res (.lit (.bool true))).value [] { args := args, res := some (.bool true), after := args } = some (.bool (true == true)) from w_eq_bool (w_res rfl) w_lit) rfl

/-! ### the attachment: holds_open's last premise (the goal 'hc' behind k_head) from a wpAny of the law's body -/
/-- the same from a codeAny of the CALL (for a layer whose function contracts speak of calls) -/
theorem attach_call {l : OpenLaw} {n : Nat} {q : Program} {loose : List Str} {XP : (Str → Option Value) → Heap → Prop} {YP : World → Heap → Prop} {d : DefRec}
    (hn : l.most = some n) (hdf : d.params.defaults = [])
    (call : ∀ (w : World) (s₀ s₁ : Shared) (mg mb : Str → Option Value) (fa : Addr) (o : Obj) (pm cd doc : Value) (a : Addr) (vs : List Value) (ns : List Int),
      Ground q loose [] XP w s₀ mg mb s₁.heap → YP w s₁.heap →
      s₁.heap.get? fa = some o → o.data = .func (docDef d.name d.params d.body d.scope pm cd doc) → s₁.heap.CodeRec cd d.name → mg d.name = some (.ref fa) →
      s₁.heap.get? a = some { cls := .type "list", data := .seq vs.toArray } → IntsAre vs ns → ns.length ≤ n → s₁.gens = #[] →
      codeAny (model l.prog w) callerA (.call (.ref fa) ⟨[.ref a], []⟩) (fun r s' => r = .ok (.ret (.bool true)) ∧ OldK s₁.heap s'.heap ∧ s'.os = s₁.os ∧ AllBare s'.gens) s₁) :
    WalkO q loose XP YP l.row.toRowW d [] (fun f vs => PySem.call f vs) := by
  intro w s₀ s₁ mg mb G Y fa o pm cd doc dV kV ho hd hcd hD hmg hg args vals as hpre hlay hrd hwl hlo
  obtain rfl : dV = .none := Dflts.none hD hdf
  obtain rfl : kV = .none := Dflts.noKw hD
  obtain ⟨a, vs, ns, rfl, rfl, hobj, hints, hlen⟩ := script_of hn hpre hwl
  refine enter_call (codeAny_mono (call w s₀ s₁ mg mb fa o pm cd doc a vs ns G Y ho (fd_plain hd) hcd hmg hobj hints hlen hg) fun r s' hq => ?_)
  obtain ⟨rfl, h2, h3, h4⟩ := hq
  exact ⟨.inl ⟨.bool true, .bool true, [], rfl, fun _ => rfl, .bool true, post_true l _, fun _ => ⟨List.Pairwise.nil, fun _ hm => (nomatch hm)⟩⟩, h2, h3, h4⟩

/-! ### rules over ANY heap (no ledger) from facts about the written part K: the library's own take a ledger (News) for what they write -/
section
variable {prog : Program} {w : World} {A : Around} {E : Value → Shared → Prop} {s : Shared} {K : Frag}

/-! the whole heap as the ledger: makes every rule that writes through a ledger a rule over any heap -/
def noObjs (h : Heap) : Heap := { h with objs := #[] }
def ledger (h : Heap) (L d : Addr) : List (Addr × Obj) := (List.range h.objs.size).filterMap fun a => if a = L ∨ a = d then none else (h.get? a).map fun o => (a, o)
end
end Att

namespace L2
open PySem PySem.Spec PyProof.Rows

theorem vals_ints : ∀ {vs : List Value} {ns : List Int}, IntsAre vs ns → Vals (ns.map V.int) vs
  | _, _, .nil => .nil
  | _, _, .cons n t h => .cons ⟨t, rfl⟩ (vals_ints h)

/-- nothing is tracked but the script, known to the object (or it is an object of the module) -/
def Only (H : Hp) : Prop := ∀ b, H b = none ∨ ∃ o xs, H b = some (.frz o (.lst xs))

/-- THE HEAD: the law's promise, at the heap behind the top. F, the promise of the law's def, may use that base is part of the heap (so K.In base, base.Ns mainGlobals mg stand in Mod) -/
theorem law_call {P : Program} {w : World} {K : PySem.W.Frag} {mg mb : Str → Option Value} {CX : CXT} {k : Nat} {fa a : Addr} {fd : FuncData} {x : Str} {sp : Sp} {s₁ : Shared} {vs : List Value} {ns : List Int}
    (KX : K.In s₁.heap) (hns : s₁.heap.Ns mainGlobals mg) (hb : s₁.heap.Ns builtinsNs mb) (hbb : ∀ x : Str, x ≠ "__name__" → mb x = bootBuiltins x) (hlim : s₁.heap.NoLimit) (hg : s₁.gens = #[])
    (ha : s₁.heap.get? a = some { cls := .type "list", data := .seq vs.toArray }) (hi : IntsAre vs ns) (hl : ns.length ≤ sizeLine) (hr : Room k callerA)
    (F : ∀ base : Heap, K.In base → base.Ns mainGlobals mg → FnOk P w K mg base CX k fa fd [x] sp) (hbind : ∀ (s : Shared) (u : Value), BindsTo s fd ⟨[u], []⟩ [(x, u)])
    (hsp : ∀ H : Hp, Only H → SqL K H a (ns.map V.int) → sp [.ref a] H (fun v _ => v = .bl true) fun _ _ _ => False)
    (hCX : ∀ H e s', CX [] H s₁ (fun _ _ _ => False) e s' → False) :
    codeAny (model P w) callerA (.call (.ref fa) ⟨[.ref a], []⟩) (fun r s' => r = .ok (.ret (.bool true)) ∧ OldK s₁.heap s'.heap ∧ s'.os = s₁.os ∧ AllBare s'.gens) s₁ := by
  have rv := vals_ints hi
  have lenV := hi.length
  -- from an abstract heap in which nothing but the script may be tracked
  have core : ∀ H : Hp, Only H → SqL K H a (ns.map V.int) → HOk P w H s₁.heap → (∀ b, H b ≠ none → b = a) → (H a ≠ none → K.lookup a = none) →
      codeAny (model P w) callerA (.call (.ref fa) ⟨[.ref a], []⟩) (fun r s' => r = .ok (.ret (.bool true)) ∧ OldK s₁.heap s'.heap ∧ s'.os = s₁.os ∧ AllBare s'.gens) s₁ := by
    intro H hO hS hok hA hK
    have base_of : ∀ {b : Addr} {o : Obj}, s₁.heap.get? b = some o → H b = none → (hidT s₁.heap H).get? b = some o := fun e n => hidT_get e n
    have noA : ∀ {b : Addr} {o : Obj} {es : Array DictEntry} {ep : Nat}, s₁.heap.get? b = some o → o.data = .dict es ep → H b = none := fun {b o es ep} e d => by
      cases q : H b with
      | none => rfl
      | some u =>
        have e' : b = a := hA b (by rw [q]; simp)
        subst e'
        rw [ha] at e; cases e
        have d' : Data.seq vs.toArray _ = Data.dict es ep := d
        cases d'
    have nsK : ∀ {b : Addr} {m : Str → Option Value}, s₁.heap.Ns b m → (hidT s₁.heap H).Ns b m := fun {b m} ⟨o, es, ep, e, d, r⟩ => ⟨o, es, ep, base_of e (noA e d), d, r⟩
    have hKb : K.In (hidT s₁.heap H) := fun b o e => base_of (KX b o e) (by
      cases q : H b with
      | none => rfl
      | some u =>
        have e' : b = a := hA b (by rw [q]; simp)
        subst e'
        rw [hK (by rw [q]; simp)] at e; cases e)
    have hM : Mod K mg (hidT s₁.heap H) := ⟨hKb, nsK hns, ⟨mb, nsK hb, hbb⟩, let ⟨mc, h1, h2⟩ := hlim; ⟨mc, nsK h1, h2⟩⟩
    have e0 : Env0 P w K mg (hidT s₁.heap H) callerA [] s₁ H := ⟨rfl, hM, fun b o e => of_hidT e, Nat.le_of_eq (hidT_size _ _), trivial, fun b hb => absurd (show b ∈ ([] : List Addr) from hb) (by simp), hok, .of_eq hg⟩
    refine codeAny_mono ((F _ hKb (nsK hns)).run callerA [] s₁ H ⟨[.ref a], []⟩ [.ref a] [.ref a] _ _ hr e0 (hbind s₁ (.ref a)) (.cons rfl .nil) (hsp H hO hS)) fun r s' h => ?_
    cases r with
    | error e => exact (hCX H e s' h).elim
    | ok fl =>
      cases fl with
      | next => exact False.elim h
      | brk => exact False.elim h
      | cont => exact False.elim h
      | ret u =>
        obtain ⟨v, H', os, bare, un, hok', r', q⟩ := h
        have q' : v = .bl true := q
        subst q'
        obtain rfl : u = Value.bool true := r'
        refine ⟨rfl, OldK.of_keep fun b o e => ?_, os, bare⟩
        cases q : H b with
        | none => exact un.keep b o e q (by intro z; exact absurd (show b ∈ ([] : List Addr) from z) (by simp)) (by simp)
        | some u =>
          rcases hO b with z | ⟨ob, xs, z⟩
          · rw [q] at z; cases z
          · have z2 := un.frzs b ob _ z
            obtain ⟨e1, _⟩ := hok b _ z
            obtain ⟨e2, _⟩ := hok' b _ z2
            rw [e] at e1; cases e1
            exact e2
  cases hk : K.lookup a with
  | some o =>
    -- the script is one of the module's own objects
    have e := KX a o hk
    rw [ha] at e
    cases e
    refine core (fun _ => none) (fun _ => .inl rfl) (.inr ⟨_, vs.toArray, _, hk, rfl, rfl, rfl, by rw [List.size_toArray, lenV]; exact hl, by simpa using rv⟩) (fun b u z => by have z' : (none : Option HO) = some u := z; cases z') (fun b z => absurd rfl z) fun z => absurd rfl z
  | none =>
    refine core (fun b => if b = a then some (.frz { cls := .type "list", data := .seq vs.toArray } (.lst (ns.map V.int))) else none) (fun b => ?_) (.inl (.inr ⟨{ cls := .type "list", data := .seq vs.toArray }, if_pos rfl⟩)) (fun b u z => ?_) (fun b z => ?_) fun _ => hk
    · by_cases hb : b = a
      · exact .inr ⟨_, _, if_pos hb⟩
      · exact .inl (if_neg hb)
    · by_cases hb : b = a
      · have z' := (if_pos hb).symm.trans z
        cases z'
        subst hb
        exact ⟨ha, by rw [List.length_map]; exact hl, vs, _, rv, ha⟩
      · have z' := (if_neg hb).symm.trans z
        cases z'
    · by_cases hb : b = a
      · exact hb
      · exact absurd (if_neg hb) z
end L2

namespace L2
open PySem PySem.Spec PyProof.Rows

abbrev KOf {K : PySem.W.Frag} {h : Heap} (_ : K.In h) : PySem.W.Frag := K

/-- the goal that k_head leaves (case hc), from the law's promise. F gives the function object fd (K's own) once, then the promise over every base -/
theorem walk_of {l : PySem.W.OpenLaw} {n k : Nat} {q : Program} {loose : List Str} {XP : (Str → Option Value) → Heap → Prop} {YP : World → Heap → Prop} {d : DefRec} {K : Params → PySem.W.Frag} {CX : World → CXT} {sp : World → Sp} {x : Str}
    (hn : l.most = some n) (hn2 : n ≤ sizeLine) (hdf : d.params.defaults = []) (hr : Room k callerA)
    (hY : ∀ (w : World) (h : Heap), YP w h → (K w.params).In h)
    (F : ∀ (w : World) (mg : Str → Option Value) (fa : Addr) (h : Heap), (K w.params).In h → h.Ns mainGlobals mg → mg d.name = some (.ref fa) →
      ∃ fd : FuncData, (∀ (s : Shared) (u : Value), BindsTo s fd ⟨[u], []⟩ [(x, u)]) ∧
        ∀ base : Heap, (K w.params).In base → base.Ns mainGlobals mg → FnOk l.prog w (K w.params) mg base (CX w) k fa fd [x] (sp w))
    (hsp : ∀ (w : World) (H : Hp) (a : Addr) (ns : List Int), ns.length ≤ n → Only H → SqL (K w.params) H a (ns.map V.int) → sp w [.ref a] H (fun v _ => v = .bl true) fun _ _ _ => False)
    (hCX : ∀ (w : World) (H : Hp) (s : Shared) (e : Value) (s' : Shared), CX w [] H s (fun _ _ _ => False) e s' → False) :
    PySem.W.WalkO q loose XP YP l.row.toRowW d [] (fun f vs => PySem.call f vs) := by
  refine Att.attach_call hn hdf fun w s₀ s₁ mg mb fa o pm cd doc a vs ns G Y ho hd hcd hmg hobj hints hlen hg => ?_
  have KX := hY w _ Y
  obtain ⟨fd, hb, hF⟩ := F w mg fa _ KX G.T.g hmg
  exact law_call KX G.T.g G.T.b G.T.builtins G.T.nolimit hg hobj hints (Nat.le_trans hlen hn2) hr hF hb (fun H hO hS => hsp w H a ns hlen hO hS) fun H e s' => hCX w H s₁ e s'
end L2

/- THE LAST THEOREM (shape; LID, My.* are yours):
   My.Adr: a structure of the addresses that your layer names (classes, functions); My.Txt K t: a structure (Prop) of the equations over K;
   My.txt_mk : {K} {implicit addresses ..} (e1 : nsIn K mainGlobals "law" = some (some (.ref f))) (e2 : K.lookup f = some ⟨oc, od, .func (fnOf "law" "law" params body scope dV kV doc pm an cdv ct), sl⟩) (e3 : codeIn K cdv "law" = true) .. : ∃ t, My.Txt K t

set_option maxRecDepth 100000 in
set_option maxHeartbeats 0 in
theorem PySem.Challenge.cw_LID_holds : PySem.Challenge.rw_LID.Holds := by
  w_on; o_law; k_head; (case hw => w_witness2)
  k_fill
  refine L2.walk_of (l := PySem.Challenge.rw_LID) (n := 63) (k := 40) (x := "script") (CX := fun w => ..) (sp := fun _ => My.sp_law) rfl (by decide) rfl ⟨rfl, by decide, by decide⟩ (fun w h Y => PySem.W.kIn_of Y) ?F ?S ?C
  case F =>
    intro w mg fa h KX G hmg
    have T : ∃ t, My.Txt (L2.KOf KX) t := by
      dsimp only [L2.KOf]                          -- K must stand as «<heap const> w.params» for k_is
      refine' My.txt_mk ?e1 ?e2 ?e3 ..
      (case e1 => PySem.W.k_is)                    -- in the order: a name -> its address -> its object -> its parts
      (case e2 => PySem.W.k_is)
      ..
    obtain ⟨t, T⟩ := T
    have e0 := hmg.symm.trans (PySem.W.mg_of KX G T.law)
    cases e0                                       -- fa is the law's own address
    exact ⟨_, fun s u => .of_eq rfl, fun base kb nb => My.law_fn T kb nb⟩     -- if «.of_eq rfl» comes too early: refine' ⟨_, ?b, fun base kb nb => My.law_fn T kb nb⟩; exact fun s u => .of_eq rfl
  case S => exact fun w H a ns hl hO hS => ..
  case C => exact ..
(the tactic k_is has no namespace: write k_is) -/

/-! SHORT WORDS over the layer: a def of the text, its body, what a loop and a test want. -/
namespace L2
open PySem PySem.Spec PyProof.Rows

/-! ### the text by places -/
/-- the j-th statement of a class's body -/
def inClass (s : Stmt) (j : Nat) : Stmt := match s with
  | .ClassDef _ _ _ body _ _ _ _ _ _ _ => body.getD j (.Pass ⟨0, 0, 0, 0⟩)
  | _ => .Pass ⟨0, 0, 0, 0⟩
def defArgs (s : Stmt) : Arguments := match s with
  | .FunctionDef _ a _ _ _ _ _ _ _ _ => a
  | _ => { posonlyargs := [], args := [], vararg := none, kwonlyargs := [], kw_defaults := [], kwarg := none, defaults := [] }
def defBody (s : Stmt) : List Stmt := match s with
  | .FunctionDef _ _ b _ _ _ _ _ _ _ => b
  | _ => []
def defScope (s : Stmt) : Scope := match s with
  | .FunctionDef _ _ _ _ _ _ sc _ _ _ => sc
  | _ => { kind := .function, names := [], isGenerator := false, isCoroutine := false }

/-! ### no exception leaves a def -/
abbrev CX0 : CXT := fun _ _ _ _ _ _ => False
abbrev E0 : XK := fun _ _ _ => False
theorem pass0 {X : Cx} : Passes CX0 X E0 := fun _ _ _ _ _ _ _ h => h.elim

/-! ### a def (or method) of the text as it stands behind the top -/
structure Fun (K : PySem.W.Frag) (x qual : Str) (st : Stmt) (f : Addr) (fd : FuncData) : Prop where
  ex : ∃ (oc : Value) (od : Option Addr) (kV doc pm : Value) (an : Option Addr) (cdv ct : Value) (osl : Array (Option Value)),
    fd = PySem.W.fnOf x qual (defArgs st) (defBody st) (defScope st) .none kV doc pm an cdv ct ∧ K.lookup f = some ⟨oc, od, .func fd, osl⟩ ∧ PySem.W.codeIn K cdv qual = true
  kp : PySem.W.keepIn K (.ref f) = true
section
variable {P : Program} {w : World} {K : PySem.W.Frag} {mg : Str → Option Value} {base : Heap}
/-- THE RULE for a def: its body as a term of rules, and the reading of that term -/
theorem Fun.ok {x qual : Str} {st : Stmt} {f : Addr} {fd : FuncData} {N ps : List Str} {k : Nat} {sp : Sp} (F : Fun K x qual st f fd) (S : FnScope N ps (defScope st)) (len : ∀ vs H Q E, sp vs H Q E → vs.length = ps.length)
    (hbody : ∀ (cdv : Value) (A : Around) (outer : List Env) (s : Shared) (H : Hp) (vs : List V) (Q : VK) (E : XK), Room k (A.deeper (envOfC qual (defScope st) s.heap.objs.size f cdv)) → sp vs H Q E →
      ∃ t, PSs (cxOf CX0 P w K mg base N qual (defScope st) f cdv A outer s H E).nox (defBody st) t ∧ t { nx := fun _ H' => Q .non H', rt := Q } (start N vs) H) : FnOk P w K mg base CX0 (k + 1) f fd ps sp := by
  obtain ⟨oc, od, kV, doc, pm, an, cdv, ct, osl, rfl, lk, hcd⟩ := F.ex
  refine fn_of lk hcd S len fun A outer s H vs Q E hr hsp => ?_
  obtain ⟨t, h, q⟩ := hbody cdv A outer s H vs Q E hr hsp
  exact ⟨t, h.nox, q⟩
/-- how its arguments bind (no defaults): h is «fun _ _ _ _ _ _ us hl => match us, hl with | [_, _], _ => rfl», one _ a parameter -/
theorem Fun.binds {x qual : Str} {st : Stmt} {f : Addr} {fd : FuncData} {ps : List Str} (F : Fun K x qual st f fd)
    (h : ∀ (kV doc pm : Value) (an : Option Addr) (cdv ct : Value) (us : List Value), us.length = ps.length → bindArgs (PySem.W.fnOf x qual (defArgs st) (defBody st) (defScope st) .none kV doc pm an cdv ct) ⟨us, []⟩ = pure (ps.zip us)) : Binds K fd ps [] := by
  obtain ⟨oc, od, kV, doc, pm, an, cdv, ct, osl, rfl, lk, hcd⟩ := F.ex
  exact .all (h kV doc pm an cdv ct)
theorem fun_mk {x qual : Str} {st : Stmt} {f : Addr} {oc : Value} {od an : Option Addr} {osl : Array (Option Value)} {kV doc pm cdv ct : Value} (l : K.lookup f = some ⟨oc, od, .func (PySem.W.fnOf x qual (defArgs st) (defBody st) (defScope st) .none kV doc pm an cdv ct), osl⟩)
    (c : PySem.W.codeIn K cdv qual = true) (k : PySem.W.keepIn K (.ref f) = true) : Fun K x qual st f (PySem.W.fnOf x qual (defArgs st) (defBody st) (defScope st) .none kV doc pm an cdv ct) := ⟨⟨oc, od, kV, doc, pm, an, cdv, ct, osl, rfl, l, c⟩, k⟩
end
/-! ### expressions in short: the name that stands in the i-th slot -/
section
variable {X : Cx}
theorem pv (i : Nat) {x : Str} {pos : Pos} (hN : X.N[i]? = some x := by rfl) (hv : Vis X.env.scope x := by first | exact Or.inl rfl | exact Or.inr (Or.inl rfl) | exact Or.inr (Or.inr rfl)) (hd : (x == ("__debug__" : Str)) = false := by decide)
    (hcd : (x == ("__classdict__" : Str)) = false := by decide) : PE X (.Name x pos) (tVar i) := pe_var hN hv hd hcd
end

/-! ### tests -/
theorem iteF {A B : Prop} (h : B) : if false = true then A else B := by
  rw [if_neg Bool.false_ne_true]
  exact h
theorem iteT {A B : Prop} (h : A) : if true = true then A else B := by
  rw [if_pos rfl]
  exact h
theorem ite2 {c A B : Prop} [Decidable c] (h1 : c → A) (h2 : ¬ c → B) : if c then A else B := by
  by_cases h : c
  · rw [if_pos h]
    exact h1 h
  · rw [if_neg h]
    exact h2 h
/-! ### heaps -/
/-- all that was tracked is as it was -/
def Same (H H' : Hp) : Prop := ∀ b o, H b = some o → H' b = some o
theorem Same.refl (H : Hp) : Same H H := fun _ _ h => h
theorem Same.trans {H H1 H2 : Hp} (a : Same H H1) (b : Same H1 H2) : Same H H2 := fun c o h => b c o (a c o h)
theorem Same.free {H H' : Hp} (e : Same H H') {l : Addr} (h : H' l = Option.none) : H l = Option.none := by
  cases q : H l with
  | none => rfl
  | some o =>
    rw [e l o q] at h
    cases h
theorem Same.seq {K : PySem.W.Frag} {H H' : Hp} {a : Addr} {xs : List V} (e : Same H H') (h : SqL K H a xs) : SqL K H' a xs := by
  rcases h with (h | ⟨o, h⟩) | h
  · exact .inl (.inl (e _ _ h))
  · exact .inl (.inr ⟨o, e _ _ h⟩)
  · exact .inr h

end L2

namespace L2
open PySem PySem.Spec PyProof.Rows

/-! ### lists of pairs as tables -/
section
variable {κ : Type} [DecidableEq κ]
def valV (kvs : List (κ × V)) (k : κ) : Option V := (kvs.find? fun kv => decide (kv.1 = k)).map (·.2)
/-- in its place, or at the end -/
def putK (kvs : List (κ × V)) (k : κ) (v : V) : List (κ × V) :=
  if (kvs.any fun kv => decide (kv.1 = k)) = true then kvs.map (fun kv => if kv.1 = k then (kv.1, v) else kv) else kvs ++ [(k, v)]
def dropK (kvs : List (κ × V)) (k : κ) : List (κ × V) := kvs.filter fun kv => decide (kv.1 ≠ k)

theorem valV_nil {k : κ} : valV ([] : List (κ × V)) k = none := rfl
theorem valV_pos {p : κ × V} {r : List (κ × V)} {k : κ} (e : p.1 = k) : valV (p :: r) k = some p.2 := by simp [valV, List.find?_cons, e]
theorem valV_neg {p : κ × V} {r : List (κ × V)} {k : κ} (e : ¬ p.1 = k) : valV (p :: r) k = valV r k := by simp [valV, List.find?_cons, e]
theorem valV_any (k : κ) : ∀ kvs : List (κ × V), (kvs.any fun kv => decide (kv.1 = k)) = (valV kvs k).isSome
  | [] => rfl
  | p :: r => by
    rw [List.any_cons]
    by_cases e : p.1 = k
    · simp only [valV_pos e, decide_eq_true e, Bool.true_or, Option.isSome_some]
    · rw [valV_neg e, decide_eq_false e, Bool.false_or]; exact valV_any k r
theorem valV_map (k j : κ) (y : V) : ∀ kvs : List (κ × V), valV (kvs.map fun kv => if kv.1 = k then (kv.1, y) else kv) j = (valV kvs j).map fun x => if j = k then y else x
  | [] => rfl
  | p :: r => by
    have ih := valV_map k j y r
    rw [List.map_cons]
    by_cases h : p.1 = k
    · rw [if_pos h]
      by_cases e : p.1 = j
      · rw [valV_pos (p := (p.1, y)) e, valV_pos e, Option.map_some, if_pos (e.symm.trans h)]
      · rw [valV_neg (p := (p.1, y)) e, valV_neg e, ih]
    · rw [if_neg h]
      by_cases e : p.1 = j
      · rw [valV_pos (p := p) e, valV_pos e, Option.map_some, if_neg (fun z => h (e.trans z))]
      · rw [valV_neg (p := p) e, valV_neg e, ih]
theorem valV_snoc (k j : κ) (y : V) : ∀ kvs : List (κ × V), valV kvs k = none → valV (kvs ++ [(k, y)]) j = if j = k then some y else valV kvs j
  | [], _ => by
    by_cases e : k = j
    · rw [if_pos e.symm]; exact valV_pos (p := (k, y)) e
    · rw [if_neg (fun z => e z.symm)]; exact valV_neg (p := (k, y)) e
  | p :: r, hn => by
    rw [List.cons_append]
    have hk : ¬ p.1 = k := fun z => by rw [valV_pos z] at hn; cases hn
    rw [valV_neg hk] at hn
    have ih := valV_snoc k j y r hn
    by_cases e : p.1 = j
    · rw [valV_pos e, valV_pos e, if_neg (fun z => hk (e.trans z))]
    · rw [valV_neg e, valV_neg e, ih]
theorem valV_put (kvs : List (κ × V)) (k j : κ) (y : V) : valV (putK kvs k y) j = if j = k then some y else valV kvs j := by
  unfold putK
  by_cases a : (kvs.any fun kv => decide (kv.1 = k)) = true
  · rw [if_pos a, valV_map]
    rw [valV_any] at a
    by_cases e : j = k
    · obtain ⟨x, hx⟩ := Option.isSome_iff_exists.mp a
      rw [if_pos e, e, hx, Option.map_some, if_pos rfl]
    · rw [if_neg e]
      cases valV kvs j with
      | none => rfl
      | some x => rw [Option.map_some, if_neg e]
  · rw [if_neg a]
    refine valV_snoc k j y kvs ?_
    rw [valV_any] at a
    cases q : valV kvs k with
    | none => rfl
    | some x => rw [q] at a; exact (a rfl).elim
theorem length_putK (kvs : List (κ × V)) (k : κ) (v : V) : (putK kvs k v).length ≤ kvs.length + 1 := by
  unfold putK
  split
  · rw [List.length_map]; omega
  · rw [List.length_append, List.length_cons, List.length_nil]; omega
theorem RelO.isSome_eq {o : Option V} {u : Option Value} (r : RelO o u) : o.isSome = u.isSome := by
  cases o with
  | none => cases u with
    | none => rfl
    | some _ => exact (show False from r).elim
  | some _ => cases u with
    | none => exact (show False from r).elim
    | some _ => rfl
theorem RelO.getD {o : Option V} {u : Option Value} {d : V} {d' : Value} (r : RelO o u) (rd : RelV d d') : RelV (o.getD d) (u.getD d') := by
  cases o with
  | none => cases u with
    | none => exact rd
    | some _ => exact (show False from r).elim
  | some _ => cases u with
    | none => exact (show False from r).elim
    | some _ => exact r

/-- raw tables of the same keys -/
theorem KV.val {kvs : List (κ × V)} {vs : List (κ × Value)} (r : KV kvs vs) (k : κ) : RelO (valV kvs k) (valueAt vs k) := by
  unfold KV at r
  induction r with
  | nil => exact True.intro
  | @cons p q ps qs h t ih =>
    obtain ⟨h1, h2⟩ := h
    by_cases e : p.1 = k
    · have e' : q.1 = k := h1.symm.trans e
      have b : valueAt (q :: qs) k = some q.2 := by simp [valueAt, List.find?_cons, e']
      rw [valV_pos e, b]; exact h2
    · have e' : ¬ q.1 = k := fun z => e (h1.trans z)
      have b : valueAt (q :: qs) k = valueAt qs k := by simp [valueAt, List.find?_cons, e']
      rw [valV_neg e, b]; exact ih
theorem KV.any {kvs : List (κ × V)} {vs : List (κ × Value)} (r : KV kvs vs) (k : κ) : (kvs.any fun kv => decide (kv.1 = k)) = vs.any fun kv => decide (kv.1 = k) := by
  unfold KV at r
  induction r with
  | nil => rfl
  | cons h t ih => rw [List.any_cons, List.any_cons, ih, h.1]
theorem KV.repl {kvs : List (κ × V)} {vs : List (κ × Value)} (r : KV kvs vs) (k : κ) {y : V} {u : Value} (ry : RelV y u) :
    KV (kvs.map fun kv => if kv.1 = k then (kv.1, y) else kv) (vs.map fun kv => if kv.1 = k then (kv.1, u) else kv) := by
  unfold KV at r ⊢
  induction r with
  | nil => exact .nil
  | @cons p q ps qs h t ih =>
    rw [List.map_cons, List.map_cons]
    refine .cons ?_ ih
    obtain ⟨h1, h2⟩ := h
    by_cases e : p.1 = k
    · rw [if_pos e, if_pos (h1.symm.trans e)]; exact ⟨h1, ry⟩
    · rw [if_neg e, if_neg (fun z => e (h1.trans z))]; exact ⟨h1, h2⟩
theorem KV.put {kvs : List (κ × V)} {vs : List (κ × Value)} (r : KV kvs vs) (k : κ) {y : V} {u : Value} (ry : RelV y u) : KV (putK kvs k y) (stored vs k u) := by
  unfold putK stored
  rw [r.any k]
  by_cases e : (vs.any fun kv => decide (kv.1 = k)) = true
  · rw [if_pos e, if_pos e]; exact r.repl k ry
  · rw [if_neg e, if_neg e]; exact Paired.snoc r ⟨rfl, ry⟩
theorem KV.keys {kvs : List (κ × V)} {vs : List (κ × Value)} (r : KV kvs vs) : kvs.map (·.1) = vs.map (·.1) := by
  unfold KV at r
  induction r with
  | nil => rfl
  | cons h t ih => rw [List.map_cons, List.map_cons, ih, h.1]
theorem KV.length {kvs : List (κ × V)} {vs : List (κ × Value)} (r : KV kvs vs) : kvs.length = vs.length := Paired.length r
end


/-! ### a tracked dict, its keys ints and texts or tuples of these -/
theorem kV_is {P : Program} {w : World} {k : Key} {u : Value} (r : RelV (kV k) u) : (mixKind P w).is k u = true := by
  cases k with
  | inl i => obtain ⟨t, e⟩ := (show ∃ t, u = Value.int i t from r); subst e; exact mixKind_int P w i t
  | inr x => obtain ⟨t, e⟩ := (show ∃ t, u = Value.str x t from r); subst e; exact mixKind_str P w x t
theorem items_are {P : Program} {w : World} : ∀ {ks : List Key} {us : List Value}, Vals (ks.map kV) us → ItemsAre (mixKind P w) ks us
  | [], _, r => by rw [List.map_nil] at r; cases r; exact .nil
  | k :: ks, _, r => by
    rw [List.map_cons] at r
    cases r with
    | cons h t => exact .cons (kV_is h) (items_are t)

/-- raw entries of a dict with tuple keys -/
abbrev KT (H : Hp) : List (List Key × V) → List (List Key × Addr × Value) → Prop := Paired fun p q => p.1 = q.1 ∧ H q.2.1 = some (.tup (p.1.map kV)) ∧ RelV p.2 q.2.2
theorem KT.val {H : Hp} {kvs : List (List Key × V)} {xs : List (List Key × Addr × Value)} (r : KT H kvs xs) (k : List Key) : RelO (valV kvs k) ((atKey xs k).map (·.2)) := by
  induction r with
  | nil => exact True.intro
  | @cons p q ps qs h t ih =>
    obtain ⟨h1, _, h2⟩ := h
    by_cases e : p.1 = k
    · have e' : q.1 = k := h1.symm.trans e
      have b : atKey (q :: qs) k = some q.2 := by simp [atKey, List.find?_cons, e']
      rw [valV_pos e, b]; exact h2
    · have e' : ¬ q.1 = k := fun z => e (h1.trans z)
      have b : atKey (q :: qs) k = atKey qs k := by simp [atKey, List.find?_cons, e']
      rw [valV_neg e, b]; exact ih
theorem KT.repl {H : Hp} {kvs : List (List Key × V)} {xs : List (List Key × Addr × Value)} (r : KT H kvs xs) (k : List Key) {y : V} {u : Value} (ry : RelV y u) :
    KT H (kvs.map fun kv => if kv.1 = k then (kv.1, y) else kv) (xs.map (putAt k u)) := by
  induction r with
  | nil => exact .nil
  | @cons p q ps qs h t ih =>
    rw [List.map_cons, List.map_cons]
    refine .cons ?_ ih
    obtain ⟨h1, h2, h3⟩ := h
    unfold putAt
    by_cases e : p.1 = k
    · rw [if_pos e, if_pos (h1.symm.trans e)]; exact ⟨h1, h2, ry⟩
    · rw [if_neg e, if_neg (fun z => e (h1.trans z))]; exact ⟨h1, h2, h3⟩
theorem KT.put {H : Hp} {kvs : List (List Key × V)} {xs : List (List Key × Addr × Value)} (r : KT H kvs xs) (k : List Key) {b : Addr} {y : V} {u : Value} (hb : H b = some (.tup (k.map kV))) (ry : RelV y u) :
    KT H (putK kvs k y) (storedH xs k b u) := by
  have e : (kvs.any fun kv => decide (kv.1 = k)) = (atKey xs k).isSome := by
    rw [valV_any, (r.val k).isSome_eq, Option.isSome_map]
  unfold putK storedH
  rw [e]
  by_cases q : (atKey xs k).isSome = true
  · rw [if_pos q, if_pos q]; exact r.repl k ry
  · rw [if_neg q, if_neg q]; exact Paired.snoc r ⟨rfl, hb, ry⟩
theorem KT.keeps {H H' : Hp} {kvs : List (List Key × V)} {xs : List (List Key × Addr × Value)} (r : KT H kvs xs) (ht : ∀ b ys, H b = some (.tup ys) → H' b = some (.tup ys)) : KT H' kvs xs :=
  Paired.mapP r fun _ _ z => ⟨z.1, ht _ _ z.2.1, z.2.2⟩

section
variable {P : Program} {w : World} {H : Hp} {h : Heap} {a : Addr}
theorem rd_of {u : HO} (ok : HOk P w H h) (e : Rd H a u) : ObjOk P w H h a u := e.ok ok
theorem dk_rd {kvs : List (Key × V)} (ok : HOk P w H h) (e : Rd H a (.dK kvs)) : kvs.length ≤ sizeLine ∧ (a == sysModules) = false ∧ ∃ vs, KV kvs vs ∧ h.DictOf (mixKind P w) a vs :=
  show ObjOk P w H h a (.dK kvs) from rd_of ok e
theorem dk_of {kvs : List (Key × V)} (ok : HOk P w H h) (e : H a = some (.dK kvs)) : kvs.length ≤ sizeLine ∧ (a == sysModules) = false ∧ ∃ vs, KV kvs vs ∧ h.DictOf (mixKind P w) a vs := dk_rd ok (.inl e)
/-- a tracked tuple of ints and texts is a key -/
theorem key_of {ks : List Key} (ok : HOk P w H h) (e : H a = some (.tup (ks.map kV))) : (tupleKind (mixKind P w)).is h ks a := by
  obtain ⟨_, its, r, o, h1, h2, n, h3⟩ := (show ObjOk P w H h a (.tup (ks.map kV)) from ok a _ e)
  exact ⟨o, its.toArray, n, h1, h2, h3, by simpa using items_are r⟩
theorem dt_rd {kvs : List (List Key × V)} (ok : HOk P w H h) (e : Rd H a (.dT kvs)) : kvs.length ≤ sizeLine ∧ (a == sysModules) = false ∧
    ∃ xs, KT H kvs xs ∧ h.DictOfH (tupleKind (mixKind P w)) a xs := by
  obtain ⟨z, y, xs, r, o, es, ep, h1, h2, h3, h4, h5⟩ := (show ObjOk P w H h a (.dT kvs) from rd_of ok e)
  refine ⟨z, y, xs, r, o, es, ep, h1, h2, h3, h4, fun x hx => ?_, h5⟩
  have all : ∀ {l : List (List Key × V)} {m : List (List Key × Addr × Value)}, KT H l m → ∀ x ∈ m, (tupleKind (mixKind P w)).is h x.1 x.2.1 := by
    intro l m q
    induction q with
    | nil => intro x hx; exact nomatch hx
    | @cons p q ps qs hq t ih =>
      intro x hx
      rcases List.mem_cons.mp hx with e | hx
      · subst e
        exact key_of ok (by rw [← hq.1]; exact hq.2.1)
      · exact ih x hx
  exact all r x hx
theorem dt_of {kvs : List (List Key × V)} (ok : HOk P w H h) (e : H a = some (.dT kvs)) : kvs.length ≤ sizeLine ∧ (a == sysModules) = false ∧
    ∃ xs, KT H kvs xs ∧ h.DictOfH (tupleKind (mixKind P w)) a xs := dt_rd ok (.inl e)
end

/-- what the dict at a holds at the key y -/
def DGet (H : Hp) (a : Addr) (y : V) (r : Option V) : Prop :=
  (∃ kvs k, Rd H a (.dK kvs) ∧ y = kV k ∧ r = valV kvs k) ∨ ∃ kvs k b, Rd H a (.dT kvs) ∧ y = .ref b ∧ H b = some (.tup (k.map kV)) ∧ r = valV kvs k
/-- the heap behind a[y] = v -/
def DPut (H : Hp) (a : Addr) (y v : V) (H' : Hp) : Prop :=
  (∃ kvs k, H a = some (.dK kvs) ∧ y = kV k ∧ kvs.length < sizeLine ∧ H' = upd H a (.dK (putK kvs k v))) ∨
  ∃ kvs k b, H a = some (.dT kvs) ∧ y = .ref b ∧ H b = some (.tup (k.map kV)) ∧ kvs.length < sizeLine ∧ H' = upd H a (.dT (putK kvs k v))
theorem DGet.k {H : Hp} {a : Addr} {kvs : List (Key × V)} {k : Key} (e : H a = some (.dK kvs)) : DGet H a (kV k) (valV kvs k) := .inl ⟨kvs, k, .inl e, rfl, rfl⟩
theorem DPut.k {H : Hp} {a : Addr} {kvs : List (Key × V)} {k : Key} {v : V} (e : H a = some (.dK kvs)) (hl : kvs.length < sizeLine) : DPut H a (kV k) v (upd H a (.dK (putK kvs k v))) := .inl ⟨kvs, k, e, rfl, hl, rfl⟩
section
variable {X : Cx} {pins : List (Addr × Obj)} {σ : St} {H : Hp} {s : Shared} {a : Addr} {y v : V} {u r : Value} {o : Option V} {A : Around} {E : Value → Shared → Prop}

theorem Inv.big (I : Inv X pins σ H s) : sysModules < s.heap.objs.size := by
  have h : mainGlobals < s.heap.objs.size := (I.mod.glob.keeps I.bk).lt
  exact Nat.lt_trans (by decide) h

/-- d[y], there -/
theorem d_getItem {Q : Value → Shared → Prop} (hu : A.units + 1 < cLine) (I : Inv X pins σ H s) (g : DGet H a y (some v)) (ry : RelV y u) (h : ∀ w' s', Inv X pins σ H s' → RelV v w' → Q w' s') :
    wpAny (model X.prog X.w) A (getItem (.ref a) u) Q E s := by
  rcases g with ⟨kvs, k, e, ey, l⟩ | ⟨kvs, k, b, e, ey, eb, l⟩
  · subst ey
    obtain ⟨z, hd, vs, rel, dd⟩ := dk_rd I.hok e
    obtain ⟨w', hw, rw'⟩ := RelO.some_of (v := v) (o := valueAt vs k) (by rw [l]; exact rel.val k)
    exact wpAny_getItem_of (kV_is ry) dd.mapOf hw (h w' _ (I.tok _) rw')
  · subst ey
    cases (show u = Value.ref b from ry)
    obtain ⟨z, hd, xs, rel, dd⟩ := dt_rd I.hok e
    obtain ⟨w', hw, rw'⟩ := RelO.some_of (v := v) (o := (atKey xs k).map (·.2)) (by rw [l]; exact rel.val k)
    obtain ⟨p, hp, hp2⟩ := Option.map_eq_some_iff.mp hw
    refine wpAny_getItem_heap (tupleKind_room_in1 hu) (key_of I.hok eb) dd hp ?_
    rw [hp2]
    exact h w' _ (I.tok _) rw'
theorem d_notIn {Q : Value → Shared → Prop} (hu : A.units + 1 < cLine) (I : Inv X pins σ H s) (g : DGet H a y o) (ry : RelV y u) (h : ∀ s', Inv X pins σ H s' → Q (.bool (!o.isSome)) s') :
    wpAny (model X.prog X.w) A (compareOp .NotIn u (.ref a)) Q E s := by
  rcases g with ⟨kvs, k, e, ey, l⟩ | ⟨kvs, k, b, e, ey, eb, l⟩
  · subst ey
    obtain ⟨z, hd, vs, rel, dd⟩ := dk_rd I.hok e
    refine wpAny_notIn_of (kV_is ry) hd dd.mapOf ?_
    rw [← (rel.val k).isSome_eq, ← l]
    exact h _ (I.tok _)
  · subst ey
    cases (show u = Value.ref b from ry)
    obtain ⟨z, hd, xs, rel, dd⟩ := dt_rd I.hok e
    refine wpAny_notIn_heap (tupleKind_room_in1 hu) (key_of I.hok eb) hd dd ?_
    have q := (rel.val k).isSome_eq
    rw [Option.isSome_map] at q
    rw [← q, ← l]
    exact h _ (I.tok _)
/-- a dict's object is replaced -/
theorem d_write {h' : Heap} {t' : Nat} {ob : HO} (I : Inv X pins σ H s) (mu : Mut (H a)) (hs : Heap.SameBut a s.heap h') (he : ∃ q, h'.get? a = some q) (new : ObjOk X.prog X.w (upd H a ob) h' a ob) :
    Inv X pins σ (upd H a ob) { s with heap := h', toks := t' } :=
  I.write (x := a) (e := a) mu (.inl rfl) (fun b q hb z => (hs.2 b hb).trans z) he new
theorem dk_new {P : Program} {w : World} {H' : Hp} {h' : Heap} {kvs : List (Key × V)} {vs : List (Key × Value)} (z : kvs.length ≤ sizeLine) (hd : (a == sysModules) = false) (rel : KV kvs vs) (dd : h'.DictOf (mixKind P w) a vs) :
    ObjOk P w H' h' a (.dK kvs) := ⟨z, hd, vs, rel, dd⟩
/-- d[y] = v -/
theorem d_setItem {H' : Hp} {Q : Unit → Shared → Prop} (hu : A.units + 1 < cLine) (I : Inv X pins σ H s) (g : DPut H a y v H') (ry : RelV y u) (rv : RelV v r) (h : ∀ s', Inv X pins σ H' s' → Q () s') :
    wpAny (model X.prog X.w) A (setItem (.ref a) u r) Q E s := by
  rcases g with ⟨kvs, k, e, ey, l, eH⟩ | ⟨kvs, k, b, e, ey, eb, l, eH⟩
  · subst ey eH
    obtain ⟨z, hd, vs, rel, dd⟩ := dk_of I.hok e
    have hz : vs.length ≤ sizeLine := by rw [← rel.length]; exact z
    have hl : (putK kvs k v).length ≤ sizeLine := by have := length_putK kvs k v; omega
    refine wpAny_setItem_pairs (hsz := hz) (kV_is ry) dd fun h' dd' hs => h _ ?_
    have he : ∃ q, h'.get? a = some q := let ⟨q, _, _, hq, _⟩ := dd'; ⟨q, hq⟩
    exact d_write I (by rw [e]; exact True.intro) hs he (dk_new hl hd (rel.put k rv) dd')
  · subst ey eH
    cases (show u = Value.ref b from ry)
    obtain ⟨z, hd, xs, rel, dd⟩ := dt_of I.hok e
    have hz : xs.length ≤ sizeLine := by rw [← Paired.length rel]; exact z
    have hl : (putK kvs k v).length ≤ sizeLine := by have := length_putK kvs k v; omega
    refine wpAny_setItem_heap (hsz := hz) (tupleKind_room_in1 hu) (key_of I.hok eb) dd fun h' dd' hs => h _ ?_
    obtain ⟨q, es, ep, hq, h2, h3, h4, _, h5⟩ := dd'
    refine d_write I (by rw [e]; exact True.intro) hs ⟨q, hq⟩ ⟨hl, hd, _, (rel.put k eb rv).keeps fun c ys ec => ?_, q, es, ep, hq, h2, h3, h4, h5⟩
    rw [upd_ne (ne_of ec e (fun z => nomatch z))]
    exact ec
end

section
variable {X : Cx} {pins : List (Addr × Obj)} {σ : St} {H : Hp} {s : Shared} {a : Addr} {kvs : List (Key × V)} {k : Key} {u : Value} {A : Around} {E : Value → Shared → Prop}
end


/-! ### readings and rules -/
/-- the element of a subscription, not a slice -/
def NoSl (i : Expr) : Prop := ∀ ov iv, subscripted i false ov iv = operate [ov, iv] (getItem ov iv)
theorem subD_of {prog : Program} {w : World} {A : Around} {E : Value → Shared → Prop} {s : Shared} {env : Env} {value slice : Expr} {pos : Pos} {T id : String} {Q : Value → Shared → Prop}
    (hl : typeLookup (.type T) "__getitem__" = pure (some (.builtin id))) (hs : NoSl slice)
    (h : wpAny (model prog w) A (eval value env) (fun o s₁ => wpAny (model prog w) A (eval slice env) (fun i s₂ => s₂.TypeIs o T ∧ wpAny (model prog w) A (getItem o i) Q E s₂) E s₁) E s) :
    wpAny (model prog w) A (eval (.Subscript value slice pos) env) Q E s := by
  refine Subscript_ (wpAny_mono h (fun o s₁ h₁ => wpAny_mono h₁ (fun i s₂ h₂ => ?_) fun _ _ x => x) fun _ _ x => x)
  obtain ⟨hT, h₂⟩ := h₂
  unfold subscriptTail
  refine wpAny_bind ?_
  rw [getitemInPython_of_ne hT.not_modules]
  refine wpAny_bind (wpAny_specialOf hT hl ?_)
  have fin : wpAny (model prog w) A (subscripted slice false o i) (fun r s₃ => wpAny (model prog w) A (letTemporaryGo value o r >>= fun _ => pure r) Q E s₃) E s₂ := by
    rw [hs o i]
    exact wpAny_operating (wpAny_mono h₂ (fun r s₃ h₃ => wpAny_bind (wpAny_letTemporaryGo (wpAny_pure h₃))) fun _ _ x => x)
  first
    | exact wpAny_pure (wpAny_bind fin)
    | exact wpAny_bind (wpAny_pure (wpAny_bind fin))
    | exact wpAny_bind fin

theorem dict_typeIs {X : Cx} {pins : List (Addr × Obj)} {σ : St} {H : Hp} {s : Shared} {a : Addr} {y : V} {o : Option V} (I : Inv X pins σ H s) (g : DGet H a y o) : s.TypeIs (.ref a) "dict" := by
  rcases g with ⟨kvs, k, e, _, _⟩ | ⟨kvs, k, b, e, _, _, _⟩
  · obtain ⟨_, _, vs, _, dd⟩ := dk_rd I.hok e
    exact dd.typeIs
  · obtain ⟨_, _, xs, _, dd⟩ := dt_rd I.hok e
    exact dd.typeIs
/-- d[y] -/
def tDGet (td ty : TE) : TE := fun σ H Q => td σ H fun x H1 => ty σ H1 fun y H2 => ∃ a v, x = .ref a ∧ DGet H2 a y (some v) ∧ Q v H2
/-- y in d, y not in d -/
def tDIn (ty td : TE) : TE := fun σ H Q => ty σ H fun y H1 => td σ H1 fun x H2 => ∃ a o, x = .ref a ∧ DGet H2 a y o ∧ Q (.bl o.isSome) H2
def tDNotIn (ty td : TE) : TE := fun σ H Q => ty σ H fun y H1 => td σ H1 fun x H2 => ∃ a o, x = .ref a ∧ DGet H2 a y o ∧ Q (.bl (!o.isSome)) H2
/-- d[y] = v -/
def sDPut (td ty tv : TE) : TS := fun D σ H => tv σ H fun v H1 => td σ H1 fun x H2 => ty σ H2 fun y H3 => ∃ a H4, x = .ref a ∧ DPut H3 a y v H4 ∧ D.nx σ H4
/-- d[y] op= v -/
def sDAug (td ty tv : TE) (rd : V → V → Hp → VK → Prop) : TS := fun D σ H => td σ H fun x H1 => ty σ H1 fun y H2 => ∃ a v, x = .ref a ∧ DGet H2 a y (some v) ∧
  tv σ H2 fun y2 H3 => rd v y2 H3 fun z H4 => ∃ H5, DPut H4 a y z H5 ∧ D.nx σ H5
/-- del d[y] -/
def sDDel (td ty : TE) : TS := fun D σ H => td σ H fun x H1 => ty σ H1 fun y H2 => ∃ a kvs k, x = .ref a ∧ H2 a = some (.dK kvs) ∧ y = kV k ∧ (valV kvs k).isSome = true ∧ D.nx σ (upd H2 a (.dK (dropK kvs k)))

section
variable {X : Cx} {o i e value : Expr} {pos pos' tpos : Pos} {td ty tv : TE}
theorem pe_dget (hu : X.A.units + 1 < cLine) (ho : PE X o td) (hi : PE X i ty) (hs : NoSl i) : PE X (.Subscript o i pos) (tDGet td ty) := by
  intro pins s σ H Q I h
  refine subD_of PySem.F.slot_dict_getitem.lookup hs (thn (ho pins s σ H _ I h) fun u s1 ⟨x, H1, I1, rx, q1⟩ => thn (hi pins s1 σ H1 _ I1 q1) fun iv s2 ⟨y, H2, I2, ry, a, v, ex, g, q2⟩ => ?_)
  subst ex
  obtain rfl : u = Value.ref a := rx
  exact ⟨dict_typeIs I2 g, d_getItem hu I2 g ry fun w' s3 I3 rw' => ⟨v, H2, I3, rw', q2⟩⟩
theorem pc_dnotin (hu : X.A.units + 1 < cLine) (hi : PE X i ty) (ho : PE X o td) : PC X .NotIn i o (tDNotIn ty td) := by
  intro pins s σ H Q I h
  refine thn (hi pins s σ H _ I h) fun iv s1 ⟨y, H1, I1, ry, q1⟩ => thn (ho pins s1 σ H1 _ I1 q1) fun u s2 ⟨x, H2, I2, rx, a, ov, ex, g, q2⟩ => ?_
  subst ex
  obtain rfl : u = Value.ref a := rx
  exact d_notIn hu I2 g ry fun s3 I3 => ⟨.bl (!ov.isSome), H2, I3, rfl, q2⟩
theorem ps_dput (hu : X.A.units + 1 < cLine) (ho : PE X o td) (hi : PE X i ty) (hv : PE X value tv) (hs : swapsWith value (some (.Subscript o i pos')) pos.line X.env = pure false) :
    PS X (.Assign [.Subscript o i pos'] value pos) (sDPut td ty tv) := by
  intro pins s σ H D I h
  refine wpAny_Assign_Subscript (thn (hv pins s σ H _ I h) fun r s1 ⟨v, H1, I1, rv, q1⟩ => thn (ho pins s1 σ H1 _ I1 q1) fun u s2 ⟨x, H2, I2, rx, q2⟩ => thn (hi pins s2 σ H2 _ I2 q2) fun iv s3 ⟨y, H3, I3, ry, a, H4, ex, g, q3⟩ => ?_) hs
  subst ex
  obtain rfl : u = Value.ref a := rx
  exact d_setItem hu I3 g ry rv fun s4 I4 => ⟨σ, H4, I4, q3⟩
end


/-! ### displays -/
theorem dk_empty {P : Program} {w : World} {H : Hp} (h : Heap) (hb : sysModules < h.objs.size) : ObjOk P w H (h.push { cls := .type "dict", data := .dict #[] }) h.objs.size (.dK []) :=
  ⟨Nat.zero_le _, beq_eq_false_iff_ne.mpr (Ne.symm (Nat.ne_of_lt hb)), [], .nil, Heap.DictOf.new h⟩
/-- {}, to be a dict of the kind that is wanted -/
def tDNewK : TE := fun _ H Q => ∀ p, H p = none → Q (.ref p) (upd H p (.dK []))
def tDNewT : TE := fun _ H Q => ∀ p, H p = none → Q (.ref p) (upd H p (.dT []))
section
variable {X : Cx} {pos : Pos}
theorem pe_dnewK : PE X (.Dict [] [] pos) tDNewK := fun pins s σ H Q I h =>
  wpAny_Dict_empty ⟨.ref s.heap.objs.size, _, I.laid (a := s.heap.objs.size) (o := .dK []) (t' := s.toks) (fun _ _ q => Heap.get?_push_of_some _ q) (Nat.le_refl _) (dk_empty s.heap I.big), rfl, h _ (I.hok.fresh (Nat.le_refl _))⟩
end

/-- the pairs of a display, from the left -/
def tPairs : List (TE × TE) → St → Hp → (List (V × V) → Hp → Prop) → Prop
  | [], _, H, Q => Q [] H
  | (tk, tv) :: r, σ, H, Q => tk σ H fun x H1 => tv σ H1 fun y H2 => tPairs r σ H2 fun ps H3 => Q ((x, y) :: ps) H3
abbrev VV : List (V × V) → List (Value × Value) → Prop := Paired fun p q => RelV p.1 q.1 ∧ RelV p.2 q.2
def PPs (X : Cx) (pos : Pos) (keys : List (Option Expr)) (values : List Expr) (trs : List (TE × TE)) : Prop :=
  ∀ (pins : List (Addr × Obj)) (s : Shared) (σ : St) (H : Hp) (Q : List (V × V) → Hp → Prop), Inv X pins σ H s → tPairs trs σ H Q →
    wpAny (model X.prog X.w) X.A (evalPairs (pairTrees keys values X.env pos)) (fun vs s' => ∃ ps H', Inv X pins σ H' s' ∧ VV ps vs ∧ Q ps H') X.xe s
def mergeK (kvs more : List (Key × V)) : List (Key × V) := more.foldl (fun acc kv => putK acc kv.1 kv.2) kvs
/-- {k: v, ..} with keys ints and texts; the new dict stands empty while the pairs are made -/
def tDisp (trs : List (TE × TE)) : TE := fun σ H Q => ∀ p, H p = none → tPairs trs σ (upd H p (.dK [])) fun ps H2 => H2 p = some (.dK []) ∧ ∃ kvs : List (Key × V), ps = kvs.map (fun kv => (kV kv.1, kv.2)) ∧ kvs.length ≤ 15 ∧ Q (.ref p) (upd H2 p (.dK (mergeK [] kvs)))
/-! ### methods -/
/-- a method call o.m(e) of a built-in, with one argument: what must be seen of the text -/
structure M1 (X : Cx) (o : Expr) (m : Str) (apos : Pos) (e : Expr) (cpos : Pos) : Prop where
  base : attributeBase o m X.env (eval o X.env) = eval o X.env
  few : ((backTo cpos (starEach [e] X.env)).all (fun x => !x.1) && (backToKw cpos (keywordEach [] X.env)).all (fun x => x.1.isSome)
    && decide (([e] : List Expr).length + ([] : List Keyword).length + (if ([] : List Keyword).isEmpty then 0 else 1) < 30)) = true
  line : (apos.endLine == cpos.line) = true
  trees : backTo cpos (starEach [e] X.env) = [(false, eval e X.env)]
structure M2 (X : Cx) (o : Expr) (m : Str) (apos : Pos) (e f : Expr) (cpos : Pos) : Prop where
  base : attributeBase o m X.env (eval o X.env) = eval o X.env
  few : ((backTo cpos (starEach [e, f] X.env)).all (fun x => !x.1) && (backToKw cpos (keywordEach [] X.env)).all (fun x => x.1.isSome)
    && decide (([e, f] : List Expr).length + ([] : List Keyword).length + (if ([] : List Keyword).isEmpty then 0 else 1) < 30)) = true
  line : (apos.endLine == cpos.line) = true
  trees : backTo cpos (starEach [e, f] X.env) = [(false, eval e X.env), (false, eval f X.env)]

/-- a is a dict, whatever its keys -/
def IsD (H : Hp) (a : Addr) : Prop := (∃ kvs, Rd H a (.dK kvs)) ∨ ∃ kvs, Rd H a (.dT kvs)
theorem isD_at {X : Cx} {pins : List (Addr × Obj)} {σ : St} {H : Hp} {s : Shared} {a : Addr} (I : Inv X pins σ H s) (d : IsD H a) :
    s.TypeIs (.ref a) "dict" ∧ (∀ b, Value.ref a = .ref b → ∃ ob, s.heap.get? b = some ob ∧ ob.dict = none) ∧ (a == sysModules) = false := by
  rcases d with ⟨kvs, e⟩ | ⟨kvs, e⟩
  · obtain ⟨_, hd, vs, _, dd⟩ := dk_rd I.hok e
    refine ⟨dd.typeIs, fun b q => ?_, hd⟩
    cases q
    obtain ⟨ob, _, _, h1, h2, _⟩ := dd
    exact ⟨ob, h1, h2.2.1⟩
  · obtain ⟨_, hd, xs, _, dd⟩ := dt_rd I.hok e
    refine ⟨dd.typeIs, fun b q => ?_, hd⟩
    cases q
    obtain ⟨ob, _, _, h1, h2, _⟩ := dd
    exact ⟨ob, h1, h2.2.1⟩

section
variable {X : Cx} {pins : List (Addr × Obj)} {σ : St} {H : Hp} {s : Shared} {a : Addr} {y d : V} {u r : Value} {o : Option V} {A : Around} {E : Value → Shared → Prop}
/-- d.get(y) -/
theorem d_get1 {Q : Value → Shared → Prop} (hu : A.units + 1 < cLine) (I : Inv X pins σ H s) (g : DGet H a y o) (ry : RelV y u) (h : ∀ w' s', Inv X pins σ H s' → RelV (o.getD .non) w' → Q w' s') :
    wpAny (model X.prog X.w) A (call (.builtin "dict.get") [.ref a, u]) Q E s := by
  rcases g with ⟨kvs, k, e, ey, l⟩ | ⟨kvs, k, b, e, ey, eb, l⟩
  · subst ey
    obtain ⟨z, hd, vs, rel, dd⟩ := dk_rd I.hok e
    refine call_meetsIn PySem.F.slot_dict_get dd.typeIs PySem.F.entry_dict_get (PySem.F.args_dict_get_2 _ _) (meets_dict_get (mixKind X.prog X.w) a (kV_is ry) hd) ⟨_, dd.mapOf, h _ _ (I.tok _) ?_⟩
    rw [l]
    exact (rel.val k).getD rfl
  · subst ey
    cases (show u = Value.ref b from ry)
    obtain ⟨z, hd, xs, rel, dd⟩ := dt_rd I.hok e
    refine call_meetsIn PySem.F.slot_dict_get dd.typeIs PySem.F.entry_dict_get (PySem.F.args_dict_get_2 _ _) (meetsH_dict_get (tupleKind (mixKind X.prog X.w)) a b hd) ⟨tupleKind_room_in1 hu, k, xs, key_of I.hok eb, dd, h _ _ (I.tok _) ?_⟩
    rw [l]
    exact (rel.val k).getD rfl
end

def tDGet1 (td ty : TE) : TE := fun σ H Q => td σ H fun x H1 => ∃ a, x = .ref a ∧ IsD H1 a ∧ ty σ H1 fun y H2 => ∃ o, DGet H2 a y o ∧ Q (o.getD .non) H2
def tDGet2 (td ty tx : TE) : TE := fun σ H Q => td σ H fun x H1 => ∃ a, x = .ref a ∧ IsD H1 a ∧ ty σ H1 fun y H2 => tx σ H2 fun z H3 => ∃ o, DGet H3 a y o ∧ Q (o.getD z) H3
/-- d.pop(k): there; d.pop(k, x): there or not -/
def tDPop1 (td ty : TE) : TE := fun σ H Q => td σ H fun x H1 => ∃ a, x = .ref a ∧ IsD H1 a ∧ ty σ H1 fun y H2 => ∃ kvs k v, H2 a = some (.dK kvs) ∧ y = kV k ∧ valV kvs k = some v ∧ Q v (upd H2 a (.dK (dropK kvs k)))
def tDPop2 (td ty tx : TE) : TE := fun σ H Q => td σ H fun x H1 => ∃ a, x = .ref a ∧ IsD H1 a ∧ ty σ H1 fun y H2 => tx σ H2 fun z H3 => ∃ kvs k, H3 a = some (.dK kvs) ∧ y = kV k ∧
  (∀ v, valV kvs k = some v → Q v (upd H3 a (.dK (dropK kvs k)))) ∧ (valV kvs k = none → Q z H3)
section
variable {X : Cx} {o e f : Expr} {apos cpos : Pos} {td ty tx : TE}
theorem pe_dget1 (hu : X.A.units + 1 < cLine) (ho : PE X o td) (he : PE X e ty) (m : M1 X o "get" apos e cpos) : PE X (.Call (.Attribute o "get" apos) [e] [] cpos) (tDGet1 td ty) := by
  intro pins s σ H Q I h
  refine wpAny_Call_method m.base m.few m.line PySem.F.plainAttrs_dict PySem.F.slot_dict_get PySem.F.type_dict_get (thn (ho pins s σ H _ I h) fun u s1 ⟨x, H1, I1, rx, a, ex, d, q1⟩ => ?_)
  subst ex
  obtain rfl : u = Value.ref a := rx
  obtain ⟨t1, t2, _⟩ := isD_at I1 d
  refine ⟨t1, t2, ?_⟩
  rw [m.trees]
  refine Calls.callWith_builtin rfl (Calls.evalArgs_plain (Calls.spliced_cons (thn (he pins s1 σ H1 _ I1 q1) fun iv s2 ⟨y, H2, I2, ry, ov, g, q2⟩ => Calls.spliced_nil ?_)))
  exact d_get1 hu I2 g ry fun w' s3 I3 rw' => ⟨_, H2, I3, rw', q2⟩
end

/-! ### dict(d): a copy -/
section
variable {X : Cx} {pins : List (Addr × Obj)} {σ : St} {H : Hp} {s : Shared} {a : Addr} {kvs : List (Key × V)} {A : Around} {E : Value → Shared → Prop}
end


section
variable {X : Cx} {pins : List (Addr × Obj)} {σ : St} {H : Hp} {s : Shared} {a : Addr} {y : V} {u : Value} {A : Around} {E : Value → Shared → Prop}
end
end L2
namespace L2
open PySem PySem.Spec PyProof.Rows

/-! ### comprehensions -/
theorem nof {α : Type} {M : Model} {A : Around} {t : Sem α} {Q : α → Shared → Prop} {E : Value → Shared → Prop} {s : Shared} (h : wpAny M A t Q (fun _ _ => False) s) : wpAny M A t Q E s :=
  wpAny_mono h (fun _ _ x => x) fun _ _ f => f.elim

/-- the tests of a clause -/
def PTs (X : Cx) (ifs : List Expr) (t : TT) : Prop :=
  ∀ (pins : List (Addr × Obj)) (s : Shared) (σ : St) (H : Hp) (Q : Bool → Hp → Prop), Inv X pins σ H s → t σ H Q →
    wpAny (model X.prog X.w) X.A (forIn ifs true fun c r => if r = true then do let ok ← isTrue c X.env (eval c X.env); pure (ForInStep.yield ok) else pure (ForInStep.yield r)) (TP X pins σ Q) X.xe s
def tYes : TT := fun _ H Q => Q true H
theorem pts_nil {X : Cx} : PTs X [] tYes := fun _ _ _ H _ I h => wpAny_tests_nil ⟨H, I, h⟩
theorem pts_one {X : Cx} {c : Expr} {t : TT} (h : PT X c t) : PTs X [c] t := fun pins s σ H Q I hq => wpAny_tests_one (h pins s σ H Q I hq)

/-- the block's names at its start: its own one, then those of the frame around -/
def cst (ix : List Nat) (σ : St) : St := none :: ix.map fun j => (σ[j]?).getD none

/-- the context of a comprehension's block -/
def cmpCx (X : Cx) (Nc : List Str) (scope : Scope) (cl : List (Str × Addr)) (C : Addr) (fp : List Addr) (s : Shared) (H : Hp) : Cx where
  prog := X.prog
  w := X.w
  K := X.K
  mg := X.mg
  base := X.base
  A := X.A
  N := Nc
  s₀ := s
  H₀ := H
  env := compEnvC scope cl C X.env
  outer := X.stack
  stack := X.stack
  ex := fp
  fn := fun _ => false
  calm := X.calm
  pn := []
  xe := fun _ _ => False

/-- each name of the frame around that the block reads -/
def FreeOk (X : Cx) (scope : Scope) (cl : List (Str × Addr)) : List Str → List Nat → Prop
  | [], [] => True
  | y :: ys, i :: ix => (X.N[i]? = some y ∧ X.env.kindOf y = some .cell ∧ cl.lookup y = X.env.cells.lookup y ∧ (relabel scope X.env).names.lookup y = some .cell) ∧ FreeOk X scope cl ys ix
  | _, _ => False
theorem FreeOk.len {X : Cx} {scope : Scope} {cl : List (Str × Addr)} : ∀ {ys : List Str} {ix : List Nat}, FreeOk X scope cl ys ix → ix.length = ys.length
  | [], [], _ => rfl
  | _ :: _, _ :: _, h => by simp [FreeOk.len h.2]
  | [], _ :: _, h => h.elim
  | _ :: _, [], h => h.elim
theorem FreeOk.at {X : Cx} {scope : Scope} {cl : List (Str × Addr)} : ∀ {ys : List Str} {ix : List Nat}, FreeOk X scope cl ys ix → ∀ (j : Nat) (y : Str), ys[j]? = some y →
    ∃ i, ix[j]? = some i ∧ X.N[i]? = some y ∧ X.env.kindOf y = some .cell ∧ cl.lookup y = X.env.cells.lookup y ∧ (relabel scope X.env).names.lookup y = some .cell
  | [], [], _, j, y, e => by simp at e
  | z :: _, i :: _, h, 0, y, e => by
    simp at e
    subst e
    exact ⟨i, rfl, h.1⟩
  | _ :: _, _ :: _, h, j + 1, y, e => by
    obtain ⟨i, e1, e2⟩ := FreeOk.at h.2 j y (by simpa using e)
    exact ⟨i, by simpa using e1, e2⟩
  | [], _ :: _, h, _, _, _ => h.elim
  | _ :: _, [], h, _, _, _ => h.elim

def SubOk (X : Cx) : List (Str × Addr) → Prop
  | [] => True
  | p :: r => X.env.cells.lookup p.1 = some p.2 ∧ SubOk X r
theorem SubOk.mem {X : Cx} : ∀ {cl : List (Str × Addr)}, SubOk X cl → ∀ p ∈ cl, X.env.cells.lookup p.1 = some p.2
  | [], _, p, hp => absurd hp (by simp)
  | _ :: _, h, p, hp => by
    rcases List.mem_cons.mp hp with e | e
    · subst e; exact h.1
    · exact SubOk.mem h.2 p e
structure CompNames (X : Cx) (scope : Scope) (cl : List (Str × Addr)) (x : Str) (ys : List Str) (ix : List Nat) : Prop where
  clos : closureFor scope X.env = pure cl
  cell : (scope.names.all fun y => !(y.2 == NameKind.cell)) = true
  kind : scope.kind = .function
  names : (scope.names.all fun y => !(y.2 == NameKind.local) || scope.names.lookup y.1 == some NameKind.local) = true
  hx : scope.names.lookup x = some .local
  nd : (x :: ys).Nodup
  sub : SubOk X cl
  has : ((relabel scope X.env).names.all fun p => !(p.2 == NameKind.cell || p.2 == NameKind.free) || (cl.lookup p.1).isSome) = true
  free : FreeOk X scope cl ys ix

theorem lookup_mem {α β : Type} [BEq α] [LawfulBEq α] {k : α} {v : β} : ∀ {l : List (α × β)}, l.lookup k = some v → (k, v) ∈ l
  | [], h => by simp at h
  | (a, b) :: r, h => by
    rw [List.lookup_cons] at h
    cases q : k == a with
    | true =>
      rw [q] at h
      have e := eq_of_beq q
      subst e
      cases h
      exact List.mem_cons_self
    | false =>
      rw [q] at h
      exact List.mem_cons_of_mem _ (lookup_mem h)

section
variable {X : Cx} {scope : Scope} {cl : List (Str × Addr)} {x : Str} {ys : List Str} {ix : List Nat}
theorem CompNames.sub' (n : CompNames X scope cl x ys ix) : ∀ y c, cl.lookup y = some c → X.env.cells.lookup y = some c := fun y c e => by
  exact n.sub.mem (y, c) (lookup_mem e)
theorem CompNames.has' (n : CompNames X scope cl x ys ix) : ∀ y, ((relabel scope X.env).names.lookup y = some .cell ∨ (relabel scope X.env).names.lookup y = some .free) → ∃ c, cl.lookup y = some c := fun y h => by
  have : ∃ k : NameKind, (y, k) ∈ (relabel scope X.env).names ∧ (k = .cell ∨ k = .free) := by
    rcases h with h | h
    · exact ⟨_, lookup_mem h, .inl rfl⟩
    · exact ⟨_, lookup_mem h, .inr rfl⟩
  obtain ⟨k, hm, hk⟩ := this
  have q := List.all_eq_true.mp n.has (y, k) hm
  have : (k == NameKind.cell || k == NameKind.free) = true := by
    rcases hk with rfl | rfl <;> decide
  simp only [this, Bool.not_true, Bool.false_or] at q
  exact Option.isSome_iff_exists.mp q
theorem CompNames.cell' (n : CompNames X scope cl x ys ix) : ∀ y ∈ scope.names, y.2 ≠ .cell := fun y hy e => by
  have q := List.all_eq_true.mp n.cell y hy
  rw [e] at q
  exact absurd q (by decide)
theorem CompNames.names' (n : CompNames X scope cl x ys ix) : ∀ y ∈ scope.names, y.2 = .local → scope.names.lookup y.1 = some .local := fun y hy e => by
  have q := List.all_eq_true.mp n.names y hy
  rw [e] at q
  have z : (NameKind.local == NameKind.local) = true := by decide
  simp only [z, Bool.not_true, Bool.false_or] at q
  exact eq_of_beq q
end

/-- [te for x in wi if tt]: W the turn, a measure, what is gathered, the heap -/
def tComp (wi : TI) (ix : List Nat) (tt : TT) (te : TE) : TE := fun σ H Q => wi σ H fun J H1 => ∃ W : Nat → Nat → List V → Hp → Prop, (∃ m, W 0 m [] H1) ∧ ∀ i m ys H2, W i m ys H2 →
  (J.stop i H2 ∧ ys.length ≤ sizeLine ∧ ∀ p, H2 p = none → Q (.ref p) (upd H2 p (.lst ys))) ∨
  (J.go i H2 ∧ ys.length ≤ sizeLine ∧ ∀ x H3, J.yld i H2 x H3 → tt ((cst ix σ).set 0 (some x)) H3 fun b H4 =>
    if b = true then te ((cst ix σ).set 0 (some x)) H4 fun v H5 => ∃ m', m' < m ∧ W (i + 1) m' (ys ++ [v]) H5 else ∃ m', m' < m ∧ W (i + 1) m' ys H4)

section
variable {X : Cx} {scope : Scope} {cl : List (Str × Addr)} {x : Str} {ys : List Str} {ix : List Nat}

theorem cmp_start {pins : List (Addr × Obj)} {σ : St} {H : Hp} {s : Shared} {fp : List Addr} {D C : Addr} {h₁ : Heap} {tk : Nat} {ob : Obj} {m : Str → Option Value} (n : CompNames X scope cl x ys ix) (I : Inv X pins σ H s)
    (f : ∀ b ∈ fp, FpOk X pins H b) (fo : ∀ b ∈ fp, b < s.heap.objs.size) (hD : s.heap.objs.size ≤ D) (hC : s.heap.objs.size ≤ C) (hDC : D ≠ C) (old : ∀ b o, s.heap.get? b = some o → h₁.get? b = some o) (hns : h₁.Ns C m) (hob : h₁.get? D = some ob)
    (hcell : ∀ v, ob.data ≠ .cell v) : Inv (cmpCx X (x :: ys) scope cl C fp s H) [(D, ob)] (cst ix σ) H { s with heap := h₁, toks := tk } := by
  have nst : ∀ b, s.heap.objs.size ≤ b → b ∉ frs X.stack := fun b hb z => by
    rcases List.mem_cons.mp (I.stkSub b z) with e | e
    · exact absurd (Nat.lt_of_lt_of_le I.lt (by rw [← e]; exact hb)) (Nat.lt_irrefl _)
    · exact I.nofs hb e
  have lt_cell : ∀ y c, cl.lookup y = some c → c < s.heap.objs.size := fun y c e => by
    obtain ⟨v, q⟩ := I.cell y c (n.sub' y c e)
    exact q.lt
  refine ⟨⟨I.ok.mod, n.kind, I.ok.glob, I.ok.blt, hC, fun y z c h1 h2 => I.ok.inj y z c (n.sub' y c h1) (n.sub' z c h2), n.has', (fun y c h => absurd (show false = true from h) (by decide)), I.ok.hd, I.ok.frames, .inl rfl, fun b hb => ⟨?_, fun y c e => ?_⟩, I.bs,
    Nat.le_trans I.ok.bsz I.sz, fun b o e hb => ?_, fun b hb z => ?_, I.stack, I.stkFree⟩, rfl, I.bare, Un.kept old, ⟨m, hns, fun i y v h1 h2 h3 => ?_⟩, fun y c e => ?_, I.hok.fresh hC, fun y c e => I.freeC y c (n.sub' y c e), fun p hp => ?_, I.hok.kept old, ?_⟩
  · exact Nat.ne_of_lt (Nat.lt_of_lt_of_le (fo b hb) hC)
  · exact (f b hb).2.2.2.2.1 y c (n.sub' y c e)
  · rcases (f b hb).2.2.2.1 with z | z
    · exact I.ok.noex b o e z
    · exact absurd (Nat.lt_of_lt_of_le (Heap.lt_size e) (Nat.le_trans I.ok.bsz z)) (Nat.lt_irrefl _)
  · rcases List.mem_cons.mp (I.stkSub b z) with e | e
    · exact (f b hb).2.1 e
    · exact (f b hb).2.2.1 e
  · cases i with
    | zero =>
      have h2' : (none : Option V) = some v := Option.some.inj h2
      cases h2'
    | succ j =>
      have h1' : ys[j]? = some y := h1
      obtain ⟨i, e1, e2, e3, e4, e5⟩ := n.free.at j y h1'
      have h2' : (ix.map fun j => (σ[j]?).getD none)[j]? = some (some v) := by simpa [cst] using h2
      rw [List.getElem?_map, e1] at h2'
      have h2'' : (σ[i]?).getD none = some v := Option.some.inj h2'
      have h4 : σ[i]? = some (some v) := by
        cases q : σ[i]? with
        | none => rw [q] at h2''; cases h2''
        | some o => rw [q] at h2''; exact congrArg some h2''
      obtain ⟨m', hn', hl⟩ := I.loc
      obtain ⟨u, r, look⟩ := hl i y v e2 h4 (.inr (.inl e3))
      refine ⟨u, r, .inr ⟨.inl e5, ?_⟩⟩
      rcases look with ⟨k, _⟩ | ⟨_, c, e, z⟩
      · rw [e3] at k; cases k
      · refine ⟨c, e4.trans e, ?_⟩
        obtain ⟨o, ho, hd⟩ := z
        exact ⟨o, old _ _ ho, hd⟩
  · obtain ⟨v, o, ho, hd⟩ := I.cell y c (n.sub' y c e)
    exact ⟨v, o, old _ _ ho, hd⟩
  · have hp' : p ∈ [(D, ob)] := hp
    have e := List.mem_singleton.mp hp'
    subst e
    exact ⟨hob, I.hok.fresh hD, hDC, nst D hD, hcell⟩
  · show (none :: ix.map _).length = (x :: ys).length
    simp [n.free.len]

/-- a comprehension's block, whatever is done with the list behind it -/
theorem comp_block {elt iter : Expr} {ifs : List Expr} {px pos : Pos} {tt : TT} {te : TE} {pins : List (Addr × Obj)} {σ : St} {H2 : Hp} {s2 : Shared} {it : Addr} {fp : List Addr} {tn : Nat → Heap → Prop} {J : It} {W : Nat → Nat → List V → Hp → Prop} {m0 : Nat} {Z : List V → Hp → Prop} {RR : Value → Addr → Result → Shared → Prop}
    {E : Value → Shared → Prop} (n : CompNames X scope cl x ys ix) (hc : X.calm = true)
    (ht : ∀ C fp s H, PTs (cmpCx X (x :: ys) scope cl C fp s H) ifs tt) (he : ∀ C fp s H, PE (cmpCx X (x :: ys) scope cl C fp s H) elt te)
    (I2 : Inv X pins σ H2 s2) (T : Turn X.prog X.w X.K (.Name x px) J fp it tn) (st2 : tn 0 s2.heap) (f2 : ∀ b ∈ fp, FpOk X pins H2 b) (w0 : W 0 m0 [] H2)
    (turn : ∀ i m ys H2, W i m ys H2 → (J.stop i H2 ∧ ys.length ≤ sizeLine ∧ Z ys H2) ∨ (J.go i H2 ∧ ys.length ≤ sizeLine ∧ ∀ x H3, J.yld i H2 x H3 → tt ((cst ix σ).set 0 (some x)) H3 fun b H4 =>
      if b = true then te ((cst ix σ).set 0 (some x)) H4 fun v H5 => ∃ m', m' < m ∧ W (i + 1) m' (ys ++ [v]) H5 else ∃ m', m' < m ∧ W (i + 1) m' ys H4))
    (hRR : ∀ (D C : Addr) (s4 : Shared) (H3 : Hp) (zs : List V) (m : Str → Option Value), Inv X pins σ (upd H3 D (.lst zs)) s4 → s4.heap.Ns C m → FpOk X pins (upd H3 D (.lst zs)) C → H3 D = none → Z zs H3 → RR (.ref D) C (.ok .next) s4) :
    wpAny (model X.prog X.w) X.A (newList []) (fun acc s₃ => wpAny (model X.prog X.w) X.A (newFunctionEnv scope X.env.globals cl [] X.env.qual none .none (some X.env)) (fun cenv s₄ =>
      codeAny (model X.prog X.w) X.A (.compStart (.ListComp elt [⟨.Name x px, iter, ifs, 0⟩] scope pos) 0 (.ref it) acc { cenv with scope := relabel scope X.env }) (RR acc cenv.locals) s₄) E s₃) E s2 := by
  have fo : ∀ b ∈ fp, b < s2.heap.objs.size := fun b hb => let ⟨_, e, _⟩ := T.obj _ _ st2 b hb; Heap.lt_size e
  refine wpAny_newObj_type (wpAny_newFunctionEnv n.cell' (by intro y hy; simp at hy) (fun h₁ hns₁ hsb₁ => ?_) n.kind)
  dsimp only at hns₁ hsb₁ ⊢
  generalize hH3 : s2.heap.push { cls := .type "list", dict := none, data := .seq ([] : List Value).toArray } = G at hns₁ hsb₁ ⊢
  have hC : G.objs.size = s2.heap.objs.size + 1 := by rw [← hH3, Heap.size_push]
  have hDC : s2.heap.objs.size ≠ G.objs.size := by rw [hC]; exact Nat.ne_of_lt (Nat.lt_succ_self _)
  have hCle : s2.heap.objs.size ≤ G.objs.size := by rw [hC]; exact Nat.le_succ _
  have below : ∀ b, b < s2.heap.objs.size → b ≠ G.objs.size ∧ b ≠ s2.heap.objs.size := fun b hb => ⟨by rw [hC]; exact Nat.ne_of_lt (Nat.lt_succ_of_lt hb), Nat.ne_of_lt hb⟩
  have old : ∀ b o, s2.heap.get? b = some o → h₁.get? b = some o := fun b o e => hsb₁.extBut b o (below b (Heap.lt_size e)).1 (Heap.get?_push_of_some _ (hH3 ▸ Heap.get?_push_of_some _ e))
  have hacc : h₁.get? s2.heap.objs.size = some { cls := .type "list", data := .seq ([] : List Value).toArray 0 } := hsb₁.extBut _ _ hDC (Heap.get?_push_of_some _ (hH3 ▸ Heap.get?_push_size _ rfl))
  have st1 : tn 0 h₁ := T.keep _ _ _ st2 fun b _ o e => old b o e
  have stat : ∀ {H' : Hp} {ob : Obj}, (∀ b ∈ fp, H' b = none) → ∀ b ∈ fp, FpOk (cmpCx X (x :: ys) scope cl G.objs.size fp s2 H2) [(s2.heap.objs.size, ob)] H' b := fun {H' ob} hn b hb =>
    ⟨hn b hb, (below b (fo b hb)).1, fun z => by
      rcases List.mem_cons.mp (I2.stkSub b z) with e | e
      · exact (f2 b hb).2.1 e
      · exact (f2 b hb).2.2.1 e, .inl hb, fun y c e => (f2 b hb).2.2.2.2.1 y c (n.sub' y c e), fun p hp => by
      have hp' : p ∈ [(s2.heap.objs.size, ob)] := hp
      have e := List.mem_singleton.mp hp'
      subst e
      exact Ne.symm (below b (fo b hb)).2⟩
  have hfin : ∀ (s4 : Shared) (H3 : Hp) (zs : List V) (its : List Value) (k : Nat) (m' : Str → Option Value), Inv (cmpCx X (x :: ys) scope cl G.objs.size fp s2 H2) [(s2.heap.objs.size, { cls := .type "list", data := .seq its.toArray k })] (cst ix σ) H3 s4 → Vals zs its →
      zs.length ≤ sizeLine → Z zs H3 → RR (.ref s2.heap.objs.size) G.objs.size (.ok .next) s4 := by
    intro s4 H3 zs its k m' I4 rv hz q
    obtain ⟨m4, hn4, _⟩ := I4.loc
    obtain ⟨eD, nD, _, _, _⟩ := I4.pin (s2.heap.objs.size, { cls := .type "list", data := .seq its.toArray k }) (by show _ ∈ [] ++ [_]; simp)
    have nC : H3 G.objs.size = none := I4.free
    have hok : HOk X.prog X.w (upd H3 s2.heap.objs.size (.lst zs)) s4.heap := fun b u e => by
      by_cases hb : b = s2.heap.objs.size
      · subst hb
        rw [upd_same] at e
        cases e
        exact ⟨hz, its, k, rv, eD⟩
      · rw [upd_ne hb] at e
        exact (I4.hok b u e).stay (fun c w hc qq => qq) (fun c qq => by rw [upd_ne (ne_of_none qq nD)]; exact qq) fun c xs qq => by rw [upd_ne (ne_of_none qq nD)]; exact qq
    have un : Un (frs X.stack) fp H2 (upd H3 s2.heap.objs.size (.lst zs)) s2.heap s4.heap := by
      have u4 : Un (frs X.stack) fp H2 H3 s2.heap s4.heap := I4.base
      refine ⟨u4.keep, u4.slot, fun b o e nn hx => ?_, u4.there, fun b xs e => ?_, fun b o u e => ?_, fun b ps e => ?_⟩
      · rw [upd_ne (below b (Heap.lt_size e)).2]
        exact u4.free b o e nn hx
      · have z := u4.tups b xs e
        rw [upd_ne (ne_of_none z nD)]
        exact z
      · have z := u4.frzs b o u e
        rw [upd_ne (ne_of_none z nD)]
        exact z
      · obtain ⟨more, z⟩ := u4.tbls b ps e
        exact ⟨more, by rw [upd_ne (ne_of_none z nD)]; exact z⟩
    have I5 : Inv X pins σ (upd H3 s2.heap.objs.size (.lst zs)) s4 := I2.call' (ch := fp) I4.os un hok I4.bare (fun b hb => ⟨(f2 b hb).2.2.2.1, (f2 b hb).2.1, (f2 b hb).2.2.2.2.1, (f2 b hb).2.2.2.2.2⟩)
    exact hRR _ _ s4 H3 zs m4 I5 hn4 (I2.fpOk hCle (by rw [upd_ne (Ne.symm hDC)]; exact nC)) nD q
  have loop : ∀ s₃ : Shared, s₃ = { s2 with heap := h₁, toks := s2.toks + ([] : List (Str × Value)).length } →
      codeAny (model X.prog X.w) X.A (.compLoop (.ListComp elt [⟨.Name x px, iter, ifs, 0⟩] scope pos) 0 (.ref it) (.ref s2.heap.objs.size) (compEnvC scope cl G.objs.size X.env))
        (RR (.ref s2.heap.objs.size) G.objs.size) s₃ := by
    rintro s₃ rfl
    refine codeAny_compLoop_tests (fun m s' => ∃ (i : Nat) (zs : List V) (its : List Value) (k : Nat) (H' : Hp),
        Inv (cmpCx X (x :: ys) scope cl G.objs.size fp s2 H2) [(s2.heap.objs.size, { cls := .type "list", data := .seq its.toArray k })] (cst ix σ) H' s' ∧ Vals zs its ∧ tn i s'.heap ∧ (∀ b ∈ fp, H' b = none) ∧ W i m zs H') ?_ m0
      ⟨0, [], [], 0, H2, cmp_start n I2 f2 fo (Nat.le_refl _) hCle hDC old hns₁ hacc (fun v z => by cases z), .nil, st1, fun b hb => (f2 b hb).1, w0⟩
    rintro m s3 ⟨i, zs, its, k, H3, I3, rv, st3, fr3, w3⟩
    rcases turn i m zs H3 w3 with ⟨stop, hz, qn⟩ | ⟨go, hz, step⟩
    · refine nof (thn (T.done (cmpCx X (x :: ys) scope cl G.objs.size fp s2 H2) rfl rfl rfl hc i _ s3 _ H3 _ I3 (stat fr3) st3 stop) fun r s4 ⟨hr, I4⟩ => ?_)
      subst hr
      exact hfin s4 H3 zs its k (fun _ => none) I4 rv hz qn
    · refine nof (thn (T.item (cmpCx X (x :: ys) scope cl G.objs.size fp s2 H2) rfl rfl rfl hc i _ s3 _ H3 _ I3 (stat fr3) st3 go) fun r s4 ⟨u, hr, h4⟩ => ?_)
      subst hr
      have go_on : ∀ {s5 s7 : Shared} {y : V} {H5 H7 : Hp}, (∀ b ∈ fp, H5 b = none) → tn (i + 1) s5.heap → Inv (cmpCx X (x :: ys) scope cl G.objs.size fp s2 H2) ([(s2.heap.objs.size, { cls := .type "list", data := .seq its.toArray k })] ++ pinsAt fp s5.heap) ((cst ix σ).set 0 (some y)) H7 s7 →
          Inv (cmpCx X (x :: ys) scope cl G.objs.size fp s2 H2) [(s2.heap.objs.size, { cls := .type "list", data := .seq its.toArray k })] (cst ix σ) H7 s7 ∧ tn (i + 1) s7.heap ∧ (∀ b ∈ fp, H7 b = none) := by
        intro s5 s7 y H5 H7 fr5 st5 I7
        have pn : ∀ b o, b ∈ fp → s5.heap.get? b = some o → s7.heap.get? b = some o ∧ H7 b = none := fun b o hb e => by
          have z := I7.pin (b, o) (List.mem_append_right _ (List.mem_append_right _ (mem_pinsAt hb e)))
          exact ⟨z.1, z.2.1⟩
        refine ⟨(I7.weak (σ' := cst ix σ) (by simp) fun j v e => ?_).unpinned, T.keep _ _ _ st5 fun b hb o e => (pn b o hb e).1, fun b hb => ?_⟩
        · cases j with
          | zero =>
            have e' : (none : Option V) = some v := Option.some.inj e
            cases e'
          | succ j => simpa [cst] using e
        · obtain ⟨o, e, _⟩ := T.obj _ _ st5 b hb
          exact (pn b o hb e).2
      have e0 : (letOwnedTupleGo (.Name x px) (.ref it) u >>= fun _ => assign (.Name x px) (compEnvC scope cl G.objs.size X.env) u) = assign (.Name x px) (compEnvC scope cl G.objs.size X.env) u := rfl
      show wpAny _ _ (assign (.Name x px) (compEnvC scope cl G.objs.size X.env) u) _ _ s4
      rw [← e0]
      refine nof (wpAny_bind (thn h4 fun _ s5 ⟨y, H5, I5, r5, y5, st5, fr5⟩ => ?_))
      have I5' := I5.pinned (stat fr5) (T.obj _ _ st5)
      have lx : (relabel scope X.env).names.lookup x = some .local := lookup_relabel_local n.hx
      have pg : PG (cmpCx X (x :: ys) scope cl G.objs.size fp s2 H2) (.Name x px) (gName 0) := pg_name n.nd rfl (.inl lx) (.inr lx)
      refine thn (pg _ s5 _ H5 y u (fun σ' H' => σ' = (cst ix σ).set 0 (some y) ∧ H' = H5) I5' r5 ⟨rfl, rfl⟩) fun _ s6 ⟨σ6, H6, I6, e6, e6'⟩ => ?_
      subst e6 e6'
      refine nof (thn (ht _ _ _ _ _ s6 _ _ _ I6 (step y _ y5)) fun b s7 ⟨H7, I7, q7⟩ => ?_)
      cases b with
      | false =>
        rw [if_neg (by decide)] at q7 ⊢
        obtain ⟨m', hm, w7⟩ := q7
        obtain ⟨I8, st8, fr8⟩ := go_on fr5 st5 I7
        exact ⟨m', hm, i + 1, zs, its, k, H7, I8, rv, st8, fr8, w7⟩
      | true =>
        rw [if_pos rfl] at q7 ⊢
        refine nof (thn (he _ _ _ _ _ s7 _ _ _ I7 q7) fun v8 s8 ⟨z8, H8, I8, r8, m', hm, w8⟩ => ?_)
        obtain ⟨I9, st9, fr9⟩ := go_on fr5 st5 I8
        obtain ⟨eD, nD, neL, _, _⟩ := I9.pin (s2.heap.objs.size, { cls := .type "list", data := .seq its.toArray k }) (by show _ ∈ [] ++ [_]; simp)
        refine append_at eD (fun h' hs' hD' => ?_) (by rw [List.size_toArray, ← rv.length]; exact hz)
        have kp : ∀ b o, b ≠ s2.heap.objs.size → s8.heap.get? b = some o → h'.get? b = some o := fun b o hb e => hs'.extBut b o hb e
        have lt_cell : ∀ y c, cl.lookup y = some c → c ≠ s2.heap.objs.size := fun y c e => by
          obtain ⟨v, q⟩ := I2.cell y c (n.sub' y c e)
          exact Nat.ne_of_lt q.lt
        have nst : s2.heap.objs.size ∉ frs X.stack := fun z => by
          rcases List.mem_cons.mp (I2.stkSub _ z) with e | e
          · exact absurd (Nat.lt_of_lt_of_le I2.lt (by rw [← e]; exact Nat.le_refl _)) (Nat.lt_irrefl _)
          · exact I2.nofs (Nat.le_refl _) e
        have I10 : Inv (cmpCx X (x :: ys) scope cl G.objs.size fp s2 H2) [] (cst ix σ) H8 { s8 with heap := h', toks := s8.toks } :=
          (I9.pins_of (pins' := []) fun p hp => absurd hp (by simp)).turned (it := s2.heap.objs.size) kp nD neL (.inr (Nat.le_refl _)) lt_cell fun p hp => absurd (show p ∈ ([] : List (Addr × Obj)) from hp) (by simp)
        refine ⟨m', hm, i + 1, zs ++ [z8], its ++ [v8], k + 1, H8, I10.pins_of fun p hp => ?_, rv.append (.cons r8 .nil), T.keep _ _ _ st9 fun b hb o e => kp b o (below b (fo b hb)).2 e, fr9, w8⟩
        have e := List.mem_singleton.mp hp
        subst e
        refine ⟨?_, nD, hDC, nst, fun v z => by cases z⟩
        rw [← List.push_toArray]
        exact hD'
  exact codeAny_compStart_list (loop _ rfl) (T.self X.A 0 _ _ _ st1 (loop _ rfl))
theorem pe_comp {elt iter : Expr} {ifs : List Expr} {px pos : Pos} {wi : TI} {tt : TT} {te : TE} (n : CompNames X scope cl x ys ix) (hc : X.calm = true) (hi : PI X (.Name x px) iter wi)
    (ht : ∀ C fp s H, PTs (cmpCx X (x :: ys) scope cl C fp s H) ifs tt) (he : ∀ C fp s H, PE (cmpCx X (x :: ys) scope cl C fp s H) elt te)
    (hs : ∀ x, foldedSetIterable iter X.env x = pure x := by intro _; rfl) : PE X (.ListComp elt [⟨.Name x px, iter, ifs, 0⟩] scope pos) (tComp wi ix tt te) := by
  intro pins s σ H Q I h
  rw [eval_ListComp]
  refine wpAny_comprehension_free (use := none) rfl hs n.clos n.kind n.names' (thn (hi pins s σ H _ I h) fun v s1 h1 => thn h1 fun itv s2 h2 => ?_)
  obtain ⟨it, fp, tn, J, H2, e, I2, T, st2, f2, W, ⟨m0, w0⟩, turn⟩ := h2
  subst e
  refine comp_block (RR := fun acc C => compPost (model X.prog X.w) X.A X.xe none (EP X pins σ Q) acc C) (Z := fun zs H3 => ∀ p, H3 p = none → Q (.ref p) (upd H3 p (.lst zs))) n hc ht he I2 T st2 f2 w0 turn ?_
  intro D C s4 H3 zs m I4 hn4 fC nD q
  refine ⟨m, hn4, fun h' hs' => ?_⟩
  exact ⟨.ref D, _, I4.turned (t' := s4.toks) (fun b o hb e => hs'.extBut b o hb e) fC.1 fC.2.1 fC.2.2.2.1 fC.2.2.2.2.1 fC.2.2.2.2.2, rfl, q D nD⟩
end
end L2

namespace L2
open PySem PySem.Spec PyProof.Rows

/-! ### texts by their codes -/
abbrev tx (l : List Nat) : Str := ⟨l.toArray⟩
theorem tx_len (l : List Nat) : (tx l).length = l.length := by simp [tx, Str.length]
theorem tx_inj {l m : List Nat} (h : tx l = tx m) : l = m := by
  have h1 := congrArg (fun z : Str => z.cps.toList) h
  simpa using h1
theorem tx_add (l m : List Nat) : tx l ++ tx m = tx (l ++ m) := by
  show Str.append (tx l) (tx m) = tx (l ++ m)
  unfold Str.append
  simp [tx]
theorem v_tx {l m : List Nat} : (V.str (tx l) = V.str (tx m)) ↔ l = m := ⟨fun h => tx_inj (V.str.inj h), fun h => by rw [h]⟩
theorem dec_tx {l m : List Nat} : decide (V.str (tx l) = V.str (tx m)) = decide (l = m) := by
  by_cases h : l = m
  · rw [decide_eq_true h, decide_eq_true (v_tx.mpr h)]
  · rw [decide_eq_false h, decide_eq_false fun z => h (v_tx.mp z)]

def cutL {α : Type} (l : List α) (lo hi : Option Int) : List α := (l.drop (HT.sIx l.length 0 lo)).take (HT.sIx l.length l.length hi - HT.sIx l.length 0 lo)

theorem pick_run (l : List Nat) (i k : Nat) : ((List.range k).map fun (m : Nat) => i + m).filterMap (l[·]?) = (l.drop i).take k := by
  induction k generalizing i with
  | zero => simp
  | succ k ih =>
    rw [List.range_succ_eq_map, List.map_cons, List.map_map]
    have e : ((fun (m : Nat) => i + m) ∘ Nat.succ) = fun m => (i + 1) + m := by
      funext m
      simp only [Function.comp]
      omega
    rw [e]
    by_cases h : i < l.length
    · rw [List.filterMap_cons_some (b := l[i]) (by simp [h]), ih (i + 1), List.drop_eq_getElem_cons h, List.take_succ_cons]
    · rw [List.filterMap_cons_none (by simp; omega), ih (i + 1), List.drop_eq_nil_of_le (by omega), List.drop_eq_nil_of_le (by omega)]
      simp
theorem sliceRange_one (a b : Nat) : sliceRange (a : Int) (b : Int) 1 = (List.range (b - a)).map fun (m : Nat) => a + m := by
  unfold sliceRange
  have e : (if (1 : Int) > 0 then (if (a : Int) < b then ((b : Int) - a + 1 - 1) / 1 else 0) else (if (a : Int) > b then ((a : Int) - b - 1 - 1) / (-1) else 0)).toNat = b - a := by
    rw [if_pos (by decide)]
    split <;> (try simp only [Int.ediv_one]) <;> omega
  dsimp only
  rw [e]
  apply List.map_congr_left
  intro m _
  omega
theorem indices_one (lo hi : Option Int) (n : Nat) : Builtin.Str.strSliceIndices lo hi 1 n = (List.range (HT.sIx n n hi - HT.sIx n 0 lo)).map fun (m : Nat) => HT.sIx n 0 lo + m := by
  unfold Builtin.Str.strSliceIndices
  rw [← sliceRange_one]
  have e1 : ∀ d : Nat, ∀ v : Int, max 0 (min (if v < 0 then v + (n : Int) else v) (n : Int)) = ((HT.sIx n d (some v) : Nat) : Int) := fun d v => by
    rw [← HT.clip_eq v n d]
    split <;> omega
  cases lo with
  | none =>
    cases hi with
    | none => simp only [HT.sIx_none]; rfl
    | some v =>
      simp only [HT.sIx_none]
      show sliceRange 0 (max 0 (min (if v < 0 then v + (n : Int) else v) (n : Int))) 1 = _
      rw [e1 n v]; rfl
  | some u =>
    cases hi with
    | none =>
      simp only [HT.sIx_none]
      show sliceRange (max 0 (min (if u < 0 then u + (n : Int) else u) (n : Int))) (n : Int) 1 = _
      rw [e1 0 u]
    | some v =>
      show sliceRange (max 0 (min (if u < 0 then u + (n : Int) else u) (n : Int))) (max 0 (min (if v < 0 then v + (n : Int) else v) (n : Int))) 1 = _
      rw [e1 0 u, e1 n v]
theorem slice_tx (l : List Nat) (lo hi : Option Int) : Txt.slice (tx l) lo hi = tx (cutL l lo hi) := by
  have key : (Builtin.Str.strSliceIndices lo hi 1 l.length).filterMap (l[·]?) = cutL l lo hi := by
    rw [indices_one, pick_run]; rfl
  unfold Txt.slice
  rw [tx_len]
  split
  · rename_i h
    have h1 : (Builtin.Str.strSliceIndices lo hi 1 l.length).length = l.length := by simpa using h
    rw [indices_one, List.length_map, List.length_range] at h1
    have a := HT.sIx_le l.length l.length (Nat.le_refl _) hi
    have b := HT.sIx_le l.length 0 (Nat.zero_le _) lo
    have e : cutL l lo hi = l := by
      unfold cutL
      by_cases hn : l.length = 0
      · have : l = [] := List.length_eq_zero_iff.mp hn
        subst this
        simp
      · have e0 : HT.sIx l.length 0 lo = 0 := by omega
        rw [h1, e0]
        simp
    rw [e]
  · have e : (fun (i : Nat) => (tx l).cps[i]?) = fun (i : Nat) => l[i]? := by funext i; simp
    show (⟨((Builtin.Str.strSliceIndices lo hi 1 l.length).filterMap fun i => (tx l).cps[i]?).toArray⟩ : Str) = _
    rw [e, key]
theorem rev_tx (l : List Nat) : ((Builtin.Str.strSliceIndices none none (-1) l.length).filterMap fun (i : Nat) => (tx l).cps[i]?) = l.reverse := by
  have e : (fun (i : Nat) => (tx l).cps[i]?) = fun (i : Nat) => l[i]? := by funext i; simp
  rw [e]
  have e2 : Builtin.Str.strSliceIndices none none (-1) l.length = (List.range l.length).map fun (k : Nat) => l.length - 1 - k := by
    show sliceRange ((l.length : Int) - 1) (-1) (-1) = _
    unfold sliceRange
    have e3 : (if (-1 : Int) > 0 then (if (l.length : Int) - 1 < -1 then (-1 - ((l.length : Int) - 1) + (-1) - 1) / (-1) else 0) else (if (l.length : Int) - 1 > -1 then ((l.length : Int) - 1 - (-1) - (-1) - 1) / (- -1) else 0)).toNat = l.length := by
      rw [if_neg (by decide)]
      have : (- -1 : Int) = 1 := by decide
      rw [this]
      split <;> (try simp only [Int.ediv_one]) <;> omega
    dsimp only
    rw [e3]
    apply List.map_congr_left
    intro m hm
    have := List.mem_range.mp hm
    omega
  rw [e2]
  apply List.ext_getElem?
  intro i
  have : ((List.range l.length).map fun (k : Nat) => l.length - 1 - k).filterMap (fun (i : Nat) => l[i]?) = (List.range l.length).map fun (k : Nat) => (l[l.length - 1 - k]?).getD 0 := by
    have gen : ∀ ks : List Nat, (∀ k ∈ ks, k < l.length) → (ks.map fun (k : Nat) => l.length - 1 - k).filterMap (fun (i : Nat) => l[i]?) = ks.map fun (k : Nat) => (l[l.length - 1 - k]?).getD 0 := by
      intro ks
      induction ks with
      | nil => intro _; rfl
      | cons k ks ih =>
        intro hk
        have hk' := hk k List.mem_cons_self
        have hlt : l.length - 1 - k < l.length := by omega
        rw [List.map_cons, List.map_cons, List.filterMap_cons_some (b := l[l.length - 1 - k]) (by simp [hlt]), ih fun j hj => hk j (List.mem_cons_of_mem _ hj)]
        simp [hlt]
    exact gen _ fun k hk => List.mem_range.mp hk
  rw [this]
  by_cases h : i < l.length
  · rw [List.getElem?_map, List.getElem?_range h, List.getElem?_reverse h]
    have : l.length - 1 - i < l.length := by omega
    simp [this]
  · rw [List.getElem?_eq_none (by simpa using h), List.getElem?_eq_none (by simpa using h)]

section
variable {X : Cx} {tg : Expr}
def Its (l : List Nat) : It := ⟨fun i _ => i < l.length, fun i H v H' => H' = H ∧ ∃ c, l[i]? = some c ∧ v = .str (tx [c]), fun i _ => l.length ≤ i⟩
theorem turn_str {P : Program} {w : World} {K : PySem.W.Frag} {ty : String} (hty : ty = "str_ascii_iterator" ∨ ty = "str_iterator") (it : Addr) (l : List Nat) (t : Tok) : Turn P w K tg (Its l) [it] it (fun i h => h.IsStrIter it ty (tx l) t i) where
  mem := by simp
  obj := fun i h st b hb => by
    have e : b = it := by simpa using hb
    subst e
    obtain ⟨o, e, c, d⟩ := st
    exact ⟨o, e, fun v z => by rw [d] at z; cases z⟩
  keep := fun i h h' st k => let ⟨o, e, r⟩ := st; ⟨o, k it (by simp) o e, r⟩
  item := by
    intro X hP hw hK hc i pins s σ H E I hf st hg
    subst hP hw hK
    obtain ⟨f0, f1, f2, f3, f4, f5⟩ := hf it (by simp)
    have W : Walks X.prog X.w X.A it [it] [it] (tx l).cps.size (SignAt (tx l)) (fun i h => h.IsStrIter it ty (tx l) t i) := by
      rcases hty with rfl | rfl
      · exact Walks.strAscii (I.ok.hd hc) it (tx l) t
      · exact Walks.strWide (I.ok.hd hc) it (tx l) t
    refine W.item i s _ _ (by simpa using (show i < l.length from hg)) st fun v h' tk hv st' kk => ?_
    obtain ⟨c, t', hc', rfl⟩ := hv
    have I1 : Inv X pins σ H { s with heap := h', toks := tk } := I.turned (fun b o hb e => kk b o (by simpa using hb) e) f0 f1 f3 f4 f5
    obtain ⟨o, e, c0, d⟩ := id st'
    exact ⟨_, rfl, go_of (s := { s with heap := h', toks := tk }) e c0 d (by rcases hty with rfl | rfl <;> decide) ⟨.str (tx [c]), H, I1, ⟨t', rfl⟩, ⟨rfl, c, by simpa using hc', rfl⟩, st', fun b hb => (hf b hb).1⟩⟩
  done := by
    intro X hP hw hK hc i pins s σ H E I hf st hg
    subst hP hw hK
    obtain ⟨f0, f1, f2, f3, f4, f5⟩ := hf it (by simp)
    have hg' : (tx l).cps[i]? = none := by have : l.length ≤ i := hg; simpa using this
    rcases hty with rfl | rfl
    · exact wpAny_pyNext_ascii_end (I.ok.hd hc) st hg' fun h' eb => ⟨rfl, I.turned (t' := s.toks) (fun b o hb e => eb b o hb e) f0 f1 f3 f4 f5⟩
    · exact wpAny_pyNext_wide_end (I.ok.hd hc) st hg' fun h' eb => ⟨rfl, I.turned (t' := s.toks) (fun b o hb e => eb b o hb e) f0 f1 f3 f4 f5⟩
  self := fun A i s Q E st h => by
    rcases hty with rfl | rfl
    · exact wpAny_pyIter_striter_ascii st h
    · exact wpAny_pyIter_striter_wide st h
def iStr (tl : TE) : TI := fun σ H R => tl σ H fun x H1 => ∃ l, x = .str (tx l) ∧ R (Its l) H1
theorem pi_str {e : Expr} {tl : TE} (hl : PE X e tl) : PI X tg e (iStr tl) := by
  intro pins s σ H R I h
  refine thn (hl pins s σ H _ I h) fun v s1 ⟨x, H1, I1, r1, q1⟩ => ?_
  obtain ⟨l, e, q⟩ := q1
  subst e
  obtain ⟨t, rfl⟩ := r1
  have fin : ∀ (ty : String), (ty = "str_ascii_iterator" ∨ ty = "str_iterator") → PIE X pins σ tg R (.ref s1.heap.objs.size) { s1 with heap := s1.heap.push { cls := .type ty, data := .fields #[.str (tx l) t, .int 0 0] } } := fun ty hty => by
    refine ⟨s1.heap.objs.size, [s1.heap.objs.size], _, _, H1, rfl, I1.kept (t' := s1.toks) fun b o e => Heap.get?_push_of_some _ e, turn_str hty _ l t, ⟨_, Heap.get?_push_size _ rfl, rfl, rfl⟩, fun b hb => ?_, q⟩
    have e : b = s1.heap.objs.size := by simpa using hb
    subst e
    exact I1.fpOk (Nat.le_refl _) (I1.hok.fresh (Nat.le_refl _))
  cases ha : (tx l).cps.all (· < 128)
  · exact wpAny_pyIter_wide ha (fin _ (.inr rfl))
  · exact wpAny_pyIter_ascii ha (fin _ (.inl rfl))
theorem for_str {l : List Nat} {g : TG} {tb : TS} {D : Ends} {σ : St} {H : Hp} (Pv : Nat → St → Hp → Prop) (h0 : Pv 0 σ H)
    (hs : ∀ i c σ H, l[i]? = some c → Pv i σ H → g (.str (tx [c])) σ H fun σ2 H2 => tb { D with nx := Pv (i + 1), ct := Pv (i + 1), bk := D.nx } σ2 H2) (hd : ∀ σ H, Pv l.length σ H → D.nx σ H) :
    ∃ W : Nat → Nat → St → Hp → Prop, (∃ m, W 0 m σ H) ∧ ∀ i m σ H, W i m σ H →
      ((Its l).stop i H ∧ D.nx σ H) ∨ ((Its l).go i H ∧ ∃ N : St → Hp → Prop, (∀ σ' H', N σ' H' → ∃ m', m' < m ∧ W (i + 1) m' σ' H') ∧ ∀ x H', (Its l).yld i H x H' → g x σ H' fun σ2 H2 => tb { D with nx := N, ct := N, bk := D.nx } σ2 H2) := by
  refine ⟨fun i m σ H => m = l.length - i ∧ i ≤ l.length ∧ Pv i σ H, ⟨l.length, by simp, Nat.zero_le _, h0⟩, ?_⟩
  rintro i m σ H ⟨rfl, hi, p⟩
  by_cases hlt : i < l.length
  · refine .inr ⟨hlt, Pv (i + 1), fun σ' H' p' => ⟨l.length - (i + 1), by omega, rfl, hlt, p'⟩, fun x H' y => ?_⟩
    obtain ⟨e, c, hc, e2⟩ := y
    subst e e2
    exact hs i c σ _ hc p
  · have e : i = l.length := by omega
    subst e
    exact .inl ⟨Nat.le_refl _, hd σ H p⟩

/-! ### comprehensions, the forms one uses: W by the turn and what is gathered -/
theorem comp_str {l : List Nat} {σ : St} {ix : List Nat} {tt : TT} {te : TE} {H : Hp} {Z : List V → Hp → Prop} (hl : l.length ≤ sizeLine) (Pv : Nat → List V → Hp → Prop) (h0 : Pv 0 [] H)
    (hs : ∀ i c ys H (N : List V → Hp → Prop), l[i]? = some c → ys.length ≤ i → Pv i ys H → (∀ ys' H', ys'.length ≤ i + 1 → Pv (i + 1) ys' H' → N ys' H') →
      tt ((cst ix σ).set 0 (some (.str (tx [c])))) H fun b H4 => if b = true then te ((cst ix σ).set 0 (some (.str (tx [c])))) H4 fun v H5 => N (ys ++ [v]) H5 else N ys H4)
    (hd : ∀ ys H, ys.length ≤ l.length → Pv l.length ys H → Z ys H) :
    ∃ W : Nat → Nat → List V → Hp → Prop, (∃ m, W 0 m [] H) ∧ ∀ i m ys H2, W i m ys H2 →
      ((Its l).stop i H2 ∧ ys.length ≤ sizeLine ∧ Z ys H2) ∨
      ((Its l).go i H2 ∧ ys.length ≤ sizeLine ∧ ∀ x H3, (Its l).yld i H2 x H3 → tt ((cst ix σ).set 0 (some x)) H3 fun b H4 =>
        if b = true then te ((cst ix σ).set 0 (some x)) H4 fun v H5 => ∃ m', m' < m ∧ W (i + 1) m' (ys ++ [v]) H5 else ∃ m', m' < m ∧ W (i + 1) m' ys H4) := by
  refine ⟨fun i m ys H => m = l.length - i ∧ i ≤ l.length ∧ ys.length ≤ i ∧ Pv i ys H, ⟨l.length, by simp, Nat.zero_le _, Nat.le_refl _, h0⟩, ?_⟩
  rintro i m ys H ⟨rfl, hi, hy, p⟩
  by_cases hlt : i < l.length
  · refine .inr ⟨hlt, by omega, fun x H' y => ?_⟩
    obtain ⟨e, c, hc, e2⟩ := y
    subst e e2
    exact hs i c ys _ (fun ys' H5 => ∃ m', m' < l.length - i ∧ m' = l.length - (i + 1) ∧ i + 1 ≤ l.length ∧ ys'.length ≤ i + 1 ∧ Pv (i + 1) ys' H5) hc hy p fun ys' H' h1 h2 => ⟨l.length - (i + 1), by omega, rfl, hlt, h1, h2⟩
  · have e : i = l.length := by omega
    subst e
    exact .inl ⟨Nat.le_refl _, by omega, hd ys H hy p⟩
theorem comp_range {lo : Int} {n : Nat} {σ : St} {ix : List Nat} {tt : TT} {te : TE} {H : Hp} {Z : List V → Hp → Prop} (hl : n ≤ sizeLine) (Pv : Nat → List V → Hp → Prop) (h0 : Pv 0 [] H)
    (hs : ∀ i ys H (N : List V → Hp → Prop), i < n → ys.length ≤ i → Pv i ys H → (∀ ys' H', ys'.length ≤ i + 1 → Pv (i + 1) ys' H' → N ys' H') →
      tt ((cst ix σ).set 0 (some (.int (lo + i)))) H fun b H4 => if b = true then te ((cst ix σ).set 0 (some (.int (lo + i)))) H4 fun v H5 => N (ys ++ [v]) H5 else N ys H4)
    (hd : ∀ ys H, ys.length ≤ n → Pv n ys H → Z ys H) :
    ∃ W : Nat → Nat → List V → Hp → Prop, (∃ m, W 0 m [] H) ∧ ∀ i m ys H2, W i m ys H2 →
      ((Itr lo n).stop i H2 ∧ ys.length ≤ sizeLine ∧ Z ys H2) ∨
      ((Itr lo n).go i H2 ∧ ys.length ≤ sizeLine ∧ ∀ x H3, (Itr lo n).yld i H2 x H3 → tt ((cst ix σ).set 0 (some x)) H3 fun b H4 =>
        if b = true then te ((cst ix σ).set 0 (some x)) H4 fun v H5 => ∃ m', m' < m ∧ W (i + 1) m' (ys ++ [v]) H5 else ∃ m', m' < m ∧ W (i + 1) m' ys H4) := by
  refine ⟨fun i m ys H => m = n - i ∧ i ≤ n ∧ ys.length ≤ i ∧ Pv i ys H, ⟨n, by simp, Nat.zero_le _, Nat.le_refl _, h0⟩, ?_⟩
  rintro i m ys H ⟨rfl, hi, hy, p⟩
  by_cases hlt : i < n
  · refine .inr ⟨hlt, by omega, fun x H' y => ?_⟩
    obtain ⟨e, e2⟩ := y
    subst e e2
    exact hs i ys _ (fun ys' H5 => ∃ m', m' < n - i ∧ m' = n - (i + 1) ∧ i + 1 ≤ n ∧ ys'.length ≤ i + 1 ∧ Pv (i + 1) ys' H5) hlt hy p fun ys' H' h1 h2 => ⟨n - (i + 1), by omega, rfl, hlt, h1, h2⟩
  · have e : i = n := by omega
    subst e
    exact .inl ⟨Nat.le_refl _, by omega, hd ys H hy p⟩

/-! ### operations on texts -/
theorem op_addS : OpR X (binaryOp .Add) (fun x y H Q => ∃ l m, x = .str (tx l) ∧ y = .str (tx m) ∧ l.length + m.length ≤ sizeLine ∧ Q (.str (tx (l ++ m))) H) := by
  intro pins s σ H x y v u Q I rx ry h
  obtain ⟨l, m, rfl, rfl, hz, q⟩ := h
  refine op_add_str pins s σ H _ _ v u Q I rx ry ⟨tx l, tx m, rfl, rfl, by rw [tx_len, tx_len]; exact hz, ?_⟩
  rw [tx_add]; exact q
theorem op_inS : OpR X (compareOp .In) (fun x y H Q => ∃ c l, x = .str (tx [c]) ∧ y = .str (tx l) ∧ Q (.bl (decide (c ∈ l))) H) := by
  intro pins s σ H x y v u Q I rx ry h
  obtain ⟨c, l, rfl, rfl, q⟩ := h
  refine op_in_str pins s σ H _ _ v u Q I rx ry ⟨tx [c], tx l, rfl, rfl, ?_⟩
  rw [StrLaws.found_one]
  simpa using q
def rIxS' : R2 := fun x y H Q => ∃ l i c, x = .str (tx l) ∧ y = .int i ∧ l.length ≤ sizeLine ∧ atI l i = some c ∧ Q (.str (tx [c])) H
theorem ix_strS : IxR X rIxS' := by
  intro value slice pins s σ H x y v u Q I rx ry h hs
  obtain ⟨l, i, c, rfl, rfl, hz, ha, q⟩ := h
  exact ix_str value slice pins s σ H _ _ v u Q I rx ry ⟨tx l, i, c, rfl, rfl, by rw [tx_len]; exact hz, by simpa using ha, q⟩ hs
def rSlS : V → Option Int → Option Int → Hp → VK → Prop := fun x lo hi H Q => ∃ l, x = .str (tx l) ∧ l.length ≤ sizeLine ∧ Q (.str (tx (cutL l lo hi))) H
theorem sl_strS : SlR X rSlS := by
  intro pins s σ H x v vl vu lo hi sl Q I rx hs pl pu h
  obtain ⟨l, rfl, hz, q⟩ := h
  obtain ⟨t, rfl⟩ := rx
  refine ⟨"str", _, F.slot_str_getitem.lookup, typeIs_str _ _ _, ?_⟩
  have fin : ∀ t' k, EP X pins σ Q (.str (Txt.slice (tx l) lo hi) t') { s with toks := k } := fun t' k => by
    rw [slice_tx]
    exact ⟨.str (tx (cutL l lo hi)), H, I.tok k, ⟨t', rfl⟩, q⟩
  have sz : (Txt.slice (tx l) lo hi).length ≤ sizeLine := Nat.le_trans (Txt.slice_le _ _ _) (by rw [tx_len]; exact hz)
  obtain ⟨o, e1, e2, e3⟩ := hs
  cases pl with
  | none =>
    cases pu with
    | none => exact wpAny_getItem_str_slice (l := none) (u := none) (st := none) ⟨o, e1, e2, e3⟩ rfl (post_val_or_str ⟨sz, fin⟩)
    | int j uj => exact wpAny_getItem_str_slice (l := none) (u := some (j, uj)) (st := none) ⟨o, e1, e2, e3⟩ rfl (post_val_or_str ⟨sz, fin⟩)
  | int i ui =>
    cases pu with
    | none => exact wpAny_getItem_str_slice (l := some (i, ui)) (u := none) (st := none) ⟨o, e1, e2, e3⟩ rfl (post_val_or_str ⟨sz, fin⟩)
    | int j uj => exact wpAny_getItem_str_slice (l := some (i, ui)) (u := some (j, uj)) (st := none) ⟨o, e1, e2, e3⟩ rfl (post_val_or_str ⟨sz, fin⟩)
/-- e[::-1] -/
def tRev (te ts : TE) : TE := fun σ H Q => te σ H fun x H1 => ts σ H1 fun y H2 => ∃ l, x = .str (tx l) ∧ y = .int (-1) ∧ l.length ≤ sizeLine ∧ Q (.str (tx l.reverse)) H2
theorem pe_rev {e st : Expr} {te ts : TE} {p2 pos : Pos} (he : PE X e te) (hst : PE X st ts) : PE X (.Subscript e (.Slice none none (some st) p2) pos) (tRev te ts) := by
  intro pins s σ H Q I h
  refine Subscript_ (thn (he pins s σ H _ I h) fun v s1 ⟨x, H1, I1, r1, q1⟩ => ?_)
  refine wpAny_Slice ?_
  rw [evalPart_none]
  refine wpAny_pure ?_
  refine wpAny_pure ?_
  rw [evalPart_some]
  refine thn (hst pins s1 σ H1 _ I1 q1) fun w s2 ⟨y, H2, I2, r2, q2⟩ => ?_
  obtain ⟨l, rfl, rfl, hz, q⟩ := q2
  obtain ⟨t, rfl⟩ := r1
  obtain ⟨u, rfl⟩ := r2
  have I3 : Inv X pins σ H2 { s2 with heap := s2.heap.push { cls := .type "slice", data := .fields #[.none, .none, .int (-1) u] } } := I2.kept (t' := s2.toks) fun b ob q => Heap.get?_push_of_some _ q
  show wpAny (model X.prog X.w) X.A (subscriptTail e (.Slice none none (some st) p2) (.str (tx l) t) (.ref s2.heap.objs.size)) (EP X pins σ Q) X.xe { s2 with heap := s2.heap.push { cls := .type "slice", data := .fields #[.none, .none, .int (-1) u] } }
  refine tail_any (ops := [.ref s2.heap.objs.size, .str (tx l) t]) (typeIs_str _ _ _) F.slot_str_getitem.lookup ?_ (by with_unfolding_all rfl)
  refine wpAny_getItem_str_slice (l := none) (u := none) (st := some (-1, u)) ⟨_, Heap.get?_push_size _ rfl, rfl, rfl⟩ (show ((-1 : Int) == 0) = false by decide) ?_
  have e1 : (slicePicked (tx l) none none (some (-1, u))).filterMap (fun (i : Nat) => (tx l).cps[i]?) = l.reverse := by
    unfold slicePicked
    rw [tx_len]
    exact rev_tx l
  unfold sliceMade
  rw [if_neg (by
    show ¬ ((((-1 : Int) == 1) && _) = true)
    rw [show ((-1 : Int) == 1) = false by decide]
    simp)]
  rw [e1]
  exact ⟨by show (tx l.reverse).length ≤ sizeLine; rw [tx_len, List.length_reverse]; exact hz, .str (tx l.reverse), H2, I3.tok _, ⟨_, rfl⟩, q⟩
end
end L2

namespace L2
open PySem PySem.Spec PyProof.Rows

def repL (l : List Nat) (k : Nat) : List Nat := (List.replicate k l).flatten
theorem repL_len (l : List Nat) (k : Nat) : (repL l k).length = k * l.length := by
  unfold repL
  induction k with
  | zero => simp
  | succ k ih => rw [List.replicate_succ, List.flatten_cons, List.length_append, ih, Nat.succ_mul]; omega
theorem repL_mem {l : List Nat} {k : Nat} {c : Nat} (h : c ∈ repL l k) : c ∈ l := by
  unfold repL at h
  obtain ⟨m, hm, hc⟩ := List.mem_flatten.mp h
  rw [List.eq_of_mem_replicate hm] at hc
  exact hc
theorem foldl_cps (a : Array Nat) : ∀ (k : Nat) (acc : Array Nat), ((List.replicate k a).foldl (· ++ ·) acc).toList = acc.toList ++ (List.replicate k a.toList).flatten
  | 0, acc => by simp
  | k + 1, acc => by
    rw [List.replicate_succ, List.foldl_cons, foldl_cps a k, List.replicate_succ, List.flatten_cons]
    simp
section
variable {X : Cx}
theorem op_mulS : OpR X (binaryOp .Mult) (fun x y H Q => ∃ (l : List Nat) (k : Int), x = .str (tx l) ∧ y = .int k ∧ 0 ≤ k ∧ k ≤ 1000000 ∧ l.length * k.toNat ≤ sizeLine ∧ Q (.str (tx (repL l k.toNat))) H) := by
  intro pins s σ H x y v u Q I rx ry h
  obtain ⟨l, k, rfl, rfl, h0, h1, hz, q⟩ := h
  obtain ⟨t, rfl⟩ := rx
  obtain ⟨t', rfl⟩ := ry
  have hs : (sizeLine : Nat) = 16777216 := sizeLine_eq
  refine P.mul_str ?_ (fun hk _ => ?_) (fun _ _ => ?_) ?_
  · have a1 : ¬ k < -(2 ^ 63 : Int) := by omega
    have a2 : ¬ k ≥ 2 ^ 63 := by omega
    rw [decide_eq_false a1, decide_eq_false a2]; rfl
  · have hk1 : 0 < k := by omega
    have hb : ((tx l).length : Int) * k ≤ 2 ^ 63 - 1 := by
      rw [tx_len]
      have e : (l.length : Int) * k = ((l.length * k.toNat : Nat) : Int) := by
        rw [Int.natCast_mul, Int.toNat_of_nonneg h0]
      rw [e]
      omega
    have := Int.le_ediv_of_mul_le hk1 hb
    omega
  · rw [tx_len]
    unfold Builtin.Str.tooLong
    exact decide_eq_false (by omega)
  · by_cases hk : k < 1
    · rw [if_pos hk]
      have e : k = 0 := by omega
      subst e
      exact ⟨by decide, .str (tx []), H, I.tok _, ⟨_, rfl⟩, q⟩
    · rw [if_neg hk]
      by_cases hc : (k == 1 || (tx l).length == 0) = true
      · rw [if_pos hc]
        refine ⟨.str (tx l), H, I, ⟨t, rfl⟩, ?_⟩
        have e : repL l k.toNat = l := by
          rcases Bool.or_eq_true _ _ |>.mp hc with z | z
          · have : k = 1 := eq_of_beq z
            subst this
            simp [repL]
          · have : l.length = 0 := by rw [← tx_len]; exact eq_of_beq z
            have : l = [] := List.length_eq_zero_iff.mp this
            subst this
            unfold repL
            simp
        rw [e] at q; exact q
      · rw [if_neg hc]
        have e : (⟨(List.replicate k.toNat (tx l).cps).foldl (· ++ ·) #[]⟩ : Str) = tx (repL l k.toNat) := by
          have z := foldl_cps (tx l).cps k.toNat #[]
          apply congrArg Str.mk
          apply Array.toList_inj.mp
          rw [z]
          simp [repL]
        rw [e]
        refine ⟨?_, .str (tx (repL l k.toNat)), H, I.tok _, ⟨_, rfl⟩, q⟩
        rw [tx_len, repL_len]
        rw [Nat.mul_comm]; exact hz

/-! ### ''.join(texts) -/
theorem strsAre_of : ∀ {zs : List (List Nat)} {us : List Value}, Vals (zs.map fun z => V.str (tx z)) us → StrsAre us (zs.map tx)
  | [], _, r => by
    rw [List.map_nil] at r
    cases r
    exact .nil
  | z :: zs, _, r => by
    rw [List.map_cons] at r
    cases r with
    | cons r1 r2 =>
      obtain ⟨t, e⟩ := r1
      subst e
      exact .cons _ t (strsAre_of r2)
theorem glue_foldl : ∀ (zs : List (List Nat)) (acc : List Nat), ((zs.map tx).foldl (fun a p => a ++ (tx []).cps ++ p.cps) acc.toArray) = (acc ++ zs.flatten).toArray
  | [], acc => by simp
  | z :: zs, acc => by
    rw [List.map_cons, List.foldl_cons]
    have e : acc.toArray ++ (tx []).cps ++ (tx z).cps = (acc ++ z).toArray := by simp
    rw [e, glue_foldl zs (acc ++ z), List.flatten_cons, List.append_assoc]
theorem join_tx (zs : List (List Nat)) : Txt.join (tx []) (zs.map tx) = tx zs.flatten := by
  show Builtin.Str.glued (tx []) (zs.map tx) = tx zs.flatten
  unfold Builtin.Str.glued
  cases zs with
  | nil => rfl
  | cons z zs =>
    apply congrArg Str.mk
    show ((zs.map tx).foldl (fun acc p => acc ++ (tx []).cps ++ p.cps) z.toArray) = _
    rw [glue_foldl, List.flatten_cons]
theorem mt_joinS : MtR X "str.join" (fun x vs H Q => ∃ (p : Addr) (zs : List (List Nat)), x = .str (tx []) ∧ vs = [.ref p] ∧ SqL X.K H p (zs.map fun z => V.str (tx z)) ∧ (zs.map (·.length)).sum ≤ 16777216 ∧ Q (.str (tx zs.flatten)) H) := by
  intro pins s σ H x xs v us Q I rx rs h
  obtain ⟨p, zs, rfl, rfl, hq, hz, q⟩ := h
  obtain ⟨t, rfl⟩ := rx
  obtain ⟨u, rfl, ru⟩ := vals1 rs
  cases ru
  obtain ⟨its, rv, pl, _⟩ := I.list hq
  refine join_list (ys := zs.map tx) pl.isList (by simpa using strsAre_of rv) ?_ fun t' k => ?_
  · rw [List.map_map, List.length_map]
    have e : ((fun z : Str => z.length) ∘ tx) = fun z : List Nat => z.length := by funext z; exact tx_len z
    rw [show (List.map ((fun x => x.length) ∘ tx) zs) = zs.map (·.length) from by rw [e], tx_len]
    simpa using hz
  · rw [join_tx]
    exact ⟨.str (tx zs.flatten), H, I.tok k, ⟨t', rfl⟩, q⟩

/-! ### isinstance(x, T), all(bools) -/
theorem call_isT : CallR X (.builtin "isinstance") (fun xs H Q => ∃ x T t b, xs = [x, .ty T] ∧ TyOf X.K H x t ∧ PySem.W.kitOne X.K t (.type T) = some b ∧ Q (.bl b) H) := by
  intro pins s σ H xs us Q I r h
  obtain ⟨x, T, t, b, rfl, ty, e, q⟩ := h
  obtain ⟨u, w', rfl, ru, rw'⟩ := vals2 r
  obtain rfl : w' = Value.type T := rw'
  exact isinst_ok I ru ty e fun tk => ⟨.bl b, H, I.tok tk, rfl, q⟩
theorem vals_bl : ∀ {bs : List Bool} {us : List Value}, Vals (bs.map V.bl) us → us = bs.map Value.bool
  | [], _, r => by
    rw [List.map_nil] at r
    cases r
    rfl
  | b :: bs, _, r => by
    rw [List.map_cons] at r
    cases r with
    | cons r1 r2 =>
      have e : _ = Value.bool b := r1
      rw [e, vals_bl r2, List.map_cons]
theorem call_allB (hc : X.calm = true) : CallR X (.builtin "all") (fun xs H Q => ∃ (p : Addr) (bs : List Bool), xs = [.ref p] ∧ SqL X.K H p (bs.map V.bl) ∧ Q (.bl (bs.all id)) H) := by
  intro pins s σ H xs us Q I r h
  obtain ⟨p, bs, rfl, hq, q⟩ := h
  obtain ⟨u, rfl, ru⟩ := vals1 r
  cases ru
  obtain ⟨its, rv, pl, _⟩ := I.list hq
  have e := vals_bl rv
  subst e
  have hlt : p < s.heap.objs.size := by obtain ⟨o, _, e, _⟩ := pl; exact Heap.lt_size e
  refine call_all_walk (wpAny_pyIter_list pl.isList ?_)
  refine ⟨s.heap.objs.size, [s.heap.objs.size, p], [s.heap.objs.size], _, _, _, fun i => bs.getD i true, rfl, Walks.list (show X.A.in1.handled = none from I.ok.hd hc) _ p (Nat.ne_of_lt hlt) (bs.map Value.bool).toArray, ⟨⟨_, Heap.get?_push_size _ rfl, rfl, rfl⟩, pl.isList.push _⟩, ?_, ?_⟩
  · intro i v s' Q' E' hP hQ'
    have hv : bs[i]?.map Value.bool = some v := by simpa using hP
    cases e : bs[i]? with
    | none => rw [e] at hv; cases hv
    | some b =>
      rw [e] at hv
      have hv' : Value.bool b = v := Option.some.inj hv
      subst hv'
      have e2 : bs.getD i true = b := by rw [List.getD_eq_getElem?_getD, e]; rfl
      have hQ2 : Q' (bs.getD i true) s' := hQ'
      rw [e2] at hQ2
      exact wpAny_truthy_bool hQ2
  · intro h' tk kk
    have e3 : (List.range (bs.map Value.bool).toArray.size).all (fun i => bs.getD i true) = bs.all id := by
      rw [List.size_toArray, List.length_map]
      clear hq q rv pl kk
      apply Bool.eq_iff_iff.mpr
      rw [List.all_eq_true, List.all_eq_true]
      constructor
      · intro h b hb
        obtain ⟨i, hi, e⟩ := List.getElem_of_mem hb
        have := h i (List.mem_range.mpr hi)
        rw [List.getD_eq_getElem?_getD, List.getElem?_eq_getElem hi] at this
        simpa [e] using this
      · intro h i hi
        have hi' := List.mem_range.mp hi
        rw [List.getD_eq_getElem?_getD, List.getElem?_eq_getElem hi']
        exact h _ (List.getElem_mem hi')
    rw [e3]
    refine ⟨.bl (bs.all id), H, I.kept (h' := h') (t' := tk) fun b o e => kk b o (fun z => ?_) (Heap.get?_push_of_some _ e), rfl, q⟩
    have z' := List.mem_singleton.mp z
    rw [z'] at e
    exact absurd (Heap.lt_size e) (Nat.lt_irrefl _)

/-! ### lists compared -/
def eqVs (xs ys : List V) : Bool := decide (xs.length = ys.length) && (List.range xs.length).all fun j => eqV (xs.getD j .non) (ys.getD j .non)
def rEqL (K : PySem.W.Frag) : R2 := fun x y H Q => ∃ p q xs ys, x = .ref p ∧ y = .ref q ∧ SqL K H p xs ∧ SqL K H q ys ∧ xs.all flatV = true ∧ ys.all flatV = true ∧ Q (.bl (eqVs xs ys)) H
theorem Vals.at {xs : List V} {us : List Value} (r : Vals xs us) {j : Nat} (h : j < us.toArray.size) : RelV (xs.getD j .non) us.toArray[j] ∧ xs[j]? = some (xs.getD j .non) := by
  have hj : j < xs.length := by rw [r.length]; simpa using h
  have e : xs[j]? = some xs[j] := List.getElem?_eq_getElem hj
  obtain ⟨u, hu, ru⟩ := r.get e
  have e2 : xs.getD j .non = xs[j] := by rw [List.getD_eq_getElem?_getD, e]; rfl
  have e3 : us.toArray[j] = u := by
    have : us[j]? = some us.toArray[j] := by simp at h ⊢
    rw [hu] at this
    exact (Option.some.inj this).symm
  rw [e2, e3]
  exact ⟨ru, e⟩
theorem op_eqL (hu : X.A.units < cLine) : OpR X (compareOp .Eq) (rEqL X.K) := by
  intro pins s σ H x y v u Q I rx ry h
  obtain ⟨p, q, xs, ys, rfl, rfl, hp, hq, fx, fy, k⟩ := h
  cases rx
  cases ry
  obtain ⟨its, r1, p1, _⟩ := I.list hp
  obtain ⟨jts, r2, p2, _⟩ := I.list hq
  by_cases hl : xs.length = ys.length
  · refine SeqAt.eq_listAt (e := fun j => eqV (xs.getD j .non) (ys.getD j .non)) p1.isList p2.isList (by simp; rw [← r1.length, ← r2.length]; exact hl) hu (fun j h1 h2 => ?_) ?_
    · obtain ⟨a1, b1⟩ := r1.at h1
      obtain ⟨a2, b2⟩ := r2.at h2
      exact eqAt_V a1 a2 (List.all_eq_true.mp fx _ (List.mem_of_getElem? b1)) (List.all_eq_true.mp fy _ (List.mem_of_getElem? b2))
    · refine ⟨.bl _, H, I, rfl, ?_⟩
      have e : its.toArray.size = xs.length := by rw [List.size_toArray, r1.length]
      rw [e]
      unfold eqVs at k
      rw [decide_eq_true hl, Bool.true_and] at k
      exact k
  · refine SeqAt.eq_list_lengthsAt p1.isList p2.isList ?_ hu ?_
    · rw [List.size_toArray, List.size_toArray, ← r1.length, ← r2.length]
      simpa using hl
    · refine ⟨.bl false, H, I, rfl, ?_⟩
      unfold eqVs at k
      rw [decide_eq_false hl, Bool.false_and] at k
      exact k
theorem eqVs_nil (xs : List V) : eqVs xs [] = xs.isEmpty := by
  cases xs with
  | nil => rfl
  | cons a r => simp [eqVs]

/-! ### a chain of three -/
def tChain3 (r r' r'' : R2) (ta tb tc td : TE) : TE := fun σ H Q => ta σ H fun x H1 => tb σ H1 fun y H2 => r x y H2 fun z H3 => ∃ k, z = .bl k ∧
  (if k = true then tc σ H3 fun w' H4 => r' y w' H4 fun z2 H5 => ∃ k2, z2 = .bl k2 ∧ (if k2 = true then td σ H5 fun w2 H6 => r'' w' w2 H6 Q else Q (.bl false) H5) else Q (.bl false) H3)
end
end L2

namespace L2
open PySem PySem.Spec PyProof.Rows

/-- a def of the text, by its promise -/
structure Df (P : Program) (w : World) (K : PySem.W.Frag) (mg : Str → Option Value) (base : Heap) (k : Nat) (x : Str) (ps : List Str) (sp : Sp) : Prop where
  ex : ∃ (f : Addr) (fd : FuncData), FnOk P w K mg base CX0 k f fd ps sp ∧ mg x = some (.ref f) ∧ PySem.W.keepIn K (.ref f) = true ∧ Binds K fd ps []
/-- what the top has of it -/
structure At (K : PySem.W.Frag) (mg : Str → Option Value) (x : Str) (st : Stmt) (ps : List Str) : Prop where
  ex : ∃ (f : Addr) (fd : FuncData), Fun K x x st f fd ∧ mg x = some (.ref f) ∧ ∀ us : List Value, us.length = ps.length → bindArgs fd ⟨us, []⟩ = pure (ps.zip us)
section
variable {P : Program} {w : World} {K : PySem.W.Frag} {mg : Str → Option Value} {base : Heap}
theorem Df.mono {j k : Nat} {x : Str} {ps : List Str} {sp : Sp} (d : Df P w K mg base j x ps sp) (h : j ≤ k) : Df P w K mg base k x ps sp :=
  let ⟨f, fd, a, b⟩ := d.ex
  ⟨f, fd, a.mono h, b⟩
theorem At.df {k : Nat} {x : Str} {st : Stmt} {ps : List Str} {sp : Sp} (a : At K mg x st ps) (h : ∀ f fd, Fun K x x st f fd → FnOk P w K mg base CX0 k f fd ps sp) : Df P w K mg base k x ps sp :=
  let ⟨f, fd, F, m, b⟩ := a.ex
  ⟨f, fd, h f fd F, m, F.kp, .all b⟩
theorem At.mk' {x : Str} {st : Stmt} {ps : List Str} {h : Heap} {f : Addr} {oc : Value} {od an : Option Addr} {osl : Array (Option Value)} {kV doc pm cdv ct : Value} (X : K.In h) (G : h.Ns mainGlobals mg)
    (a : PySem.W.nsIn K mainGlobals x = some (some (.ref f)))
    (l : K.lookup f = some ⟨oc, od, .func (PySem.W.fnOf x x (defArgs st) (defBody st) (defScope st) .none kV doc pm an cdv ct), osl⟩)
    (c : PySem.W.codeIn K cdv x = true) (k : PySem.W.keepIn K (.ref f) = true)
    (b : ∀ (kV doc pm : Value) (an : Option Addr) (cdv ct : Value) (us : List Value), us.length = ps.length → bindArgs (PySem.W.fnOf x x (defArgs st) (defBody st) (defScope st) .none kV doc pm an cdv ct) ⟨us, []⟩ = pure (ps.zip us)) : At K mg x st ps :=
  ⟨f, _, fun_mk l c k, PySem.W.mg_of X G a, b kV doc pm an cdv ct⟩
end
section
variable {X : Cx} {k : Nat} {x : Str} {ps : List Str} {sp : Sp} {e : Expr} {es : List Expr} {p pos : Pos} {t : TA}
theorem pe_df {j : Nat} (d : Df X.prog X.w X.K X.mg X.base j x ps sp) (hr : Room k X.A) (hg : Gl X x) (ha : PA X (e :: es) t) (hjk : j ≤ k := by decide) (hdb : (x == ("__debug__" : Str)) = false := by decide) (he : starEach (e :: es) X.env = (false, eval e X.env) :: starEach es X.env := by rfl)
    (hpl : (backTo pos (starEach es X.env)).any (·.1) = false := by rfl) : PE X (.Call (.Name x p) (e :: es) [] pos) (tCall sp [] E0 t) := by
  obtain ⟨f, fd, F, hm, hk, hb⟩ := d.ex
  exact pe_call (F.mono hjk) hr hg hm hk hb .nil pass0 ha hdb he hpl
end
/-! argument lists, part by part: the step over the star is looked at once -/
section
variable {X : Cx} {es : List Expr} {t : TA} {te : TE} {pos : Pos}
theorem pa_int {i j p} (h : PA X es t) : PA X (.Constant (.int i) j p :: es) (tCons (tC (.int i)) t) := pa_cons pe_int h rfl
theorem pa_str {i j p} (h : PA X es t) : PA X (.Constant (.str i) j p :: es) (tCons (tC (.str i)) t) := pa_cons pe_str h rfl
theorem pa_sub {a b} (e : PE X (.Subscript a b pos) te) (h : PA X es t) : PA X (.Subscript a b pos :: es) (tCons te t) := pa_cons e h rfl
theorem pa_call {a b c} (e : PE X (.Call a b c pos) te) (h : PA X es t) : PA X (.Call a b c pos :: es) (tCons te t) := pa_cons e h rfl
end
theorem Same.upd {H : Hp} {p : Addr} {o : HO} (h : H p = none) : Same H (upd H p o) := fun b u e => by
  rw [upd_ne (ne_of_none e h)]
  exact e
end L2

namespace L2
open PySem PySem.Spec PyProof.Rows PySem.SeqAt PySem.MeetsSeq
open PySem.AutoSeq1 (wpAny_loadPart')
/-! ### a thing of whatever kind against a tuple of plain values -/
def rEqT : R2 := fun x y H Q => ∃ (q : Addr) (ys : List V), y = .ref q ∧ H q = some (.tup ys) ∧ ys.all flatV = true ∧
  ((∃ b, x = .bl b ∧ Q (.bl false) H) ∨ (x = .non ∧ Q (.bl false) H) ∨ (∃ i, x = .int i ∧ Q (.bl false) H) ∨ (∃ z, x = .str z ∧ Q (.bl false) H) ∨ (∃ p xs, x = .ref p ∧ H p = some (.lst xs) ∧ Q (.bl false) H) ∨ (∃ p kvs, x = .ref p ∧ H p = some (.dK kvs) ∧ Q (.bl false) H) ∨
    (∃ p xs, x = .ref p ∧ H p = some (.tup xs) ∧ xs.all flatV = true ∧ Q (.bl (eqVs xs ys)) H) ∨ (∃ p r zs j ys', x = .ref p ∧ H p = some (.tup [.ref r]) ∧ H r = some (.tup zs) ∧ ys = .int j :: ys' ∧ Q (.bl false) H))
section
variable {X : Cx}
end
end L2

namespace L2
open PySem PySem.Spec PyProof.Rows
/-! ### range(a, b, -1) -/
/-- hi, hi - 1, .. (n of them) -/
def Itd (hi : Int) (n : Nat) : It := ⟨fun i _ => i < n, fun i H x H' => H' = H ∧ x = .int (hi - i), fun i _ => n ≤ i⟩
section
variable {X : Cx} {tg : Expr}
theorem turn_down {P : Program} {w : World} {K : PySem.W.Frag} (it : Addr) (hi : Int) (n : Nat) : Turn P w K tg (Itd hi n) [it] it (fun i h => IsRangeIter h it (hi + (i : Nat) * (-1)) ((n : Int) - (i : Nat)) (-1)) where
  mem := by simp
  obj := fun i h st b hb => by
    have e : b = it := by simpa using hb
    subst e
    exact ⟨_, st, fun v z => by
      have z' : Data.fields _ = Data.cell v := z
      cases z'⟩
  keep := fun i h h' st k => k it (by simp) _ st
  item := by
    intro X hP hw hK hc i pins s σ H E I hf st hg
    subst hP hw hK
    obtain ⟨f0, f1, f2, f3, f4, f5⟩ := hf it (by simp)
    have W := Walks.range (prog := X.prog) (w := X.w) (I.ok.hd hc) it hi (-1) n
    refine W.item i s _ _ hg st fun v h' tk hv st' kk => ?_
    obtain ⟨t, rfl⟩ := hv
    have I1 : Inv X pins σ H { s with heap := h', toks := tk } := I.turned (fun b o hb e => kk b o (by simpa using hb) e) f0 f1 f3 f4 f5
    refine ⟨_, rfl, go_of (s := { s with heap := h', toks := tk }) (n := "range_iterator") st' rfl rfl (by decide) ⟨.int (hi - i), H, I1, ⟨t, ?_⟩, ⟨rfl, rfl⟩, st', fun b hb => (hf b hb).1⟩⟩
    rw [Int.mul_neg, Int.mul_one, Int.sub_eq_add_neg]
  done := by
    intro X hP hw hK hc i pins s σ H E I hf st hg
    subst hP hw hK
    obtain ⟨f0, f1, f2, f3, f4, f5⟩ := hf it (by simp)
    exact wpAny_pyNext_range_end (I.ok.hd hc) st (by have : n ≤ i := hg; omega) fun h' eb => ⟨rfl, I.turned (t' := s.toks) (fun b o hb e => eb b o hb e) f0 f1 f3 f4 f5⟩
  self := fun _ _ _ _ _ st h => wpAny_pyIter_rangeiter st h
theorem down_it {pins : List (Addr × Obj)} {σ : St} {H : Hp} {s : Shared} {R : It → Hp → Prop} {E : Value → Shared → Prop} {lo hi : Int} {t u v : Tok} {tk : Nat} (I : Inv X pins σ H s) (h1 : -(2 ^ 62) ≤ lo) (h2 : lo < 2 ^ 62) (h3 : -(2 ^ 62) ≤ hi) (h4 : hi < 2 ^ 62)
    (q : R (Itd hi (hi - lo).toNat) H) : wpAny (model X.prog X.w) X.A (pyIter (.ref s.heap.objs.size)) (PIE X pins σ tg R) E { s with heap := s.heap.push { cls := .type "range", data := .fields #[.int hi t, .int lo u, .int (-1) v] }, toks := tk } := by
  refine wpAny_pyIter_range (IsRange.new ..) (PySem.W.small_down h3 h4 h1 h2) ?_
  have I1 : Inv X pins σ H { s with heap := s.heap.push { cls := .type "range", data := .fields #[.int hi t, .int lo u, .int (-1) v] }, toks := tk } := I.kept fun b o e => Heap.get?_push_of_some _ e
  refine ⟨(s.heap.push { cls := .type "range", data := .fields #[.int hi t, .int lo u, .int (-1) v] }).objs.size, [(s.heap.push { cls := .type "range", data := .fields #[.int hi t, .int lo u, .int (-1) v] }).objs.size], _, _, H, rfl,
    I1.kept (t' := tk) fun b o e => Heap.get?_push_of_some _ e, turn_down _ hi (hi - lo).toNat, ?_, fun b hb => ?_, q⟩
  · have e1 : hi + ((0 : Nat) : Int) * (-1) = hi := by simp
    have e2 : (((hi - lo).toNat : Nat) : Int) - ((0 : Nat) : Int) = Builtin.Range.rangeSize hi lo (-1) := by rw [PySem.W.rangeSize_downNat]; omega
    show IsRangeIter _ _ (hi + ((0 : Nat) : Int) * (-1)) ((((hi - lo).toNat : Nat) : Int) - ((0 : Nat) : Int)) (-1)
    rw [e1, e2]
    exact Heap.get?_push_size _ rfl
  · have e : b = (s.heap.push { cls := .type "range", data := .fields #[.int hi t, .int lo u, .int (-1) v] }).objs.size := by simpa using hb
    subst e
    exact I1.fpOk (Nat.le_refl _) (I1.hok.fresh (Nat.le_refl _))
def iRngD (ta : TA) : TI := fun σ H R => ta σ H fun vs H1 => ∃ i j : Int, vs = [.int i, .int j, .int (-1)] ∧ (-(2 ^ 62) ≤ i ∧ i < 2 ^ 62 ∧ -(2 ^ 62) ≤ j ∧ j < 2 ^ 62) ∧ R (Itd i (i - j).toNat) H1
theorem pi_rangeD {a b c : Expr} {ta : TA} {p pos : Pos} (hg : Gl X "range") (hm : X.mg "range" = none) (ha : PA X [a, b, c] ta) (hs : starEach [a, b, c] X.env = [(false, eval a X.env), (false, eval b X.env), (false, eval c X.env)] := by rfl)
    (hs2 : starEach [b, c] X.env = [(false, eval b X.env), (false, eval c X.env)] := by rfl) : PI X tg (.Call (.Name "range" p) [a, b, c] [] pos) (iRngD ta) := by
  intro pins s σ H R I h
  refine Call_ (ld_blt I hg hm boot_range (PyProof.Rows.callWith_type1 (thn (ha pos pins s σ H _ I h) fun us s1 ⟨vs, H1, I1, r1, q1⟩ => ?_) (by rw [hs, hs2]) (by rw [hs2]; rfl)))
  obtain ⟨i, j, e, ⟨q1, q2, q3, q4⟩, q⟩ := q1
  subst e
  cases r1 with
  | cons r rr =>
    cases rr with
    | cons r' rr =>
      cases rr with
      | cons r'' rr =>
        cases rr
        obtain ⟨t, rfl⟩ := r
        obtain ⟨t', rfl⟩ := r'
        obtain ⟨t'', rfl⟩ := r''
        exact call_range_3 (by decide) (down_it (tk := s1.toks) I1 q3 q4 q1 q2 q) (.inl (PyProof.noPylong_small (by decide)))
theorem for_down {hi : Int} {n : Nat} {g : TG} {tb : TS} {D : Ends} {σ : St} {H : Hp} (Pv : Nat → St → Hp → Prop) (h0 : Pv 0 σ H)
    (hs : ∀ i σ H, i < n → Pv i σ H → g (.int (hi - i)) σ H fun σ2 H2 => tb { D with nx := Pv (i + 1), ct := Pv (i + 1), bk := D.nx } σ2 H2) (hd : ∀ σ H, Pv n σ H → D.nx σ H) :
    ∃ W : Nat → Nat → St → Hp → Prop, (∃ m, W 0 m σ H) ∧ ∀ i m σ H, W i m σ H →
      ((Itd hi n).stop i H ∧ D.nx σ H) ∨ ((Itd hi n).go i H ∧ ∃ N : St → Hp → Prop, (∀ σ' H', N σ' H' → ∃ m', m' < m ∧ W (i + 1) m' σ' H') ∧ ∀ x H', (Itd hi n).yld i H x H' → g x σ H' fun σ2 H2 => tb { D with nx := N, ct := N, bk := D.nx } σ2 H2) := by
  refine ⟨fun i m σ H => m = n - i ∧ i ≤ n ∧ Pv i σ H, ⟨n, by simp, Nat.zero_le _, h0⟩, ?_⟩
  rintro i m σ H ⟨rfl, hi, p⟩
  by_cases hlt : i < n
  · refine .inr ⟨hlt, Pv (i + 1), fun σ' H' p' => ⟨n - (i + 1), by omega, rfl, hlt, p'⟩, fun x H' y => ?_⟩
    obtain ⟨e, y⟩ := y
    subst e y
    exact hs i σ _ hlt p
  · have e : i = n := by omega
    subst e
    exact .inl ⟨Nat.le_refl _, hd σ H p⟩
/-- over a list that the block leaves as it is -/
theorem comp_list {K : PySem.W.Frag} {a : Addr} {xs : List V} {σ : St} {ix : List Nat} {tt : TT} {te : TE} {H : Hp} {Z : List V → Hp → Prop} (hl : xs.length ≤ sizeLine) (Pv : Nat → List V → Hp → Prop) (h0 : Pv 0 [] H) (hk : ∀ i ys H, Pv i ys H → SqL K H a xs)
    (hs : ∀ i x ys H (N : List V → Hp → Prop), xs[i]? = some x → ys.length ≤ i → Pv i ys H → (∀ ys' H', ys'.length ≤ i + 1 → Pv (i + 1) ys' H' → N ys' H') →
      tt ((cst ix σ).set 0 (some x)) H fun b H4 => if b = true then te ((cst ix σ).set 0 (some x)) H4 fun v H5 => N (ys ++ [v]) H5 else N ys H4)
    (hd : ∀ ys H, ys.length ≤ xs.length → Pv xs.length ys H → Z ys H) :
    ∃ W : Nat → Nat → List V → Hp → Prop, (∃ m, W 0 m [] H) ∧ ∀ i m ys H2, W i m ys H2 →
      ((Itl K a).stop i H2 ∧ ys.length ≤ sizeLine ∧ Z ys H2) ∨
      ((Itl K a).go i H2 ∧ ys.length ≤ sizeLine ∧ ∀ x H3, (Itl K a).yld i H2 x H3 → tt ((cst ix σ).set 0 (some x)) H3 fun b H4 =>
        if b = true then te ((cst ix σ).set 0 (some x)) H4 fun v H5 => ∃ m', m' < m ∧ W (i + 1) m' (ys ++ [v]) H5 else ∃ m', m' < m ∧ W (i + 1) m' ys H4) := by
  refine ⟨fun i m ys H => m = xs.length - i ∧ i ≤ xs.length ∧ ys.length ≤ i ∧ Pv i ys H, ⟨xs.length, by simp, Nat.zero_le _, Nat.le_refl _, h0⟩, ?_⟩
  rintro i m ys H ⟨rfl, hi, hy, p⟩
  have q := hk i ys H p
  by_cases hlt : i < xs.length
  · refine .inr ⟨⟨xs, xs[i], q, by simp [hlt]⟩, by omega, fun x H' y => ?_⟩
    obtain ⟨e, y⟩ := y
    subst e
    exact hs i x ys _ (fun ys' H5 => ∃ m', m' < xs.length - i ∧ m' = xs.length - (i + 1) ∧ i + 1 ≤ xs.length ∧ ys'.length ≤ i + 1 ∧ Pv (i + 1) ys' H5) (y xs q) hy p fun ys' H' h1 h2 => ⟨xs.length - (i + 1), by omega, rfl, hlt, h1, h2⟩
  · have e : i = xs.length := by omega
    subst e
    exact .inl ⟨⟨xs, q, Nat.le_refl _⟩, by omega, hd ys H hy p⟩

/-! ### != of two lists of plain values -/
def rNeL (K : PySem.W.Frag) : R2 := fun x y H Q => ∃ p q xs ys, x = .ref p ∧ y = .ref q ∧ SqL K H p xs ∧ SqL K H q ys ∧ xs.all flatV = true ∧ ys.all flatV = true ∧ Q (.bl (!eqVs xs ys)) H
theorem op_neL (hu : X.A.units < cLine) : OpR X (compareOp .NotEq) (rNeL X.K) := by
  intro pins s σ H x y v u Q I rx ry h
  obtain ⟨p, q, xs, ys, rfl, rfl, hp, hq, fx, fy, k⟩ := h
  cases rx
  cases ry
  obtain ⟨its, r1, p1, _⟩ := I.list hp
  obtain ⟨jts, r2, p2, _⟩ := I.list hq
  by_cases hl : xs.length = ys.length
  · refine SeqAt.RcNeAt.lists (e := fun j => eqV (xs.getD j .non) (ys.getD j .non)) p1.isList p2.isList (by simp; rw [← r1.length, ← r2.length]; exact hl) hu (fun j h1 h2 => ?_) _ _ _ _ ?_
    · obtain ⟨a1, b1⟩ := r1.at h1
      obtain ⟨a2, b2⟩ := r2.at h2
      exact eqAt_V a1 a2 (List.all_eq_true.mp fx _ (List.mem_of_getElem? b1)) (List.all_eq_true.mp fy _ (List.mem_of_getElem? b2))
    · refine ⟨.bl _, H, I, rfl, ?_⟩
      have e : its.toArray.size = xs.length := by rw [List.size_toArray, r1.length]
      rw [e]
      unfold eqVs at k
      rw [decide_eq_true hl, Bool.true_and] at k
      exact k
  · refine SeqAt.RcNeAt.lists_lengths p1.isList p2.isList ?_ hu _ _ _ _ ?_
    · rw [List.size_toArray, List.size_toArray, ← r1.length, ← r2.length]
      simpa using hl
    · refine ⟨.bl true, H, I, rfl, ?_⟩
      unfold eqVs at k
      rw [decide_eq_false hl, Bool.false_and] at k
      exact k
end
end L2

namespace L2
open PySem PySem.Spec PyProof.Rows
section
variable {X : Cx} {scope : Scope} {cl : List (Str × Addr)} {x : Str} {ys : List Str} {ix : List Nat}
theorem ps_setc {elt iter : Expr} {ifs : List Expr} {px pos py spos : Pos} {wi : TI} {tt : TT} {te : TE} {i : Nat} {y : Str} (n : CompNames X scope cl x ys ix) (hc : X.calm = true) (hi : PI X (.Name x px) iter wi)
    (ht : ∀ C fp s H, PTs (cmpCx X (x :: ys) scope cl C fp s H) ifs tt) (he : ∀ C fp s H, PE (cmpCx X (x :: ys) scope cl C fp s H) elt te) (hN : X.N.Nodup) (hy : X.N[i]? = some y) (hL : Loc X.env.scope y)
    (hsw : swapsWith (.ListComp elt [⟨.Name x px, iter, ifs, 0⟩] scope pos) (some (.Name y py)) spos.line X.env = pure true := by rfl) (hs : ∀ x, foldedSetIterable iter X.env x = pure x := by intro _; rfl)
    (hf : X.fn y = true ∨ X.env.scope.names.lookup y = some .local := by first | exact .inl rfl | exact .inr rfl | assumption) :
    PS X (.Assign [.Name y py] (.ListComp elt [⟨.Name x px, iter, ifs, 0⟩] scope pos) spos) (tAsg (tComp wi ix tt te) (gName i)) := by
  intro pins s σ H D I h
  rw [exec_Assign_Name_used _ _ _ _ hsw]
  refine wpAny_bind (wpAny_standAt (wpAny_bind ?_))
  show wpAny _ X.A (do let _ ← comprehension (.ListComp elt [⟨.Name x px, iter, ifs, 0⟩] scope pos) scope X.env _ (newList []) false (eval iter X.env) (some (assign (.Name y py) X.env))) _ _ s
  refine wpAny_bind (wpAny_mono (wpAny_comprehension_free (use := some (assign (.Name y py) X.env)) (Q := fun _ s' => SP X pins D .next s') rfl hs n.clos n.kind n.names'
    (thn (hi pins s σ H _ I h) fun v s1 h1 => thn h1 fun itv s2 h2 => ?_)) (fun _ s' hq => wpAny_pure (wpAny_pure hq)) fun _ _ e => e)
  obtain ⟨it, fp, tn, J, H2, e, I2, T, st2, f2, W, ⟨m0, w0⟩, turn⟩ := h2
  subst e
  refine comp_block (RR := fun acc C => compPost (model X.prog X.w) X.A X.xe (some (assign (.Name y py) X.env)) (fun _ s' => SP X pins D .next s') acc C) n hc ht he I2 T st2 f2 w0 turn ?_
  intro D' C s4 H3 zs m I4 hn4 fC nD q
  show wpAny _ X.A (assign (.Name y py) X.env (.ref D')) _ _ s4
  refine wpAny_assign_Name (store_ok2 (v := .ref D') I4 hN hy hL rfl (fun s5 I5 ⟨a, sb, ha⟩ => ?_) hf)
  have hCa : C ≠ a := by
    rcases ha with e | e
    · rw [e]; exact fC.2.1
    · exact Ne.symm (fC.2.2.2.2.1 _ _ e)
  refine ⟨m, hn4.sameBut sb hCa, fun h' hs' => ?_⟩
  exact ⟨_, _, I5.turned (t' := s5.toks) (fun b o hb e => hs'.extBut b o hb e) fC.1 fC.2.1 fC.2.2.2.1 fC.2.2.2.2.1 fC.2.2.2.2.2, q D' nD⟩
end
end L2

namespace L2
open PySem PySem.Spec PyProof.Rows
/-! ### steps of the machine that leave what an exception was made under -/
/-- the exception at a was made where none was handled -/
def NoCtx (h : Heap) (a : Addr) : Prop := ∃ o vs, h.get? a = some o ∧ o.data = .fields vs ∧ vs[2]? = some .none
def KeepF (f : Obj → Obj) : Prop := ∀ o vs, o.data = .fields vs → ∃ vs', (f o).data = .fields vs' ∧ vs'[2]? = vs[2]?
/-- a tree that calls nothing and writes no third field -/
def Tm {α : Type} : Sem α → Prop
  | .pure _ | .raise _ | .unsupported _ | .finish _ | .register _ _ => True
  | .rule _ k => Tm (k ())
  | .at _ k => Tm (k ())
  | .load _ _ k => ∀ o, Tm (k o)
  | .update _ _ f k => KeepF f ∧ Tm (k ())
  | .alloc _ k => ∀ a, Tm (k a)
  | .loadIfAlive _ k => ∀ o, Tm (k o)
  | .point _ k => Tm (k ())
  | .fresh k => ∀ o, Tm (k o)
  | .ask k => ∀ o, Tm (k o)
  | .handled _ k => ∀ o, Tm (k o)
  | .stack k => ∀ o, Tm (k o)
  | .thread k => ∀ o, Tm (k o)
  | _ => False
theorem NoCtx.push {h : Heap} {a : Addr} (n : NoCtx h a) (o : Obj) : NoCtx (h.push o) a :=
  let ⟨u, vs, e, d, z⟩ := n
  ⟨u, vs, Heap.get?_push_of_some _ e, d, z⟩
theorem NoCtx.upd {h : Heap} {a : Addr} (n : NoCtx h a) (b : Addr) {f : Obj → Obj} (k : KeepF f) : NoCtx (h.update b f) a := by
  obtain ⟨u, vs, e, d, z⟩ := n
  by_cases hb : b = a
  · subst hb
    obtain ⟨vs', d', z'⟩ := k u vs d
    exact ⟨f u, vs', Heap.get?_update_self f e (Obj.isFreed_of_fields d'), d', z'.trans z⟩
  · exact ⟨u, vs, (Heap.get?_update_other _ _ hb).trans e, d, z⟩
theorem Tm.wp {α : Type} {M : Model} {Γ : PySem.Ctx} {a : Addr} {Q : α → Pos → Shared → Prop} {E : Value → Pos → Shared → Prop} : ∀ (t : Sem α), Tm t → ∀ (p : Pos) (s : Shared), NoCtx s.heap a → Sem.wp M Γ t Q E p s →
    Sem.wp M Γ t (fun x p' s' => Q x p' s' ∧ NoCtx s'.heap a) E p s := by
  intro t
  induction t with
  | pure x => intro _ p s n h; rw [Sem.wp] at h ⊢; exact ⟨h, n⟩
  | raise e => intro _ p s n h; rw [Sem.wp] at h ⊢; exact h
  | unsupported w => intro _ p s n h; rw [Sem.wp] at h; exact h.elim
  | finish e => intro _ p s n h; rw [Sem.wp] at h; exact h.elim
  | rule t k ih => intro q p s n h; rw [Sem.wp] at h ⊢; exact ih () q p s n h
  | «at» p' k ih => intro q p s n h; rw [Sem.wp] at h ⊢; exact ih () q p' s n h
  | load b c k ih => intro q p s n h; rw [Sem.wp] at h ⊢; obtain ⟨o, e, h⟩ := h; exact ⟨o, e, ih o (q o) p s n h⟩
  | update b c f k ih => intro q p s n h; rw [Sem.wp] at h ⊢; exact ⟨h.1, ih () q.2 p _ (n.upd b q.1) h.2⟩
  | alloc o k ih => intro q p s n h; rw [Sem.wp] at h ⊢; exact ih _ (q _) p _ (n.push o) h
  | loadIfAlive b k ih => intro q p s n h; rw [Sem.wp] at h ⊢; exact ih _ (q _) p s n h
  | point l k ih => intro q p s n h; rw [Sem.wp] at h ⊢; exact ih () q p s n h
  | register b k ih => intro q p s n h; rw [Sem.wp] at h; exact h.elim
  | fresh k ih => intro q p s n h; rw [Sem.wp] at h ⊢; exact ih _ (q _) p _ n h
  | ask k ih => intro q p s n h; rw [Sem.wp] at h ⊢; exact ih _ (q _) p s n h
  | handled o k ih => intro q p s n h; rw [Sem.wp] at h ⊢; exact ih _ (q _) p s n h
  | stack k ih => intro q p s n h; rw [Sem.wp] at h ⊢; exact ih _ (q _) p s n h
  | thread k ih => intro q p s n h; rw [Sem.wp] at h ⊢; exact ih _ (q _) p s n h
  | choose => intro q; exact q.elim
  | os => intro q; exact q.elim
  | call => intro q; exact q.elim
  | newGen => intro q; exact q.elim
  | genState => intro q; exact q.elim
  | resume => intro q; exact q.elim
  | yield => intro q; exact q.elim
  | fork => intro q; exact q.elim
  | await => intro q; exact q.elim
theorem Tm.any {α : Type} {M : Model} {A : Around} {a : Addr} {s : Shared} {t : Sem α} {Q : α → Shared → Prop} {E : Value → Shared → Prop} (q : Tm t) (n : NoCtx s.heap a) (h : wpAny M A t Q E s) : wpAny M A t (fun x s' => Q x s' ∧ NoCtx s'.heap a) E s :=
  fun Γ p hΓ => Tm.wp t q p s n (h Γ p hΓ)
theorem Tm.bind {α β : Type} {m : Sem α} {f : α → Sem β} : Tm m → (∀ x, Tm (f x)) → Tm (m >>= f) := by
  intro h k
  show Tm (m.bind f)
  induction m with
  | pure x => exact k x
  | raise e => trivial
  | unsupported w => trivial
  | finish e => trivial
  | rule t k ih => exact ih () h
  | «at» p' k ih => exact ih () h
  | load b c k ih => exact fun o => ih o (h o)
  | update b c f k ih => exact ⟨h.1, ih () h.2⟩
  | alloc o k ih => exact fun o => ih o (h o)
  | loadIfAlive b k ih => exact fun o => ih o (h o)
  | point l k ih => exact ih () h
  | register b k ih => trivial
  | fresh k ih => exact fun o => ih o (h o)
  | ask k ih => exact fun o => ih o (h o)
  | handled o k ih => exact fun o => ih o (h o)
  | stack k ih => exact fun o => ih o (h o)
  | thread k ih => exact fun o => ih o (h o)
  | choose => exact h.elim
  | os => exact h.elim
  | call => exact h.elim
  | newGen => exact h.elim
  | genState => exact h.elim
  | resume => exact h.elim
  | yield => exact h.elim
  | fork => exact h.elim
  | await => exact h.elim
theorem tm_load (a : Addr) : Tm (load a) := fun _ => trivial
theorem tm_field (v : Value) (i : Nat) : Tm (field v i) := by
  unfold field fieldsOf
  refine Tm.bind ?_ fun x => ?_
  · cases v <;> try trivial
    refine Tm.bind (tm_load _) fun _ => ?_
    split <;> trivial
  · split <;> trivial
theorem keep_slots (g : Obj → Array (Option Value)) : KeepF fun o => { o with slots := g o } := fun o vs d => ⟨vs, d, rfl⟩
theorem keep_field {i : Nat} {x : Value} (hi : i ≠ 2) : KeepF (Obj.mapFields (·.setIfInBounds i x)) := fun o vs d =>
  ⟨_, Obj.data_mapFields d _, by rw [Array.getElem?_setIfInBounds_ne hi]⟩
theorem tm_setField (v : Value) (i : Nat) (x : Value) (hi : i ≠ 2) : Tm (setField v i x) := by
  unfold setField
  cases v <;> try trivial
  unfold updateField
  refine Tm.bind (tm_load _) fun o => ?_
  split
  · split
    · exact ⟨keep_field hi, trivial⟩
    · trivial
  · trivial
theorem tm_setFlight (e : Value) (f : Option Addr) : Tm (setFlight e f) := by
  unfold setFlight
  refine Tm.bind (tm_field _ _) fun tb => ?_
  split
  · exact tm_setField _ _ _ (by decide)
  · trivial
theorem tm_ready : ∀ l : List Env, Tm (readyFrames l)
  | [] => trivial
  | env :: outer => by
    unfold readyFrames
    split
    · refine Tm.bind (tm_load _) fun o => ?_
      split
      · trivial
      · refine Tm.bind ?_ fun i => Tm.bind ?_ fun b => ?_
        · unfold behindIsImport
          split
          · trivial
          · split
            · trivial
            · exact Tm.bind (tm_field _ _) fun _ => trivial
        · unfold keptBack
          split
          · split
            · trivial
            · exact Tm.bind (fun _ => trivial) fun _ => trivial
          · trivial
        · exact ⟨keep_slots _, tm_ready outer⟩
    · trivial
theorem tm_frameOf (env : Env) : Tm (PySem.frameOf env) := by
  unfold PySem.frameOf
  refine Tm.bind ?_ fun l => Tm.bind ?_ fun x => ?_
  · unfold frameEnvs
    exact fun _ => trivial
  · unfold frameObject
    split
    · trivial
    · exact Tm.bind (tm_ready _) fun _ => trivial
  · split <;> trivial
theorem tm_newFields (ty : String) (vs : List Value) : Tm (newFields ty vs) := by
  unfold newFields newObj newObjAsIs
  dsimp only
  split
  · trivial
  · exact fun _ => trivial
theorem tm_noteFrame (e : Value) (env : Env) : Tm (noteFrame e env) := by
  have last : ∀ (head : Value) (f : Addr) , Tm (do setField e 1 (← EntryCells.newEntry head (← PySem.frameOf env) .none (rawInt f) .none (← entryPlaceOf f (head != .none)))) := fun head f =>
    Tm.bind (tm_frameOf _) fun _ => Tm.bind (Tm.bind (fun _ => trivial) fun _ => by split <;> trivial) fun _ => Tm.bind (tm_newFields _ _) fun _ => tm_setField _ _ _ (by decide)
  unfold noteFrame
  split
  · refine Tm.bind (tm_field _ _) fun head => ?_
    split
    · refine Tm.bind (tm_field _ _) fun h3 => ?_
      split
      · trivial
      · exact Tm.bind (tm_setField _ _ _ (by decide)) fun _ => last _ _
    · exact last _ _
  · trivial
theorem tm_leaving (env : Env) (e : Value) : Tm (leaving env e) := Tm.bind (tm_noteFrame _ _) fun _ => tm_setFlight _ _
section
variable {M : Model} {A : Around} {E : Value → Shared → Prop} {s : Shared} {base : Heap} {env : Env} {outer : List Env} {L e : Addr} {cls a0 : Value} {Q : Unit → Shared → Prop}
/-- the steps of an exception on its way, with what it was made under -/
theorem leaves_onN (hfr : A.frames = some (env :: outer)) (hf : env.frame = some L) (fl : Heap.FlyingW base (env :: outer) e cls a0 s.heap) (n : NoCtx s.heap e)
    (h : ∀ h', Heap.FlyingW base outer e cls a0 h' → s.heap.UpToSlots h' → NoCtx h' e → Q () { s with heap := h' }) : wpAny M A (leaving env (.ref e)) Q E s :=
  wpAny_mono ((tm_leaving _ _).any n (wpAny_leaves_onW (Q := fun _ s2 => ∃ h', s2 = { s with heap := h' } ∧ Heap.FlyingW base outer e cls a0 h' ∧ s.heap.UpToSlots h') (E := fun _ _ => False) hfr hf fl fun h' x y => ⟨h', rfl, x, y⟩))
    (fun _ _ ⟨⟨h', z, x, y⟩, m⟩ => by subst z; exact h h' x y m) fun _ _ f => f.elim
theorem leaves_madeN {h : Heap} {args : List Value} (hfr : A.frames = some (env :: outer)) (hf : env.frame = some L) (kb : base.StaysIn h) (ff : h.FunFrames base (env :: outer)) (hx : Heap.MadeExcOf h s.heap e cls args)
    (hQ : ∀ h' t, Heap.FlyingW base outer e cls (.ref t) h' → s.heap.UpToSlots h' → NoCtx h' e → Q () { s with heap := h' }) : wpAny M A (leaving env (.ref e)) Q E s :=
  wpAny_mono ((tm_leaving _ _).any (let ⟨_, z, _⟩ := hx.there; ⟨_, _, z, rfl, rfl⟩) (wpAny_leaves_madeW (Q := fun _ s2 => ∃ h' t, s2 = { s with heap := h' } ∧ Heap.FlyingW base outer e cls (.ref t) h' ∧ s.heap.UpToSlots h') (E := fun _ _ => False) hfr hf kb ff hx fun h' t x _ _ y => ⟨h', t, rfl, x, y⟩))
    (fun _ _ ⟨⟨h', t, z, x, y⟩, m⟩ => by subst z; exact hQ h' t x y m) fun _ _ f => f.elim
end
/-! ### exceptions: how one lies behind a call, how it passes a def, how it is made -/
/-- behind a call: the exception at a, of class cls; B: all that stays as it is while it passes -/
def CX1 (P : Program) (w : World) : CXT := fun outer H s E e s' => ∃ (a : Addr) (cls a0 : Value) (H' : Hp) (B : Heap), e = .ref a ∧ s'.os = s.os ∧ AllBare s'.gens ∧ Un (frs outer) [] H H' s.heap s'.heap ∧
  HOk P w H' B ∧ (Heap.FlyingW B outer a cls a0 s'.heap ∧ NoCtx s'.heap a) ∧ (∀ b o, s.heap.get? b = some o → b ∉ frs outer → ∃ o', B.get? b = some o') ∧ E cls none H'

/-- the body of a def that an exception may leave: E is wanted of it -/
structure Lv (X : Cx) (E : XK) : Prop where
  stk : X.stack = X.env :: X.outer
  fr : X.env.frame = some X.env.locals
  ex : X.ex = []
  xe : ∀ e s', wpAny (model X.prog X.w) X.A (leaving X.env e) (fun _ s'' => CX1 X.prog X.w X.outer X.H₀ X.s₀ E e s'') (fun e' s'' => CX1 X.prog X.w X.outer X.H₀ X.s₀ E e' s'') s' → X.xe e s'

section
variable {X : Cx} {E : XK} {pins : List (Addr × Obj)} {σ : St} {H H' : Hp} {s : Shared}
theorem Inv.own_new (I : Inv X pins σ H s) {b : Addr} {o : Obj} (q : X.s₀.heap.get? b = some o) : b ≠ X.env.locals := fun z => by
  have := Heap.lt_size q
  rw [z] at this
  exact absurd (Nat.lt_of_lt_of_le this I.ok.above) (Nat.lt_irrefl _)
theorem Inv.own_out (I : Inv X pins σ H s) {b : Addr} {o : Obj} (q : X.s₀.heap.get? b = some o) (hb : b ∉ X.fs) : b ∉ frs X.stack := fun z => by
  rcases List.mem_cons.mp (I.stkSub b z) with e | e
  · exact I.own_new q e
  · exact hb e
/-- from the state ahead of the exception's last way (s1, H'), over what stays (B), to the state behind the frame (h') -/
theorem Inv.left {h1 h' : Heap} {a : Addr} {cls a0 : Value} {B : Heap} (L : Lv X E) (I : Inv X pins σ H s) (un : Un (frs X.stack) [] H H' s.heap h1) (sb : B.StaysIn h1) (fl' : Heap.FlyingW B X.outer a cls a0 h') (up : h1.UpToSlots h')
    (cov : ∀ b o, s.heap.get? b = some o → b ∉ frs X.stack → ∃ o', B.get? b = some o') :
    Un (frs X.outer) [] X.H₀ H' X.s₀.heap h' ∧ ∀ b o, X.s₀.heap.get? b = some o → b ∉ frs X.outer → ∃ o', B.get? b = some o' := by
  have nx : ∀ b : Addr, b ∉ X.ex := fun b z => by rw [L.ex] at z; cases z
  have n0 : ∀ b : Addr, b ∉ ([] : List Addr) := fun b z => by cases z
  have sub : ∀ b, b ∈ X.fs → b ∈ frs X.stack := fun b z => by
    rw [L.stk]
    unfold frs
    rw [List.filterMap_cons, L.fr]
    exact List.mem_cons_of_mem _ z
  have cov' : ∀ b o, X.s₀.heap.get? b = some o → b ∉ frs X.outer → ∃ o', B.get? b = some o' := fun b o q hb => by
    obtain ⟨o1, e1⟩ := I.base.there b o q (nx b)
    exact cov b o1 e1 (I.own_out q hb)
  refine ⟨⟨fun b o q n hb _ => ?_, fun b o q n hb _ => ?_, fun b o q n _ => ?_, fun b o q _ => ?_, fun b xs q => un.tups b xs (I.base.tups b xs q), fun b o u q => un.frzs b o u (I.base.frzs b o u q), fun b ps q => ?_⟩, cov'⟩
  · have e1 := I.base.keep b o q n hb (nx b)
    have e2 := un.keep b o e1 (I.base.free b o q n (nx b)) (I.own_out q hb) (n0 b)
    obtain ⟨o', e3⟩ := cov b o e1 (I.own_out q hb)
    have e4 := sb b o' e3
    rw [e2] at e4
    cases e4
    exact fl'.1 b o e3
  · obtain ⟨sl, e1⟩ := I.base.slot b o q n hb (nx b)
    obtain ⟨sl2, e2⟩ := un.slot b _ e1 (I.base.free b o q n (nx b)) (sub b hb) (n0 b)
    obtain ⟨_, o', ho', hd⟩ := I.ok.funs.mem hb
    rw [q] at ho'
    cases ho'
    obtain ⟨sl3, e3⟩ := up b _ e2 hd
    exact ⟨sl3, e3⟩
  · obtain ⟨o1, e1⟩ := I.base.there b o q (nx b)
    exact un.free b o1 e1 (I.base.free b o q n (nx b)) (n0 b)
  · by_cases hb : b ∈ frs X.outer
    · obtain ⟨_, o', ho', _⟩ := fl'.2.2.1.mem hb
      exact ⟨o', ho'⟩
    · obtain ⟨o', e⟩ := cov' b o q hb
      exact ⟨o', fl'.1 b o' e⟩
  · obtain ⟨m1, e1⟩ := I.base.tbls b ps q
    obtain ⟨m2, e2⟩ := un.tbls b _ e1
    exact ⟨m1 ++ m2, by rw [e2, Array.append_assoc]⟩
/-- an exception of a callee leaves this def too -/
theorem Lv.passes (L : Lv X E) : Passes (CX1 X.prog X.w) X E := by
  intro pins σ H s e s' I h
  obtain ⟨a, cls, a0, H', B, rfl, os, bare, un, hok, ⟨fl, nc⟩, cov, q⟩ := h
  refine L.xe _ _ ?_
  have fl1 := fl
  rw [L.stk] at fl1
  refine leaves_onN (by rw [I.ok.frames, L.stk]) L.fr fl1 nc fun h' fl' up nc' => ?_
  obtain ⟨u, c⟩ := I.left L un fl.1 fl' up cov
  exact ⟨a, cls, a0, H', B, rfl, os.trans I.os, bare, u, hok, ⟨fl', nc'⟩, c, q⟩
/-- an exception made here leaves this def -/
theorem Lv.made (L : Lv X E) (I : Inv X pins σ H s) {h' : Heap} {e : Addr} {cls : Value} {args : List Value} (hx : Heap.MadeExcOf s.heap h' e cls args) (q : E cls none H) : X.xe (.ref e) { s with heap := h' } := by
  refine L.xe _ _ ?_
  have hin : ∀ env ∈ (X.env :: X.outer), ∀ b, env.frame = some b → b ∈ frs X.stack := fun env he b hb => by
    rw [L.stk]
    exact List.mem_filterMap.mpr ⟨env, he, hb⟩
  have hfs := I.stack
  rw [L.stk] at hfs
  refine leaves_madeN (base := PySem.W.hideAll s.heap (frs X.stack)) (h := s.heap) (by rw [I.ok.frames, L.stk]) L.fr (fun b o z => PySem.W.of_hideAll _ z) (PySem.W.funFrames_hide hfs hin) hx fun h2 t fl up nc => ?_
  have un : Un (frs X.stack) [] H H s.heap h' := Un.kept hx.keeps
  have cov : ∀ b o, s.heap.get? b = some o → b ∉ frs X.stack → ∃ o', (PySem.W.hideAll s.heap (frs X.stack)).get? b = some o' := fun b o z hb => ⟨o, PySem.W.hideAll_get _ z hb⟩
  obtain ⟨u, c⟩ := I.left L un (fun b o z => hx.keeps b o (PySem.W.of_hideAll _ z)) fl up cov
  refine ⟨e, cls, _, H, _, rfl, I.os, I.bare, u, fun b o z => ?_, ⟨fl, nc⟩, c, q⟩
  refine (I.hok b o z).stay (fun d v hd w => PySem.W.hideAll_get _ w fun hm => ?_) (fun _ z => z) fun _ _ z => z
  have hn := I.stkFree d hm
  rcases hd with hd | hd
  · rw [hd, z] at hn
    cases hn
  · rw [hd] at hn
    cases hn
end

/-! ### raise C(..) -/
def tRaise (cls : Value) (E : XK) (t : TA) : TS := fun _ σ H => t σ H fun vs H1 => vs.length ≤ sizeLine ∧ E cls none H1
section
variable {X : Cx} {E : XK} {x : Str} {C : Addr} {bm bmN : List Value} {B Bn newId nid initId inN : String} {np cpos pos : Pos} {e₀ : Expr} {es : List Expr} {t : TA}
theorem ps_raise (L : Lv X E) (hc : X.calm = true) (O : OwnCls x C bm newId X.mg X.base) (Fn : ExcBaseFacts Bn newId inN bmN) (hBn : bm.contains (.type Bn) = true) (FB : ExcBaseFacts B nid initId bm) (hg : Gl X x) (ha : PA X (e₀ :: es) t)
    (he : starEach (e₀ :: es) X.env = (false, eval e₀ X.env) :: starEach es X.env := by rfl) (hplain : (backTo cpos (starEach es X.env)).any (·.1) = false := by rfl) (hd : (x == ("__debug__" : Str)) = false := by decide) :
    PS X (.Raise (some (.Call (.Name x np) (e₀ :: es) [] cpos)) none pos) (tRaise (.ref C) E t) := by
  intro pins s σ H D I h
  obtain ⟨tl, N, nm, q, bs, hdct, sn, sub, ab, col, dd, k0, k1, k2, k3, k5, mN, hC, hN, hni, T⟩ := O.obj
  refine wpAny_Raise_call_subU (C := C) (nm := nm) (q := q) (N := N) (bs := bs) (bm := tl) (hdct := hdct) (sn := sn) (sub := sub) (ab := ab) (col := col) (dd := dd) (k0 := k0) (k1 := k1) (k2 := k2) (k3 := k3) (k5 := k5)
    Fn hBn FB (mN := mN) (T.hasType FB.hasBase) (I.ok.hd hc) (by rw [he]; show (false || (backTo cpos (starEach es X.env)).any (·.1)) = false; rw [hplain]; rfl) hni (ld_glob I hg O.bound ⟨rfl, ?_⟩ hd)
  have h1 := ha cpos pins s σ H _ I h
  rw [he] at h1 ⊢
  refine Calls.evalArgs_plain (wpAny_mono h1 (fun vs s₂ h₂ => ?_) fun _ _ y => y)
  obtain ⟨xs, H1, I1, r, z, q1⟩ := h₂
  exact ⟨rfl, (by show vs.length ≤ sizeLine; rw [← r.length]; exact z), I1.bk _ _ hC, hN.keeps I1.bk, T.keeps I1.bk, fun h' e hx => L.made I1 hx q1⟩
end
end L2

namespace L2
open PySem PySem.Spec PyProof.Rows
/-! ### a def that may raise, by its promise -/
/-- a wish about exceptions, by the names' values -/
abbrev XS := St → XK
structure DfX (P : Program) (w : World) (K : PySem.W.Frag) (mg : Str → Option Value) (base : Heap) (k : Nat) (x : Str) (ps : List Str) (sp : Sp) : Prop where
  ex : ∃ (f : Addr) (fd : FuncData), FnOk P w K mg base (CX1 P w) k f fd ps sp ∧ mg x = some (.ref f) ∧ PySem.W.keepIn K (.ref f) = true ∧ Binds K fd ps []
section
variable {P : Program} {w : World} {K : PySem.W.Frag} {mg : Str → Option Value} {base : Heap}
theorem At.dfx {k : Nat} {x : Str} {st : Stmt} {ps : List Str} {sp : Sp} (a : At K mg x st ps) (h : ∀ f fd, Fun K x x st f fd → FnOk P w K mg base (CX1 P w) k f fd ps sp) : DfX P w K mg base k x ps sp :=
  let ⟨f, fd, F, m, b⟩ := a.ex
  ⟨f, fd, h f fd F, m, F.kp, .all b⟩
/-- where nothing is raised -/
theorem DfX.df {k : Nat} {x : Str} {ps : List Str} {sp sp' : Sp} (d : DfX P w K mg base k x ps sp) (h : ∀ vs H Q E, sp' vs H Q E → sp vs H Q E0) : Df P w K mg base k x ps sp' := by
  obtain ⟨f, fd, F, b⟩ := d.ex
  refine ⟨f, fd, ⟨fun vs H Q E q => F.len vs H Q E0 (h _ _ _ _ q), fun A outer s H args us vs Q E hr he hb hv hs => ?_⟩, b⟩
  refine codeAny_mono (F.run A outer s H args us vs Q E0 hr he hb hv (h _ _ _ _ hs)) fun r s' q => ?_
  cases r with
  | error e =>
    obtain ⟨_, _, _, _, _, _, _, _, _, _, _, _, z⟩ := q
    exact z.elim
  | ok fl => cases fl <;> exact q
/-- THE RULE for a def that may raise -/
theorem Fun.okx {x qual : Str} {st : Stmt} {f : Addr} {fd : FuncData} {N ps : List Str} {k : Nat} {sp : Sp} (F : Fun K x qual st f fd) (S : FnScope N ps (defScope st)) (len : ∀ vs H Q E, sp vs H Q E → vs.length = ps.length)
    (hbody : ∀ (cdv : Value) (A : Around) (outer : List Env) (s : Shared) (H : Hp) (vs : List V) (Q : VK) (E : XK), Room k (A.deeper (envOfC qual (defScope st) s.heap.objs.size f cdv)) → sp vs H Q E →
      ∃ t, PSs (cxOf (CX1 P w) P w K mg base N qual (defScope st) f cdv A outer s H E) (defBody st) t ∧ t { nx := fun _ H' => Q .non H', rt := Q } (start N vs) H) : FnOk P w K mg base (CX1 P w) (k + 1) f fd ps sp := by
  obtain ⟨oc, od, kV, doc, pm, an, cdv, ct, osl, rfl, lk, hcd⟩ := F.ex
  exact fn_of lk hcd S len fun A outer s H vs Q E hr hsp => hbody cdv A outer s H vs Q E hr hsp
theorem lv_cx {N : List Str} {qual : Str} {scope : Scope} {f : Addr} {cd : Value} {A : Around} {outer : List Env} {s : Shared} {H : Hp} {E : XK} : Lv (cxOf (CX1 P w) P w K mg base N qual scope f cd A outer s H E) E := ⟨rfl, rfl, rfl, fun _ _ h => h⟩
end
def tCallX (sp : Sp) (Ex : XS) (t : TA) : TE := fun σ H Q => t σ H fun vs H1 => sp vs H1 Q (Ex σ)
def PassesX (X : Cx) (Ex : XS) : Prop := ∀ (pins : List (Addr × Obj)) (σ : St) (H : Hp) (s : Shared) (e : Value) (s' : Shared), Inv X pins σ H s → CX1 X.prog X.w X.stack H s (Ex σ) e s' → X.xe e s'
theorem Lv.px {X : Cx} {E : XK} (L : Lv X E) : PassesX X fun _ => E := fun pins σ H s e s' I h => L.passes pins σ H s e s' I h
section
variable {X : Cx} {k j : Nat} {x : Str} {ps : List Str} {sp : Sp} {e : Expr} {es : List Expr} {p pos : Pos} {t : TA} {Ex : XS}
theorem pe_dfx (d : DfX X.prog X.w X.K X.mg X.base j x ps sp) (hr : Room k X.A) (hg : Gl X x) (hx : PassesX X Ex) (ha : PA X (e :: es) t) (hjk : j ≤ k := by decide) (hdb : (x == ("__debug__" : Str)) = false := by decide)
    (he : starEach (e :: es) X.env = (false, eval e X.env) :: starEach es X.env := by rfl) (hpl : (backTo pos (starEach es X.env)).any (·.1) = false := by rfl) : PE X (.Call (.Name x p) (e :: es) [] pos) (tCallX sp Ex t) := by
  intro pins s σ H Q I h
  obtain ⟨f, fd, F, hm, hk, hb⟩ := d.ex
  refine wpAny_Call_Name_kw (ld_glob I hg hm ?_ hdb)
  refine PySem.W.callWith_K (h₀ := X.base) I.ok.mod.kin hk (thn (ha pos pins s σ H _ I h) fun us s1 ⟨vs, H1, I1, r, q⟩ => ⟨I1.kIn, ?_⟩) he hpl
  have hl : (us ++ ([] : List Value)).length = ps.length := by rw [List.append_nil, ← r.length]; exact F.len _ _ _ _ q
  have bb := hb s1 us I1.kIn hl
  rw [List.append_nil] at bb
  refine wpAny_call (codeAny_mono ((F.mono hjk).run X.A X.stack s1 H1 ⟨us, []⟩ us vs Q (Ex σ) hr I1.env0 bb r q) fun r s' hq => ?_)
  cases r with
  | error e => exact hx pins σ H1 s1 e s' I1 hq
  | ok fl =>
    cases fl with
    | ret u => exact I1.after hq
    | next => exact False.elim hq
    | brk => exact False.elim hq
    | cont => exact False.elim hq
end

/-! ### try: .. except C as n: .. -/
/-- an exception of the class cls, made where none was handled -/
def excO (a : Addr) (cls : Value) : HO := .ext fun h => ∃ o, h.get? a = some o ∧ o.cls = cls ∧ ∃ vs, o.data = .fields vs ∧ vs[2]? = some .none
abbrev Cx.pinned (X : Cx) (pins : List (Addr × Obj)) : Cx := { X with pn := X.pn ++ pins }
abbrev Cx.tryX (X : Cx) (pins : List (Addr × Obj)) (Ex : XS) : Cx := (X.pinned pins).wish fun e s' => ∃ pins' σ H s, Inv (X.pinned pins) pins' σ H s ∧ CX1 X.prog X.w X.stack H s (Ex σ) e s'
abbrev Cx.inExc (X : Cx) (e : Value) : Cx := { X with A := X.A.mark (some e), calm := false, xe := fun _ _ => False }
section
variable {X : Cx} {pins pins' : List (Addr × Obj)} {σ : St} {H H' : Hp} {s : Shared}
end
end L2

namespace L2
open PySem PySem.Spec PyProof.Rows
def tTry (tb : XS → TS) (K : PySem.W.Frag) (R : Value) (i : Nat) (ts : TS) : TS := fun D σ H => ∃ Ex : XS, tb Ex D σ H ∧ ∀ σ' cls H', Ex σ' cls none H' → PySem.W.exmOne K cls R = some true ∧ ∀ a, H' a = none →
  ts { nx := fun σ2 H2 => D.nx (σ2.set i none) H2, rt := D.rt, bk := fun σ2 H2 => D.bk (σ2.set i none) H2, ct := fun σ2 H2 => D.ct (σ2.set i none) H2 } (σ'.set i (some (.ref a))) (upd H' a (excO a cls))
section
variable {X : Cx} {Ex : XS} {pins : List (Addr × Obj)} {tb : XS → TS} {ts : TS} {c n : Str} {i : Nat} {R : Addr} {body suite : List Stmt} {b₀ : Stmt} {np hpos pos : Pos}
end
end L2

/-! ### the class of an exception of an own class, as isinstance asks for it -/
namespace Mr.X
open PySem PySem.W PySem.Spec PySem.Calls PyProof.Rows Builtin Builtin.ObjectAttr Builtin.Getset_descriptor
section
variable {prog : Program} {w : World} {A : Around} {E : Value → Shared → Prop} {K : Frag} {D a : Addr} {h : Heap} {g : Array GenState} {d : Drawn} {t : Nat} {os : OsState} {o : Obj}
end
/-- what the fragment has of an own exception class -/
structure ExC (K : Frag) (D : Addr) : Prop where
  ga : findIn K (.ref D) "__getattribute__" = some (some (.builtin "BaseException.__getattribute__"))
  gt : findIn K (.ref D) "__getattr__" = some none
  cl : findIn K (.ref D) "__class__" = some (some (.builtin "object.__class__"))
  be : subIn K (.ref D) (.type "BaseException") = some true
  ob : mroIn K D (.type "object") = some true
  is : ∃ c d cd sl, K.lookup D = some ⟨c, d, .cls cd, sl⟩
end Mr.X
namespace L2
open PySem PySem.Spec PyProof.Rows
section
variable {X : Cx}
end
end L2

namespace L2
open PySem PySem.Spec PyProof.Rows
/-! ### a def that is called within an except suite: it makes no exception -/
structure RoomN (k : Nat) (A : Around) : Prop where
  dp : A.depth + 3 * k + 5 < recursionLimit
  un : A.units + 16 * k + 200 < cLine
structure FnOkN (P : Program) (w : World) (K : PySem.W.Frag) (mg : Str → Option Value) (base : Heap) (k : Nat) (f : Addr) (fd : FuncData) (ps : List Str) (sp : Sp) : Prop where
  len : ∀ vs H Q E, sp vs H Q E → vs.length = ps.length
  run : ∀ (A : Around) (outer : List Env) (s : Shared) (H : Hp) (args : Args) (us : List Value) (vs : List V) (Q : VK) (E : XK), RoomN k A → Env0 P w K mg base A outer s H → BindsTo s fd args (ps.zip us) → Vals vs us → sp vs H Q E →
    codeAny (model P w) A (.call (.ref f) args) (CR CX0 outer P w H s Q E) s
abbrev cxN (P : Program) (w : World) (K : PySem.W.Frag) (mg : Str → Option Value) (base : Heap) (N : List Str) (qual : Str) (scope : Scope) (f : Addr) (cd : Value) (A : Around) (outer : List Env) (s : Shared) (H : Hp) : Cx :=
  { (cxOf CX0 P w K mg base N qual scope f cd A outer s H E0).nox with calm := false }
structure DfN (P : Program) (w : World) (K : PySem.W.Frag) (mg : Str → Option Value) (base : Heap) (k : Nat) (x : Str) (ps : List Str) (sp : Sp) : Prop where
  ex : ∃ (f : Addr) (fd : FuncData), FnOkN P w K mg base k f fd ps sp ∧ mg x = some (.ref f) ∧ PySem.W.keepIn K (.ref f) = true ∧ Binds K fd ps []
section
variable {P : Program} {w : World} {K : PySem.W.Frag} {mg : Str → Option Value} {base : Heap}
end
section
variable {X : Cx} {k j : Nat} {x : Str} {ps : List Str} {sp : Sp} {e : Expr} {es : List Expr} {p pos : Pos} {t : TA}
end
end L2

namespace L2
open PySem PySem.Spec PyProof.Rows PySem.SeqAt PySem.MeetsSeq
/-! ### xs.count(b), xs.index(b) of truths -/
def isB (b : Bool) : Value → Bool
  | .bool c => c == b
  | _ => false
def rCountB : V → List V → Hp → VK → Prop := fun x vs H Q => ∃ (l : Addr) (bs : List Bool) (b : Bool), x = .ref l ∧ vs = [.bl b] ∧ H l = some (.lst (bs.map V.bl)) ∧ Q (.int (bs.count b : Nat)) H
def rIndexB : V → List V → Hp → VK → Prop := fun x vs H Q => ∃ (l : Addr) (bs : List Bool) (b : Bool) (j : Nat), x = .ref l ∧ vs = [.bl b] ∧ H l = some (.lst (bs.map V.bl)) ∧ bs[j]? = some b ∧ (∀ m, m < j → bs[m]? = some (!b)) ∧ Q (.int (j : Nat)) H
section
variable {X : Cx}
end
end L2

namespace L2
open PySem PySem.Spec PyProof.Rows
/-- an own error class of the text, by the fragment -/
theorem own_of {K : PySem.W.Frag} {h : Heap} {mg : Str → Option Value} {x : Str} {C : Addr} {bmB : List Value} {newId : String} (X : K.In h) (b : mg x = some (.ref C)) (q : PySem.W.excIn K C bmB newId = true) : OwnCls x C bmB newId mg h := by
  refine ⟨b, ?_⟩
  unfold PySem.W.excIn at q
  split at q
  · rename_i d data slots look
    split at q
    · rename_i C' tail s0 s1 s2 s3 id s5 em es
      simp only [beq_iff_eq, Bool.not_eq_true', Bool.and_eq_true] at q
      obtain ⟨⟨⟨⟨⟨rfl, rfl⟩, nodel⟩, tl⟩, nok⟩, noinit⟩ := q
      obtain ⟨a1, a2, a3, a4, a5, a6, a7, a8, a9, a10, a11⟩ := data
      dsimp only at em nodel nok noinit
      subst em nodel
      obtain rfl : slots = #[s0, s1, s2, s3, some (.builtin id), s5] := by
        obtain ⟨xs⟩ := slots
        simp only at es
        rw [es]
      exact ⟨tail, a4, a1, a5, a2, a6, a7, a8, a9, a10, d, s0, s1, s2, s3, s5, _, X _ _ look, .of_isNs (PySem.W.isNs_of_in X nok), PySem.W.nsMap_none_of_in X nok noinit, PySem.W.tail_of_in X tl⟩
    · cases q
  · cases q
/-- raise C(..), C under ValueError -/
def Er (K : PySem.W.Frag) (mg : Str → Option Value) (x : Str) (C : Addr) : Prop := mg x = some (.ref C) ∧ PySem.W.excIn K C [.type "ValueError", .type "Exception", .type "BaseException", .type "object"] "ValueError.__new__" = true
theorem ps_raiseV {X : Cx} {E : XK} {x : Str} {C : Addr} {np cpos pos : Pos} {e₀ : Expr} {es : List Expr} {t : TA} (L : Lv X E) (hc : X.calm = true) (er : Er X.K X.mg x C) (hg : Gl X x) (ha : PA X (e₀ :: es) t)
    (he : starEach (e₀ :: es) X.env = (false, eval e₀ X.env) :: starEach es X.env := by rfl) (hplain : (backTo cpos (starEach es X.env)).any (·.1) = false := by rfl) (hd : (x == ("__debug__" : Str)) = false := by decide) :
    PS X (.Raise (some (.Call (.Name x np) (e₀ :: es) [] cpos)) none pos) (tRaise (.ref C) E t) := fun pins s σ H D I h =>
  ps_raise L hc (own_of I.ok.mod.kin er.1 er.2) F.excBase_ValueError (by decide +kernel) F.excBase_ValueError hg ha he hplain hd pins s σ H D I h
end L2

namespace L2
open PySem PySem.Spec PyProof.Rows
/-! rules within a comprehension, where the context's K must be said plainly -/
section
variable {X : Cx} {K : PySem.W.Frag}
theorem ix_listK (h : X.K = K) : IxR X (rIxL K) := h ▸ ix_list
theorem ix_tupK (h : X.K = K) : IxR X (rIxT K) := h ▸ ix_tup
theorem call_len_seqK (h : X.K = K) : CallR X (.builtin "len") (fun xs H Q => ∃ p ys, xs = [.ref p] ∧ (SqL K H p ys ∨ SqT K H p ys) ∧ Q (.int ys.length) H) := h ▸ call_len_seq
end
end L2

namespace L2
open PySem PySem.Spec PyProof.Rows PySem.SeqAt PySem.MeetsSeq
/-! ### sum and max of a list of ints; xs.index(n); tuples and None compared by != -/
section
variable {X : Cx}
theorem call_sumI (hc : X.calm = true) : CallR X (.builtin "sum") (fun xs H Q => ∃ (p : Addr) (ns : List Int), xs = [.ref p] ∧ SqL X.K H p (ns.map V.int) ∧ Q (.int ns.sum) H) := by
  intro pins s σ H xs us Q I r h
  obtain ⟨p, ns, rfl, hq, q⟩ := h
  obtain ⟨u, rfl, ru⟩ := vals1 r
  cases ru
  obtain ⟨its, rv, pl, _⟩ := I.list hq
  have hi := intsAre_of rv
  have hl := pl.isList
  obtain ⟨ys, e⟩ := hi.allInts.items
  have hns : ns = ys.toList.map (·.1) := by rw [← hi.numsOf, ← nums_intItems, ← e]
  rw [e] at hl
  refine sum_intListG (I.ok.hd hc) hl fun h' tk t' hk => ⟨.int ns.sum, H, I.kept hk, ⟨t', ?_⟩, q⟩
  rw [preSum_eq, List.take_of_length_le (by simp), hns]
theorem call_maxI (hc : X.calm = true) : CallR X (.builtin "max") (fun xs H Q => ∃ (p : Addr) (ns : List Int), xs = [.ref p] ∧ SqL X.K H p (ns.map V.int) ∧ 0 < ns.length ∧ ∀ M, M ∈ ns → (∀ a, a ∈ ns → a ≤ M) → Q (.int M) H) := by
  intro pins s σ H xs us Q I r h
  obtain ⟨p, ns, rfl, hq, hne, q⟩ := h
  obtain ⟨u, rfl, ru⟩ := vals1 r
  cases ru
  obtain ⟨its, rv, pl, _⟩ := I.list hq
  have hi := intsAre_of rv
  have hl := pl.isList
  obtain ⟨xs, e⟩ := hi.allInts.items
  have hns : ns = xs.toList.map (·.1) := by rw [← hi.numsOf, ← nums_intItems, ← e]
  have hsz : 0 < xs.size := by have h3 := hne; rw [hns, List.length_map, Array.length_toList] at h3; exact h3
  rw [e] at hl
  refine max_intList (I.ok.hd hc) hl hsz fun v h' tk hv hk => ?_
  obtain ⟨t, rfl⟩ := intItems_at hv
  obtain ⟨h1, h2⟩ := argBest_gt (numAt xs) (xs.size - 1)
  refine ⟨.int _, H, I.kept hk, ⟨t, rfl⟩, q _ ?_ fun a ha => ?_⟩
  · rw [hns, numAt_eq]; exact getD_mem (by rw [List.length_map, Array.length_toList]; omega)
  · rw [hns] at ha
    obtain ⟨j, hj, rfl⟩ := mem_getD ha
    rw [List.length_map, Array.length_toList] at hj
    rw [← numAt_eq]; exact h2 j (by omega)
def isI (n : Int) : Value → Bool
  | .int c _ => c == n
  | _ => false
def rIndexI : V → List V → Hp → VK → Prop := fun x vs H Q => ∃ (l : Addr) (ns : List Int) (n : Int) (j : Nat), x = .ref l ∧ vs = [.int n] ∧ H l = some (.lst (ns.map V.int)) ∧ ns[j]? = some n ∧ (∀ m, m < j → ns[m]? ≠ some n) ∧ Q (.int (j : Nat)) H
theorem mt_indexI : MtM X "list.index" rIndexI := by
  intro pins s σ H x vs v us Q I rx rv h
  obtain ⟨l, ns, n, j, rfl, rfl, hH, hj, hno, q⟩ := h
  cases rx
  obtain ⟨u, rfl, ru⟩ := rv.one
  obtain ⟨tt, rfl⟩ : ∃ t, u = Value.int n t := ru
  obtain ⟨z, its, k, r, hl, e⟩ := I.lstM hH
  have jl : j < ns.length := (List.getElem?_eq_some_iff.mp hj).1
  have jz : ns.length ≤ sizeLine := by have := z; rw [List.length_map] at this; exact this
  have rl : its.length = ns.length := by have := r.length; rw [List.length_map] at this; exact this.symm
  have at_ : ∀ m (hm : m < its.toArray.size), ∃ t, its.toArray[m] = Value.int (ns[m]'(by rw [← rl]; simpa using hm)) t := fun m hm => by
    obtain ⟨a1, b1⟩ := r.at hm
    have hm' : m < ns.length := by rw [← rl]; simpa using hm
    have e2 : (ns.map V.int).getD m .non = V.int ns[m] := by rw [List.getD_eq_getElem?_getD, List.getElem?_map, List.getElem?_eq_getElem hm']; rfl
    rw [e2] at a1
    exact a1
  refine call_meets F.slot_list_index ⟨_, e, rfl⟩ F.entry_list_index (F.args_list_index_2 _ _) (list_indexAt l its.toArray k none #[] (.int n tt) (isI n) j (by simpa [rl] using jl) (by rw [sizeLine_eq] at jz; omega) ?_ ?_) ⟨e, fun y hy => ?_, ⟨.int (j : Nat), H, I.tok _, ⟨_, rfl⟩, q⟩⟩
  · obtain ⟨t, e1⟩ := at_ j (by simpa [rl] using jl)
    rw [e1]
    have : ns[j] = n := (List.getElem?_eq_some_iff.mp hj).2
    rw [this]
    show (n == n) = true
    simp
  · intro m hm hmj
    obtain ⟨t, e1⟩ := at_ m hm
    rw [e1]
    have hm' : m < ns.length := by rw [← rl]; simpa using hm
    have := hno m hmj
    rw [List.getElem?_eq_getElem hm'] at this
    show (ns[m] == n) = false
    rw [beq_eq_false_iff_ne]
    intro z
    exact this (by rw [z])
  · obtain ⟨m, hm, rfl⟩ := Array.mem_iff_getElem.mp hy
    obtain ⟨t, e1⟩ := at_ m hm
    rw [e1]
    exact EqAt.int_int _ _ _ _
/-- None against None, or two tuples of plain values, or one of each -/
def rNeTN : R2 := fun x y H Q => (x = .non ∧ y = .non ∧ Q (.bl false) H) ∨ ∃ p q xs ys, x = .ref p ∧ y = .ref q ∧ H p = some (.tup xs) ∧ H q = some (.tup ys) ∧ xs.all flatV = true ∧ ys.all flatV = true ∧ Q (.bl (!eqVs xs ys)) H
end
end L2

namespace L2
open PySem PySem.Spec PyProof.Rows
/-! ### for a, b in enumerate(xs), in zip(xs, ys) -/
section
variable {X : Cx} {pins : List (Addr × Obj)} {σ : St} {H : Hp} {s : Shared} {h' : Heap} {wr : List Addr} {t' : Nat}
/-- the iterator's records have turned, and a new tuple stands at T -/
theorem Inv.turnedT {T : Addr} {xs : List V} (I : Inv X pins σ H s) (k : ∀ b o, b ∉ wr → s.heap.get? b = some o → h'.get? b = some o) (hf : ∀ b ∈ wr, FpOk X pins H b) (hT : s.heap.objs.size ≤ T) (new : ObjOk X.prog X.w (upd H T (.tup xs)) h' T (.tup xs)) :
    Inv X pins σ (upd H T (.tup xs)) { s with heap := h', toks := t' } := by
  have hn : H T = none := I.hok.fresh hT
  have nit : ∀ b u, H b = some u → b ∉ wr := fun b u e z => by rw [(hf b z).1] at e; cases e
  have neT : ∀ b o, s.heap.get? b = some o → b ≠ T := fun b o e => Nat.ne_of_lt (Nat.lt_of_lt_of_le (Heap.lt_size e) hT)
  refine I.step (g' := s.gens) (d' := s.drawn) (ch := wr) (fun b hb => ?_) (fun b o _ _ hc e _ => k b o hc e) (fun b o _ _ hc e _ => ⟨o.slots, k b o hc e⟩) (fun b o _ e n => by rw [upd_ne (neT b o e)]; exact n)
    (fun b o hc e => ⟨o, k b o hc e⟩) (fun b ys e => by rw [upd_ne (ne_of_none e hn)]; exact e) (fun b _ _ e => by rw [upd_ne (ne_of_none e hn)]; exact e) (fun b ps e => ⟨#[], by rw [upd_ne (ne_of_none e hn), e]; simp⟩) (fun m hm => ?_) (fun b u e => ?_) I.bare
  · obtain ⟨_, f1, _, f3, f4, f5⟩ := hf b hb
    exact ⟨f3, f1, f4, f5⟩
  · obtain ⟨o, es, ep, ho, r⟩ := hm
    exact ⟨o, es, ep, k _ o (fun z => (hf _ z).2.1 rfl) ho, r⟩
  · by_cases hb : b = T
    · subst hb; rw [upd_same] at e; cases e; exact new
    · rw [upd_ne hb] at e
      refine (I.hok b u e).stay (fun c v hc q => k c v ?_ q) (fun c q => by rw [upd_ne (ne_of_none q hn)]; exact q) fun c xs q => by rw [upd_ne (ne_of_none q hn)]; exact q
      rcases hc with z | z
      · rw [z]; exact nit b u e
      · exact nit c _ z
theorem Inv.turnedL (I : Inv X pins σ H s) (k : ∀ b o, b ∉ wr → s.heap.get? b = some o → h'.get? b = some o) (hf : ∀ b ∈ wr, FpOk X pins H b) : Inv X pins σ H { s with heap := h', toks := t' } := by
  have nit : ∀ b u, H b = some u → b ∉ wr := fun b u e z => by rw [(hf b z).1] at e; cases e
  refine I.step (g' := s.gens) (d' := s.drawn) (ch := wr) (fun b hb => ?_) (fun b o _ _ hc e _ => k b o hc e) (fun b o _ _ hc e _ => ⟨o.slots, k b o hc e⟩) (fun b o _ e n => n)
    (fun b o hc e => ⟨o, k b o hc e⟩) (fun b ys e => e) (fun b _ _ e => e) (fun b ps e => ⟨#[], by rw [e]; simp⟩) (fun m hm => ?_) (fun b u e => ?_) I.bare
  · obtain ⟨_, f1, _, f3, f4, f5⟩ := hf b hb
    exact ⟨f3, f1, f4, f5⟩
  · obtain ⟨o, es, ep, ho, r⟩ := hm
    exact ⟨o, es, ep, k _ o (fun z => (hf _ z).2.1 rfl) ho, r⟩
  · refine (I.hok b u e).stay (fun c v hc q => k c v ?_ q) (fun _ q => q) fun _ _ q => q
    rcases hc with z | z
    · rw [z]; exact nit b u e
    · exact nit c _ z
end
/-- the list at a: at each turn a new tuple (i, item) -/
def Ite (a : Addr) : It :=
  ⟨fun i H => ∃ xs x, H a = some (.lst xs) ∧ xs[i]? = some x, fun i H x H' => ∃ (T : Addr) (v : V), x = .ref T ∧ H T = none ∧ H' = upd H T (.tup [.int (i : Int), v]) ∧ ∀ xs, H a = some (.lst xs) → xs[i]? = some v, fun i H => ∃ xs, H a = some (.lst xs) ∧ xs.length = i⟩
def iEnum (ta : TA) : TI := fun σ H R => ta σ H fun vs H1 => ∃ (a : Addr) (xs : List V), vs = [.ref a] ∧ H1 a = some (.lst xs) ∧ R (Ite a) H1
theorem boot_zip : bootBuiltins "zip" = some (.type "zip") := by decide +kernel
section
variable {X : Cx} {elts : List Expr} {k : Nat} {tp : Pos}
end
/-- two lists at once: at each turn a new tuple of both items -/
def Itz (a b : Addr) : It :=
  ⟨fun i H => ∃ xs ys x y, H a = some (.lst xs) ∧ H b = some (.lst ys) ∧ xs[i]? = some x ∧ ys[i]? = some y,
   fun i H z H' => ∃ (T : Addr) (x y : V), z = .ref T ∧ H T = none ∧ H' = upd H T (.tup [x, y]) ∧ ∀ xs ys, H a = some (.lst xs) → H b = some (.lst ys) → xs[i]? = some x ∧ ys[i]? = some y,
   fun i H => ∃ xs ys, H a = some (.lst xs) ∧ H b = some (.lst ys) ∧ min xs.length ys.length = i⟩
theorem turn_zip {P : Program} {w : World} {K : PySem.W.Frag} {elts : List Expr} {k : Nat} {pos : Pos} (z TI TO i1 i2 l1 l2 : Addr) (D : ZipApart z TI TO i1 i2 l1 l2) :
    Turn P w K (.Tuple elts k pos) (Itz l1 l2) [z, TI, TO, i1, i2] z (fun i h => IsZip h z TI TO .none ∧ IsPair h TI (.ref i1) (.ref i2) ∧ (∃ a b, IsPair h TO a b) ∧ h.IsListIter i1 l1 i ∧ h.IsListIter i2 l2 i) where
  mem := by simp
  obj := fun i h st b hb => by
    obtain ⟨hz, hTI, ⟨a', b', hTO⟩, ⟨o1, e1, c1, d1⟩, ⟨o2, e2, c2, d2⟩⟩ := st
    have hb' : b = z ∨ b = TI ∨ b = TO ∨ b = i1 ∨ b = i2 := by simpa using hb
    rcases hb' with rfl | rfl | rfl | rfl | rfl
    · exact ⟨_, hz, fun v z => by cases z⟩
    · exact ⟨_, hTI, fun v z => by cases z⟩
    · exact ⟨_, hTO, fun v z => by cases z⟩
    · exact ⟨o1, e1, fun v z => by rw [d1] at z; cases z⟩
    · exact ⟨o2, e2, fun v z => by rw [d2] at z; cases z⟩
  keep := fun i h h' st kk => by
    obtain ⟨hz, hTI, ⟨a', b', hTO⟩, h1, h2⟩ := st
    exact ⟨kk z (by simp) _ hz, kk TI (by simp) _ hTI, ⟨a', b', kk TO (by simp) _ hTO⟩, h1.at fun o x => kk i1 (by simp) o x, h2.at fun o x => kk i2 (by simp) o x⟩
  item := by
    intro X hP hw hK hc i pins s σ H E I hf st hg
    subst hP hw hK
    obtain ⟨xs, ys, x, y, hq, hq2, hx, hy⟩ := hg
    obtain ⟨its, rv, p, hz⟩ := I.list (SqL.of (K := X.K) hq)
    obtain ⟨jts, rv2, p2, hz2⟩ := I.list (SqL.of (K := X.K) hq2)
    obtain ⟨u, hu, ru⟩ := rv.get hx
    obtain ⟨u2, hu2, ru2⟩ := rv2.get hy
    obtain ⟨st1, st2, st3, st4, st5⟩ := st
    have hsub : ∀ b ∈ [z, TO, i1, i2], b ∈ [z, TI, TO, i1, i2] := fun b hb => by
      have hb' : b = z ∨ b = TO ∨ b = i1 ∨ b = i2 := by simpa using hb
      rcases hb' with rfl | rfl | rfl | rfl <;> simp
    have hwr : ∀ b ∈ [z, TO, i1, i2], FpOk X pins H b := fun b hb => hf b (hsub b hb)
    have W := WalksT.zip2 (prog := X.prog) (w := X.w) (A := X.A) (I.ok.hd hc) z TI TO i1 i2 l1 l2 D its.toArray jts.toArray
    have a1 := (List.getElem?_eq_some_iff.mp hu).1
    have a2 := (List.getElem?_eq_some_iff.mp hu2).1
    have hi : i < min its.toArray.size jts.toArray.size := by
      rw [List.size_toArray, List.size_toArray]
      omega
    refine W.item i s _ _ hi ⟨st1, st2, st3, st4, st5, p.isList, p2.isList⟩ fun T vals h' tk hP hT hIs hM hk => ⟨.ref T, rfl, ?_⟩
    obtain ⟨x', y', hx', hy', rfl⟩ := hP
    have hxu : x' = u := by
      have : its.toArray[i]? = some u := by simpa using hu
      rw [this] at hx'; exact (Option.some.inj hx').symm
    have hyu : y' = u2 := by
      have : jts.toArray[i]? = some u2 := by simpa using hu2
      rw [this] at hy'; exact (Option.some.inj hy').symm
    subst hxu hyu
    have I1 : Inv X pins σ (upd H T (.tup [x, y])) { s with heap := h', toks := tk } :=
      I.turnedT (t' := tk) hk hwr hT ⟨by show 2 ≤ sizeLine; decide, [x', y'], .cons ru (.cons ru2 .nil), hIs⟩
    have hn : H T = none := I.hok.fresh hT
    have hTI : s.heap.get? TI = some _ := st2
    have hnT : ∀ b ∈ [z, TI, TO, i1, i2], b ≠ T := fun b hb e => by
      have hb' : b ∈ [z, TO, i1, i2] ∨ b = TI := by
        have hb' : b = z ∨ b = TI ∨ b = TO ∨ b = i1 ∨ b = i2 := by simpa using hb
        rcases hb' with rfl | rfl | rfl | rfl | rfl <;> simp
      rcases hb' with hb' | hb'
      · exact W.apart i T h' hM (e ▸ hb')
      · have := Heap.lt_size hTI
        rw [← hb', e] at this
        exact absurd (Nat.lt_of_lt_of_le this hT) (Nat.lt_irrefl _)
    refine W.go elts k pos i T { s with heap := h', toks := tk } _ _ hM fun h2 st' hk2 => ?_
    have hf2 : ∀ b ∈ [z, TI, TO, i1, i2], FpOk X pins (upd H T (.tup [x, y])) b := fun b hb => ⟨by rw [upd_ne (hnT b hb)]; exact (hf b hb).1, (hf b hb).2⟩
    exact ⟨.ref T, _, I1.turnedL (h' := h2) (t' := tk) hk2 (fun b hb => hf2 b (hsub b hb)), rfl, ⟨T, x, y, rfl, hn, rfl, fun xs' ys' h1 h2 => by rw [hq] at h1; rw [hq2] at h2; cases h1; cases h2; exact ⟨hx, hy⟩⟩, ⟨st'.1, st'.2.1, st'.2.2.1, st'.2.2.2.1, st'.2.2.2.2.1⟩, fun b hb => (hf2 b hb).1⟩
  done := by
    intro X hP hw hK hc i pins s σ H E I hf st hg
    subst hP hw hK
    obtain ⟨xs, ys, hq, hq2, hx⟩ := hg
    obtain ⟨its, rv, p, hz⟩ := I.list (SqL.of (K := X.K) hq)
    obtain ⟨jts, rv2, p2, hz2⟩ := I.list (SqL.of (K := X.K) hq2)
    obtain ⟨st1, st2, st3, st4, st5⟩ := st
    have W := WalksT.zip2 (prog := X.prog) (w := X.w) (A := X.A) (I.ok.hd hc) z TI TO i1 i2 l1 l2 D its.toArray jts.toArray
    have hl : min its.toArray.size jts.toArray.size = i := by rw [← hx, List.size_toArray, List.size_toArray, ← rv.length, ← rv2.length]
    have hsub : ∀ b ∈ [z, TO, i1, i2], b ∈ [z, TI, TO, i1, i2] := fun b hb => by
      have hb' : b = z ∨ b = TO ∨ b = i1 ∨ b = i2 := by simpa using hb
      rcases hb' with rfl | rfl | rfl | rfl <;> simp
    refine W.done s _ _ (by rw [hl]; exact ⟨st1, st2, st3, st4, st5, p.isList, p2.isList⟩) fun h' tk hk => ⟨rfl, I.turnedL (t' := tk) hk fun b hb => hf b (hsub b hb)⟩
  self := fun _ _ _ _ _ st h => wpAny_pyIter_zip st.1 h
def iZip (ta : TA) : TI := fun σ H R => ta σ H fun vs H1 => ∃ (a b : Addr) (xs ys : List V), vs = [.ref a, .ref b] ∧ H1 a = some (.lst xs) ∧ H1 b = some (.lst ys) ∧ R (Itz a b) H1
section
variable {X : Cx} {elts : List Expr} {k : Nat} {tp : Pos}
theorem pi_zip {a b : Expr} {ta : TA} {p pos : Pos} (hg : Gl X "zip") (hm : X.mg "zip" = none) (ha : PA X [a, b] ta) (hs : starEach [a, b] X.env = [(false, eval a X.env), (false, eval b X.env)] := by rfl) (hs2 : starEach [b] X.env = [(false, eval b X.env)] := by rfl) :
    PI X (.Tuple elts k tp) (.Call (.Name "zip" p) [a, b] [] pos) (iZip ta) := by
  intro pins s σ H R I h
  refine Call_ (ld_blt I hg hm boot_zip (PyProof.Rows.callWith_type1 (thn (ha pos pins s σ H _ I h) fun us s1 ⟨vs, H1, I1, r1, q1⟩ => ?_) (by rw [hs, hs2]) (by rw [hs2]; rfl)))
  obtain ⟨a, b, xs, ys, e, hq, hq2, q⟩ := q1
  subst e
  cases r1 with
  | cons r rr =>
    cases rr with
    | cons r' rr =>
      cases rr
      cases r
      cases r'
      obtain ⟨its, rv, p, hz⟩ := I1.list (SqL.of (K := X.K) hq)
      obtain ⟨jts, rv2, p2, hz2⟩ := I1.list (SqL.of (K := X.K) hq2)
      have hlt1 : a < s1.heap.objs.size := I1.hok.lt hq
      have hlt2 : b < s1.heap.objs.size := I1.hok.lt hq2
      refine call_zip_2 p.isList p2.isList fun h' hz hTI hTO hi1 hi2 hsz hk => ?_
      refine wpAny_pyIter_zip (s := { s1 with heap := h' }) hz ?_
      have I2 : Inv X pins σ H1 { s1 with heap := h' } := I1.kept (t' := s1.toks) hk
      refine ⟨s1.heap.objs.size + 4, [s1.heap.objs.size + 4, s1.heap.objs.size + 2, s1.heap.objs.size + 3, s1.heap.objs.size, s1.heap.objs.size + 1], _, _, H1, rfl, I2, turn_zip (s1.heap.objs.size + 4) (s1.heap.objs.size + 2) (s1.heap.objs.size + 3) s1.heap.objs.size (s1.heap.objs.size + 1) a b (PySem.W.ktu_apart _ _ _ hlt1 hlt2), ⟨hz, hTI, ⟨_, _, hTO⟩, hi1, hi2⟩, fun c hc => ?_, q⟩
      have hb' : c = s1.heap.objs.size + 4 ∨ c = s1.heap.objs.size + 2 ∨ c = s1.heap.objs.size + 3 ∨ c = s1.heap.objs.size ∨ c = s1.heap.objs.size + 1 := by simpa using hc
      have hge : s1.heap.objs.size ≤ c := by
        rcases hb' with rfl | rfl | rfl | rfl | rfl
        · exact Nat.le_add_right _ _
        · exact Nat.le_add_right _ _
        · exact Nat.le_add_right _ _
        · exact Nat.le_refl _
        · exact Nat.le_add_right _ _
      exact I1.fpOk hge (I1.hok.fresh hge)
end
/-! the forms one uses -/
end L2

namespace L2
open PySem PySem.Spec PyProof.Rows
/-! ### comprehensions with a target of several names: [.. for a, b in zip(xs, ys)] -/
structure CompNamesL (X : Cx) (scope : Scope) (cl : List (Str × Addr)) (xs : List Str) (ys : List Str) (ix : List Nat) : Prop where
  clos : closureFor scope X.env = pure cl
  cell : (scope.names.all fun y => !(y.2 == NameKind.cell)) = true
  kind : scope.kind = .function
  names : (scope.names.all fun y => !(y.2 == NameKind.local) || scope.names.lookup y.1 == some NameKind.local) = true
  nd : (xs ++ ys).Nodup
  sub : SubOk X cl
  has : ((relabel scope X.env).names.all fun p => !(p.2 == NameKind.cell || p.2 == NameKind.free) || (cl.lookup p.1).isSome) = true
  free : FreeOk X scope cl ys ix
/-- the names' values at the block's start -/
def cstL (k : Nat) (ix : List Nat) (σ : St) : St := List.replicate k none ++ ix.map fun j => (σ[j]?).getD none
/-- .. and with the target stored -/
def cstV (vs : List V) (ix : List Nat) (σ : St) : St := vs.map some ++ ix.map fun j => (σ[j]?).getD none
section
variable {X : Cx} {scope : Scope} {cl : List (Str × Addr)} {xs ys : List Str} {ix : List Nat}
theorem CompNamesL.sub' (n : CompNamesL X scope cl xs ys ix) : ∀ y c, cl.lookup y = some c → X.env.cells.lookup y = some c := fun y c e => n.sub.mem (y, c) (lookup_mem e)
theorem CompNamesL.has' (n : CompNamesL X scope cl xs ys ix) : ∀ y, ((relabel scope X.env).names.lookup y = some .cell ∨ (relabel scope X.env).names.lookup y = some .free) → ∃ c, cl.lookup y = some c := fun y h => by
  have : ∃ k : NameKind, (y, k) ∈ (relabel scope X.env).names ∧ (k = .cell ∨ k = .free) := by
    rcases h with h | h
    · exact ⟨_, lookup_mem h, .inl rfl⟩
    · exact ⟨_, lookup_mem h, .inr rfl⟩
  obtain ⟨k, hm, hk⟩ := this
  have q := List.all_eq_true.mp n.has (y, k) hm
  have : (k == NameKind.cell || k == NameKind.free) = true := by
    rcases hk with rfl | rfl <;> decide
  simp only [this, Bool.not_true, Bool.false_or] at q
  exact Option.isSome_iff_exists.mp q
theorem CompNamesL.cell' (n : CompNamesL X scope cl xs ys ix) : ∀ y ∈ scope.names, y.2 ≠ .cell := fun y hy e => by
  have q := List.all_eq_true.mp n.cell y hy
  rw [e] at q
  exact absurd q (by decide)
theorem CompNamesL.names' (n : CompNamesL X scope cl xs ys ix) : ∀ y ∈ scope.names, y.2 = .local → scope.names.lookup y.1 = some .local := fun y hy e => by
  have q := List.all_eq_true.mp n.names y hy
  rw [e] at q
  have z : (NameKind.local == NameKind.local) = true := by decide
  simp only [z, Bool.not_true, Bool.false_or] at q
  exact eq_of_beq q
/-- the turns of a block whose target may be a tuple that the iterator keeps -/
theorem turns_go {prog : Program} {w : World} {A : Around} {s : Shared} {elt target iter : Expr} {ifs : List Expr} {sc : Scope} {pos : Pos} {it acc : Value} {env : Env} {R : Result → Shared → Prop} (I : Nat → Shared → Prop)
    (turn : ∀ n s, I n s → wpAny (model prog w) A (pyNext it) (fun r s1 => match r with | none => R (.ok .next) s1 | some v => wpAny (model prog w) A (letOwnedTupleGo target it v) (fun _ s0 => wpAny (model prog w) A (assign target env v) (fun _ s2 => wpAny (model prog w) A (forIn ifs true fun c r => if r = true then do let ok ← isTrue c env (eval c env); pure (ForInStep.yield ok) else pure (ForInStep.yield r)) (fun ok s3 => if ok = true then wpAny (model prog w) A (eval elt env) (fun x s4 => wpAny (model prog w) A (call (.builtin "list.append") [acc, x]) (fun _ s5 => ∃ m, m < n ∧ I m s5) (notedBy (model prog w) A env fun e s' => R (.error e) s') s4) (notedBy (model prog w) A env fun e s' => R (.error e) s') s3 else ∃ m, m < n ∧ I m s3) (notedBy (model prog w) A env fun e s' => R (.error e) s') s2) (notedBy (model prog w) A env fun e s' => R (.error e) s') s0) (notedBy (model prog w) A env fun e s' => R (.error e) s') s1) (notedBy (model prog w) A env fun e s' => R (.error e) s') s)
    (n : Nat) (h : I n s) : codeAny (model prog w) A (.compLoop (.ListComp elt [⟨target, iter, ifs, 0⟩] sc pos) 0 it acc env) R s := by
  refine codeAny_loop rfl I (fun n s hI => ?_) n h
  show wpAny _ A ((compTurn (.ListComp elt [⟨target, iter, ifs, 0⟩] sc pos) 0 it acc env).onRaise (fun x => do noteFrame x env; theTreesLotGoes x)) _ _ s
  refine wpAny_noted ?_
  rw [compTurn_list]
  refine wpAny_bind (wpAny_standAt (wpAny_bind (thn (turn n s hI) fun r s1 h1 => ?_)))
  cases r with
  | none => exact wpAny_pure h1
  | some v =>
    refine wpAny_bind (thn h1 fun _ s0 h0 => wpAny_bind (thn h0 fun _ s2 h2 => wpAny_bind (thn h2 fun ok s3 h3 => ?_)))
    cases ok with
    | false => exact wpAny_pure ⟨rfl, h3⟩
    | true => exact wpAny_bind (wpAny_bind (thn h3 fun x s4 h4 => wpAny_bind (thn h4 fun _ s5 h5 => wpAny_pure (wpAny_pure ⟨rfl, h5⟩))))
/-- [te for (a, b, ..) in wi if tt]: k names in the target -/
def tCompL (K : PySem.W.Frag) (k : Nat) (wi : TI) (ix : List Nat) (tt : TT) (te : TE) : TE := fun σ H Q => wi σ H fun J H1 => ∃ W : Nat → Nat → List V → Hp → Prop, (∃ m, W 0 m [] H1) ∧ ∀ i m ys H2, W i m ys H2 →
  (J.stop i H2 ∧ ys.length ≤ sizeLine ∧ ∀ p, H2 p = none → Q (.ref p) (upd H2 p (.lst ys))) ∨
  (J.go i H2 ∧ ys.length ≤ sizeLine ∧ ∀ x H3, J.yld i H2 x H3 → ∃ (a : Addr) (vs : List V), x = .ref a ∧ SqT K H3 a vs ∧ vs.length = k ∧ tt (cstV vs ix σ) H3 fun b H4 =>
    if b = true then te (cstV vs ix σ) H4 fun v H5 => ∃ m', m' < m ∧ W (i + 1) m' (ys ++ [v]) H5 else ∃ m', m' < m ∧ W (i + 1) m' ys H4)
theorem cmp_startL {pins : List (Addr × Obj)} {σ : St} {H : Hp} {s : Shared} {fp : List Addr} {D C : Addr} {h₁ : Heap} {tk : Nat} {ob : Obj} {m : Str → Option Value} (n : CompNamesL X scope cl xs ys ix) (I : Inv X pins σ H s)
    (f : ∀ b ∈ fp, FpOk X pins H b) (fo : ∀ b ∈ fp, b < s.heap.objs.size) (hD : s.heap.objs.size ≤ D) (hC : s.heap.objs.size ≤ C) (hDC : D ≠ C) (old : ∀ b o, s.heap.get? b = some o → h₁.get? b = some o) (hns : h₁.Ns C m) (hob : h₁.get? D = some ob)
    (hcell : ∀ v, ob.data ≠ .cell v) : Inv (cmpCx X (xs ++ ys) scope cl C fp s H) [(D, ob)] (cstL xs.length ix σ) H { s with heap := h₁, toks := tk } := by
  have nst : ∀ b, s.heap.objs.size ≤ b → b ∉ frs X.stack := fun b hb z => by
    rcases List.mem_cons.mp (I.stkSub b z) with e | e
    · exact absurd (Nat.lt_of_lt_of_le I.lt (by rw [← e]; exact hb)) (Nat.lt_irrefl _)
    · exact I.nofs hb e
  have lt_cell : ∀ y c, cl.lookup y = some c → c < s.heap.objs.size := fun y c e => by
    obtain ⟨v, q⟩ := I.cell y c (n.sub' y c e)
    exact q.lt
  refine ⟨⟨I.ok.mod, n.kind, I.ok.glob, I.ok.blt, hC, fun y z c h1 h2 => I.ok.inj y z c (n.sub' y c h1) (n.sub' z c h2), n.has', (fun y c h => absurd (show false = true from h) (by decide)), I.ok.hd, I.ok.frames, .inl rfl, fun b hb => ⟨?_, fun y c e => ?_⟩, I.bs,
    Nat.le_trans I.ok.bsz I.sz, fun b o e hb => ?_, fun b hb z => ?_, I.stack, I.stkFree⟩, rfl, I.bare, Un.kept old, ⟨m, hns, fun i y v h1 h2 h3 => ?_⟩, fun y c e => ?_, I.hok.fresh hC, fun y c e => I.freeC y c (n.sub' y c e), fun p hp => ?_, I.hok.kept old, ?_⟩
  · exact Nat.ne_of_lt (Nat.lt_of_lt_of_le (fo b hb) hC)
  · exact (f b hb).2.2.2.2.1 y c (n.sub' y c e)
  · rcases (f b hb).2.2.2.1 with z | z
    · exact I.ok.noex b o e z
    · exact absurd (Nat.lt_of_lt_of_le (Heap.lt_size e) (Nat.le_trans I.ok.bsz z)) (Nat.lt_irrefl _)
  · rcases List.mem_cons.mp (I.stkSub b z) with e | e
    · exact (f b hb).2.1 e
    · exact (f b hb).2.2.1 e
  · by_cases hi : i < xs.length
    · have h2' : (cstL xs.length ix σ)[i]? = some (some v) := h2
      unfold cstL at h2'
      rw [List.getElem?_append_left (by simpa using hi), List.getElem?_replicate, if_pos hi] at h2'
      cases Option.some.inj h2'
    · obtain ⟨j, rfl⟩ : ∃ j, i = xs.length + j := ⟨i - xs.length, by omega⟩
      have h1' : ys[j]? = some y := by
        have h1'' : (xs ++ ys)[xs.length + j]? = some y := h1
        rw [List.getElem?_append_right (by omega)] at h1''
        simpa using h1''
      obtain ⟨i, e1, e2, e3, e4, e5⟩ := n.free.at j y h1'
      have h2' : (ix.map fun j => (σ[j]?).getD none)[j]? = some (some v) := by
        have h2'' : (cstL xs.length ix σ)[xs.length + j]? = some (some v) := h2
        unfold cstL at h2''
        rw [List.getElem?_append_right (by simp)] at h2''
        simpa using h2''
      rw [List.getElem?_map, e1] at h2'
      have h2'' : (σ[i]?).getD none = some v := Option.some.inj h2'
      have h4 : σ[i]? = some (some v) := by
        cases q : σ[i]? with
        | none => rw [q] at h2''; cases h2''
        | some o => rw [q] at h2''; exact congrArg some h2''
      obtain ⟨m', hn', hl⟩ := I.loc
      obtain ⟨u, r, look⟩ := hl i y v e2 h4 (.inr (.inl e3))
      refine ⟨u, r, .inr ⟨.inl e5, ?_⟩⟩
      rcases look with ⟨k, _⟩ | ⟨_, c, e, z⟩
      · rw [e3] at k; cases k
      · refine ⟨c, e4.trans e, ?_⟩
        obtain ⟨o, ho, hd⟩ := z
        exact ⟨o, old _ _ ho, hd⟩
  · obtain ⟨v, o, ho, hd⟩ := I.cell y c (n.sub' y c e)
    exact ⟨v, o, old _ _ ho, hd⟩
  · have hp' : p ∈ [(D, ob)] := hp
    have e := List.mem_singleton.mp hp'
    subst e
    exact ⟨hob, I.hok.fresh hD, hDC, nst D hD, hcell⟩
  · show (cstL xs.length ix σ).length = (xs ++ ys).length
    simp [cstL, n.free.len]

theorem pe_compL {elt iter : Expr} {elts ifs : List Expr} {kt : Nat} {px pos : Pos} {wi : TI} {gs : TGs} {tt : TT} {te : TE} (n : CompNamesL X scope cl xs ys ix) (hc : X.calm = true) (hi : PI X (.Tuple elts kt px) iter wi)
    (hg : ∀ C fp s H, PG (cmpCx X (xs ++ ys) scope cl C fp s H) (.Tuple elts kt px) (gTup X.K xs.length gs)) (hgs : ∀ (vs : List V) (cs : St) (H : Hp) (Q : St → Hp → Prop), vs.length = xs.length → Q (vs.map some ++ cs) H → gs vs (List.replicate xs.length none ++ cs) H Q)
    (ht : ∀ C fp s H, PTs (cmpCx X (xs ++ ys) scope cl C fp s H) ifs tt) (he : ∀ C fp s H, PE (cmpCx X (xs ++ ys) scope cl C fp s H) elt te)
    (hs : ∀ x, foldedSetIterable iter X.env x = pure x := by intro _; rfl) : PE X (.ListComp elt [⟨.Tuple elts kt px, iter, ifs, 0⟩] scope pos) (tCompL X.K xs.length wi ix tt te) := by
  intro pins s σ H Q I h
  rw [eval_ListComp]
  refine wpAny_comprehension_free (use := none) rfl hs n.clos n.kind n.names' (thn (hi pins s σ H _ I h) fun v s1 h1 => thn h1 fun itv s2 h2 => ?_)
  obtain ⟨it, fp, tn, J, H2, e, I2, T, st2, f2, W, ⟨m0, w0⟩, turn⟩ := h2
  subst e
  have fo : ∀ b ∈ fp, b < s2.heap.objs.size := fun b hb => let ⟨_, e, _⟩ := T.obj _ _ st2 b hb; Heap.lt_size e
  refine wpAny_newObj_type (wpAny_newFunctionEnv n.cell' (by intro y hy; simp at hy) (fun h₁ hns₁ hsb₁ => ?_) n.kind)
  dsimp only at hns₁ hsb₁ ⊢
  generalize hH3 : s2.heap.push { cls := .type "list", dict := none, data := .seq ([] : List Value).toArray } = G at hns₁ hsb₁ ⊢
  have hC : G.objs.size = s2.heap.objs.size + 1 := by rw [← hH3, Heap.size_push]
  have hDC : s2.heap.objs.size ≠ G.objs.size := by rw [hC]; exact Nat.ne_of_lt (Nat.lt_succ_self _)
  have hCle : s2.heap.objs.size ≤ G.objs.size := by rw [hC]; exact Nat.le_succ _
  have below : ∀ b, b < s2.heap.objs.size → b ≠ G.objs.size ∧ b ≠ s2.heap.objs.size := fun b hb => ⟨by rw [hC]; exact Nat.ne_of_lt (Nat.lt_succ_of_lt hb), Nat.ne_of_lt hb⟩
  have old : ∀ b o, s2.heap.get? b = some o → h₁.get? b = some o := fun b o e => hsb₁.extBut b o (below b (Heap.lt_size e)).1 (Heap.get?_push_of_some _ (hH3 ▸ Heap.get?_push_of_some _ e))
  have hacc : h₁.get? s2.heap.objs.size = some { cls := .type "list", data := .seq ([] : List Value).toArray 0 } := hsb₁.extBut _ _ hDC (Heap.get?_push_of_some _ (hH3 ▸ Heap.get?_push_size _ rfl))
  have st1 : tn 0 h₁ := T.keep _ _ _ st2 fun b _ o e => old b o e
  have stat : ∀ {H' : Hp} {ob : Obj}, (∀ b ∈ fp, H' b = none) → ∀ b ∈ fp, FpOk (cmpCx X (xs ++ ys) scope cl G.objs.size fp s2 H2) [(s2.heap.objs.size, ob)] H' b := fun {H' ob} hn b hb =>
    ⟨hn b hb, (below b (fo b hb)).1, fun z => by
      rcases List.mem_cons.mp (I2.stkSub b z) with e | e
      · exact (f2 b hb).2.1 e
      · exact (f2 b hb).2.2.1 e, .inl hb, fun y c e => (f2 b hb).2.2.2.2.1 y c (n.sub' y c e), fun p hp => by
      have hp' : p ∈ [(s2.heap.objs.size, ob)] := hp
      have e := List.mem_singleton.mp hp'
      subst e
      exact Ne.symm (below b (fo b hb)).2⟩
  have hfin : ∀ (s4 : Shared) (H3 : Hp) (zs : List V) (its : List Value) (k : Nat) (m' : Str → Option Value), Inv (cmpCx X (xs ++ ys) scope cl G.objs.size fp s2 H2) [(s2.heap.objs.size, { cls := .type "list", data := .seq its.toArray k })] (cstL xs.length ix σ) H3 s4 → Vals zs its →
      zs.length ≤ sizeLine → (∀ p, H3 p = none → Q (.ref p) (upd H3 p (.lst zs))) → compPost (model X.prog X.w) X.A X.xe none (EP X pins σ Q) (.ref s2.heap.objs.size) G.objs.size (.ok .next) s4 := by
    intro s4 H3 zs its k m' I4 rv hz q
    obtain ⟨m4, hn4, _⟩ := I4.loc
    refine ⟨m4, hn4, fun h' hs' => ?_⟩
    obtain ⟨eD, nD, _, _, _⟩ := I4.pin (s2.heap.objs.size, { cls := .type "list", data := .seq its.toArray k }) (by show _ ∈ [] ++ [_]; simp)
    have nC : H3 G.objs.size = none := I4.free
    have kp : ∀ b o, b ≠ G.objs.size → s4.heap.get? b = some o → h'.get? b = some o := fun b o hb e => hs'.extBut b o hb e
    have hok : HOk X.prog X.w (upd H3 s2.heap.objs.size (.lst zs)) h' := fun b u e => by
      by_cases hb : b = s2.heap.objs.size
      · subst hb
        rw [upd_same] at e
        cases e
        exact ⟨hz, its, k, rv, kp _ _ hDC eD⟩
      · rw [upd_ne hb] at e
        exact (I4.hok b u e).stay (fun c w hc qq => kp c w (by
          rcases hc with z | z
          · intro y; rw [y] at z; rw [← z, nC] at e; cases e
          · exact ne_of_none z nC) qq) (fun c qq => by rw [upd_ne (ne_of_none qq nD)]; exact qq) fun c xs qq => by rw [upd_ne (ne_of_none qq nD)]; exact qq
    have un : Un (frs X.stack) fp H2 (upd H3 s2.heap.objs.size (.lst zs)) s2.heap h' := by
      have u4 : Un (frs X.stack) fp H2 H3 s2.heap s4.heap := I4.base
      refine ⟨fun b o e nn hb hx => kp b o (below b (Heap.lt_size e)).1 (u4.keep b o e nn hb hx), fun b o e nn hb hx => ?_, fun b o e nn hx => ?_, fun b o e hx => ?_, fun b xs e => ?_, fun b o u e => ?_, fun b ps e => ?_⟩
      · obtain ⟨sl, e1⟩ := u4.slot b o e nn hb hx
        exact ⟨sl, kp _ _ (below b (Heap.lt_size e)).1 e1⟩
      · rw [upd_ne (below b (Heap.lt_size e)).2]
        exact u4.free b o e nn hx
      · obtain ⟨o', e1⟩ := u4.there b o e hx
        exact ⟨o', kp _ _ (below b (Heap.lt_size e)).1 e1⟩
      · have z := u4.tups b xs e
        rw [upd_ne (ne_of_none z nD)]
        exact z
      · have z := u4.frzs b o u e
        rw [upd_ne (ne_of_none z nD)]
        exact z
      · obtain ⟨more, z⟩ := u4.tbls b ps e
        exact ⟨more, by rw [upd_ne (ne_of_none z nD)]; exact z⟩
    exact ⟨.ref s2.heap.objs.size, upd H3 s2.heap.objs.size (.lst zs), I2.call' (s' := { s4 with heap := h' }) (ch := fp) I4.os un hok I4.bare (fun b hb => ⟨(f2 b hb).2.2.2.1, (f2 b hb).2.1, (f2 b hb).2.2.2.2.1, (f2 b hb).2.2.2.2.2⟩), rfl, q _ nD⟩
  have loop : ∀ s₃ : Shared, s₃ = { s2 with heap := h₁, toks := s2.toks + ([] : List (Str × Value)).length } →
      codeAny (model X.prog X.w) X.A (.compLoop (.ListComp elt [⟨.Tuple elts kt px, iter, ifs, 0⟩] scope pos) 0 (.ref it) (.ref s2.heap.objs.size) (compEnvC scope cl G.objs.size X.env))
        (compPost (model X.prog X.w) X.A X.xe none (EP X pins σ Q) (.ref s2.heap.objs.size) G.objs.size) s₃ := by
    rintro s₃ rfl
    refine turns_go (fun m s' => ∃ (i : Nat) (zs : List V) (its : List Value) (k : Nat) (H' : Hp),
        Inv (cmpCx X (xs ++ ys) scope cl G.objs.size fp s2 H2) [(s2.heap.objs.size, { cls := .type "list", data := .seq its.toArray k })] (cstL xs.length ix σ) H' s' ∧ Vals zs its ∧ tn i s'.heap ∧ (∀ b ∈ fp, H' b = none) ∧ W i m zs H') ?_ m0
      ⟨0, [], [], 0, H2, cmp_startL n I2 f2 fo (Nat.le_refl _) hCle hDC old hns₁ hacc (fun v z => by cases z), .nil, st1, fun b hb => (f2 b hb).1, w0⟩
    rintro m s3 ⟨i, zs, its, k, H3, I3, rv, st3, fr3, w3⟩
    rcases turn i m zs H3 w3 with ⟨stop, hz, qn⟩ | ⟨go, hz, step⟩
    · refine nof (thn (T.done (cmpCx X (xs ++ ys) scope cl G.objs.size fp s2 H2) rfl rfl rfl hc i _ s3 _ H3 _ I3 (stat fr3) st3 stop) fun r s4 ⟨hr, I4⟩ => ?_)
      subst hr
      exact hfin s4 H3 zs its k (fun _ => none) I4 rv hz qn
    · refine nof (thn (T.item (cmpCx X (xs ++ ys) scope cl G.objs.size fp s2 H2) rfl rfl rfl hc i _ s3 _ H3 _ I3 (stat fr3) st3 go) fun r s4 ⟨u, hr, h4⟩ => ?_)
      subst hr
      have go_on : ∀ {s5 s7 : Shared} {vs : List V} {H5 H7 : Hp}, vs.length = xs.length → (∀ b ∈ fp, H5 b = none) → tn (i + 1) s5.heap → Inv (cmpCx X (xs ++ ys) scope cl G.objs.size fp s2 H2) ([(s2.heap.objs.size, { cls := .type "list", data := .seq its.toArray k })] ++ pinsAt fp s5.heap) (cstV vs ix σ) H7 s7 →
          Inv (cmpCx X (xs ++ ys) scope cl G.objs.size fp s2 H2) [(s2.heap.objs.size, { cls := .type "list", data := .seq its.toArray k })] (cstL xs.length ix σ) H7 s7 ∧ tn (i + 1) s7.heap ∧ (∀ b ∈ fp, H7 b = none) := by
        intro s5 s7 vs H5 H7 hvl fr5 st5 I7
        have pn : ∀ b o, b ∈ fp → s5.heap.get? b = some o → s7.heap.get? b = some o ∧ H7 b = none := fun b o hb e => by
          have z := I7.pin (b, o) (List.mem_append_right _ (List.mem_append_right _ (mem_pinsAt hb e)))
          exact ⟨z.1, z.2.1⟩
        refine ⟨(I7.weak (σ' := cstL xs.length ix σ) (by simp [cstL, cstV, hvl]) fun j v e => ?_).unpinned, T.keep _ _ _ st5 fun b hb o e => (pn b o hb e).1, fun b hb => ?_⟩
        · unfold cstL at e
          unfold cstV
          by_cases hj : j < xs.length
          · rw [List.getElem?_append_left (by simpa using hj), List.getElem?_replicate, if_pos hj] at e
            cases Option.some.inj e
          · rw [List.getElem?_append_right (by simp; omega)] at e ⊢
            simpa [hvl] using e
        · obtain ⟨o, e, _⟩ := T.obj _ _ st5 b hb
          exact (pn b o hb e).2
      refine nof (thn h4 fun _ s5 ⟨y, H5, I5, r5, y5, st5, fr5⟩ => ?_)
      have I5' := I5.pinned (stat fr5) (T.obj _ _ st5)
      obtain ⟨a, vs, e1, hq, hvl, q5⟩ := step y _ y5
      subst e1
      refine nof (thn (hg _ _ _ _ _ s5 _ H5 (.ref a) u (fun σ' H' => σ' = cstV vs ix σ ∧ H' = H5) I5' r5 ⟨a, vs, rfl, hq, hvl, hgs vs _ _ _ hvl ⟨rfl, rfl⟩⟩) fun _ s6 ⟨σ6, H6, I6, e6, e6'⟩ => ?_)
      subst e6 e6'
      refine nof (thn (ht _ _ _ _ _ s6 _ _ _ I6 q5) fun b s7 ⟨H7, I7, q7⟩ => ?_)
      cases b with
      | false =>
        rw [if_neg (by decide)] at q7 ⊢
        obtain ⟨m', hm, w7⟩ := q7
        obtain ⟨I8, st8, fr8⟩ := go_on hvl fr5 st5 I7
        exact ⟨m', hm, i + 1, zs, its, k, H7, I8, rv, st8, fr8, w7⟩
      | true =>
        rw [if_pos rfl] at q7 ⊢
        refine nof (thn (he _ _ _ _ _ s7 _ _ _ I7 q7) fun v8 s8 ⟨z8, H8, I8, r8, m', hm, w8⟩ => ?_)
        obtain ⟨I9, st9, fr9⟩ := go_on hvl fr5 st5 I8
        obtain ⟨eD, nD, neL, _, _⟩ := I9.pin (s2.heap.objs.size, { cls := .type "list", data := .seq its.toArray k }) (by show _ ∈ [] ++ [_]; simp)
        refine append_at eD (fun h' hs' hD' => ?_) (by rw [List.size_toArray, ← rv.length]; exact hz)
        have kp : ∀ b o, b ≠ s2.heap.objs.size → s8.heap.get? b = some o → h'.get? b = some o := fun b o hb e => hs'.extBut b o hb e
        have lt_cell : ∀ y c, cl.lookup y = some c → c ≠ s2.heap.objs.size := fun y c e => by
          obtain ⟨v, q⟩ := I2.cell y c (n.sub' y c e)
          exact Nat.ne_of_lt q.lt
        have nst : s2.heap.objs.size ∉ frs X.stack := fun z => by
          rcases List.mem_cons.mp (I2.stkSub _ z) with e | e
          · exact absurd (Nat.lt_of_lt_of_le I2.lt (by rw [← e]; exact Nat.le_refl _)) (Nat.lt_irrefl _)
          · exact I2.nofs (Nat.le_refl _) e
        have I10 : Inv (cmpCx X (xs ++ ys) scope cl G.objs.size fp s2 H2) [] (cstL xs.length ix σ) H8 { s8 with heap := h', toks := s8.toks } :=
          (I9.pins_of (pins' := []) fun p hp => absurd hp (by simp)).turned (it := s2.heap.objs.size) kp nD neL (.inr (Nat.le_refl _)) lt_cell fun p hp => absurd (show p ∈ ([] : List (Addr × Obj)) from hp) (by simp)
        refine ⟨m', hm, i + 1, zs ++ [z8], its ++ [v8], k + 1, H8, I10.pins_of fun p hp => ?_, rv.append (.cons r8 .nil), T.keep _ _ _ st9 fun b hb o e => kp b o (below b (fo b hb)).2 e, fr9, w8⟩
        have e := List.mem_singleton.mp hp
        subst e
        refine ⟨?_, nD, hDC, nst, fun v z => by cases z⟩
        rw [← List.push_toArray]
        exact hD'
  exact codeAny_compStart_list (loop _ rfl) (T.self X.A 0 _ _ _ st1 (loop _ rfl))
end

/-! the targets of two and of three names -/
theorem gs2 (vs : List V) (cs : St) (H : Hp) (Q : St → Hp → Prop) (h : vs.length = 2) (q : Q (vs.map some ++ cs) H) : gCons (gName 0) (gCons (gName 1) gNil) vs (List.replicate 2 none ++ cs) H Q := by
  match vs, h with
  | [a, b], _ => exact ⟨a, [b], rfl, b, [], rfl, rfl, q⟩
theorem comp_zip {K : PySem.W.Frag} {a b : Addr} {xs zs : List V} {σ : St} {ix : List Nat} {tt : TT} {te : TE} {H : Hp} {Z : List V → Hp → Prop} (hl : xs.length ≤ sizeLine) (Pv : Nat → List V → Hp → Prop) (h0 : Pv 0 [] H) (hk : ∀ i ys H, Pv i ys H → H a = some (.lst xs) ∧ H b = some (.lst zs))
    (hs : ∀ i x y ys H (N : List V → Hp → Prop) T, xs[i]? = some x → zs[i]? = some y → ys.length ≤ i → Pv i ys H → H T = none → (∀ ys' H', ys'.length ≤ i + 1 → Pv (i + 1) ys' H' → N ys' H') →
      tt (cstV [x, y] ix σ) (upd H T (.tup [x, y])) fun b H4 => if b = true then te (cstV [x, y] ix σ) H4 fun v H5 => N (ys ++ [v]) H5 else N ys H4)
    (hd : ∀ ys H, ys.length ≤ min xs.length zs.length → Pv (min xs.length zs.length) ys H → Z ys H) :
    ∃ W : Nat → Nat → List V → Hp → Prop, (∃ m, W 0 m [] H) ∧ ∀ i m ys H2, W i m ys H2 →
      ((Itz a b).stop i H2 ∧ ys.length ≤ sizeLine ∧ Z ys H2) ∨
      ((Itz a b).go i H2 ∧ ys.length ≤ sizeLine ∧ ∀ x H3, (Itz a b).yld i H2 x H3 → ∃ (a : Addr) (vs : List V), x = .ref a ∧ SqT K H3 a vs ∧ vs.length = 2 ∧ tt (cstV vs ix σ) H3 fun b H4 =>
        if b = true then te (cstV vs ix σ) H4 fun v H5 => ∃ m', m' < m ∧ W (i + 1) m' (ys ++ [v]) H5 else ∃ m', m' < m ∧ W (i + 1) m' ys H4) := by
  refine ⟨fun i m ys H => m = min xs.length zs.length - i ∧ i ≤ min xs.length zs.length ∧ ys.length ≤ i ∧ Pv i ys H, ⟨min xs.length zs.length, by simp, Nat.zero_le _, Nat.le_refl _, h0⟩, ?_⟩
  rintro i m ys H ⟨rfl, hi, hy, p⟩
  obtain ⟨q1, q2⟩ := hk i ys H p
  by_cases hlt : i < min xs.length zs.length
  · have l1 : i < xs.length := by omega
    have l2 : i < zs.length := by omega
    refine .inr ⟨⟨xs, zs, xs[i], zs[i], q1, q2, by simp [l1], by simp [l2]⟩, by omega, fun z H' y => ?_⟩
    obtain ⟨T, x, y, rfl, hn, rfl, hv⟩ := y
    obtain ⟨v1, v2⟩ := hv xs zs q1 q2
    refine ⟨T, [x, y], rfl, SqT.of upd_same, rfl, ?_⟩
    exact hs i x y ys _ (fun ys' H5 => ∃ m', m' < min xs.length zs.length - i ∧ m' = min xs.length zs.length - (i + 1) ∧ i + 1 ≤ min xs.length zs.length ∧ ys'.length ≤ i + 1 ∧ Pv (i + 1) ys' H5) T v1 v2 hy p hn fun ys' H' h1 h2 => ⟨min xs.length zs.length - (i + 1), by omega, rfl, hlt, h1, h2⟩
  · have e : i = min xs.length zs.length := by omega
    subst e
    exact .inl ⟨⟨xs, zs, q1, q2, rfl⟩, by omega, hd ys H hy p⟩
end L2

namespace L2
open PySem PySem.Spec PyProof.Rows
/-! ### xs[::-1] of a list; is True, is not True; the other rules that laws of reaches want -/
section
variable {X : Cx}
def tRevL (K : PySem.W.Frag) (te ts : TE) : TE := fun σ H Q => te σ H fun x H1 => ts σ H1 fun y H2 => ∃ a xs, x = .ref a ∧ y = .int (-1) ∧ SqL K H2 a xs ∧ ∀ p, H2 p = none → Q (.ref p) (upd H2 p (.lst xs.reverse))
end
end L2

namespace L2
open PySem PySem.Spec PyProof.Rows PySem.SeqAt PySem.MeetsSeq
/-! ### deep values that are the same: ==, != ; lists against []; insert(0, x); reversed(xs); divmod by greater numbers -/
/-- x and y have the same plain values in the same places, n deep -/
def DSame (H : Hp) : Nat → V → V → Prop
  | 0, x, y => flatV x = true ∧ x = y
  | n + 1, x, y => (flatV x = true ∧ x = y) ∨ (∃ p q xs ys, x = .ref p ∧ y = .ref q ∧ H p = some (.lst xs) ∧ H q = some (.lst ys) ∧ xs.length = ys.length ∧ ∀ (j : Nat) (u v : V), xs[j]? = some u → ys[j]? = some v → DSame H n u v) ∨
    (∃ p q xs ys, x = .ref p ∧ y = .ref q ∧ H p = some (.tup xs) ∧ H q = some (.tup ys) ∧ xs.length = ys.length ∧ ∀ (j : Nat) (u v : V), xs[j]? = some u → ys[j]? = some v → DSame H n u v)
theorem eqV_refl : ∀ {x : V}, flatV x = true → eqV x x = true
  | .non, _ => rfl
  | .bl b, _ => by show (b == b) = true; simp
  | .int i, _ => by show (i == i) = true; simp
  | .str z, _ => by show (z == z) = true; simp
theorem Room.units2 {k : Nat} {A : Around} (r : Room k A) : A.units + 1 + 1 < cLine := by have := r.un; omega
section
variable {X : Cx} {pins : List (Addr × Obj)} {σ : St} {H : Hp} {s : Shared}
theorem all_tt (n : Nat) : ((List.range n).all fun _ => true) = true := by simp
theorem DSame.at (I : Inv X pins σ H s) : ∀ {n : Nat} {x y : V} {v u : Value} {A : Around}, A.units + n < cLine → DSame H n x y → RelV x v → RelV y u → EqAt A s v u true
  | 0, x, y, v, u, A, _, ⟨hf, e⟩, rx, ry => by
    subst e
    have := eqAt_V (A := A) (s := s) rx ry hf hf
    rw [eqV_refl hf] at this
    exact this
  | n + 1, x, y, v, u, A, hu, h, rx, ry => by
    have hu0 : A.units < cLine := by omega
    have hin : A.in1.units + n < cLine := by show A.units + 1 + n < cLine; omega
    rcases h with ⟨hf, e⟩ | ⟨p, q, xs, ys, rfl, rfl, hp, hq, hl, hd⟩ | ⟨p, q, xs, ys, rfl, rfl, hp, hq, hl, hd⟩
    · subst e
      have := eqAt_V (A := A) (s := s) rx ry hf hf
      rw [eqV_refl hf] at this
      exact this
    · cases rx
      cases ry
      by_cases hne : p = q
      · subst hne; exact EqAt.same _
      obtain ⟨its, r1, p1, _⟩ := I.list (SqL.of (K := X.K) hp)
      obtain ⟨jts, r2, p2, _⟩ := I.list (SqL.of (K := X.K) hq)
      have := RcAt.lists (e := fun _ => true) p1.isList p2.isList (by simp; rw [← r1.length, ← r2.length]; exact hl) hu0 (fun j h1 h2 => by
        obtain ⟨a1, b1⟩ := r1.at h1
        obtain ⟨a2, b2⟩ := r2.at h2
        exact DSame.at I (A := A.in1) hin (hd j _ _ b1 b2) a1 a2)
      rw [all_tt] at this
      exact EqAt.of_refs hne this
    · cases rx
      cases ry
      by_cases hne : p = q
      · subst hne; exact EqAt.same _
      obtain ⟨its, r1, p1, _⟩ := I.tuple (SqT.of (K := X.K) hp)
      obtain ⟨jts, r2, p2, _⟩ := I.tuple (SqT.of (K := X.K) hq)
      have := RcAt.tuples (e := fun _ => true) (show s.heap.IsTuple p its.toArray from p1) (show s.heap.IsTuple q jts.toArray from p2) hu0 (fun j h1 h2 => by
        obtain ⟨a1, b1⟩ := r1.at h1
        obtain ⟨a2, b2⟩ := r2.at h2
        exact DSame.at I (A := A.in1) hin (hd j _ _ b1 b2) a1 a2)
      have e : (its.toArray.size == jts.toArray.size) = true := by simp; rw [← r1.length, ← r2.length]; exact hl
      rw [all_tt, e] at this
      exact EqAt.of_refs hne this
/-- != of two lists that are the same, n deep below them -/
def rNeD (n : Nat) : R2 := fun x y H Q => ∃ p q xs ys, x = .ref p ∧ y = .ref q ∧ H p = some (.lst xs) ∧ H q = some (.lst ys) ∧ xs.length = ys.length ∧ (∀ (j : Nat) (u v : V), xs[j]? = some u → ys[j]? = some v → DSame H n u v) ∧ Q (.bl false) H
/-- xs == [], xs != [] -/
def rNil (neg : Bool) : R2 := fun x y H Q => ∃ p q xs, x = .ref p ∧ y = .ref q ∧ H p = some (.lst xs) ∧ H q = some (.lst []) ∧ Q (.bl (if neg then !xs.isEmpty else xs.isEmpty)) H
theorem op_neNil (hu : X.A.units < cLine) : OpR X (compareOp .NotEq) (rNil true) := by
  intro pins s σ H x y v u Q I rx ry h
  obtain ⟨p, q, xs, rfl, rfl, hp, hq, k⟩ := h
  cases rx
  cases ry
  obtain ⟨its, r1, p1, _⟩ := I.list (SqL.of (K := X.K) hp)
  obtain ⟨jts, r2, p2, _⟩ := I.list (SqL.of (K := X.K) hq)
  cases r2
  cases r1 with
  | nil =>
    refine SeqAt.RcNeAt.lists (e := fun _ => true) p1.isList p2.isList rfl hu (fun j h1 h2 => ?_) _ _ _ _ ⟨.bl false, H, I, rfl, k⟩
    simp at h1
  | cons r rr =>
    refine SeqAt.RcNeAt.lists_lengths p1.isList p2.isList ?_ hu _ _ _ _ ⟨.bl true, H, I, rfl, k⟩
    simp
/-- xs.insert(0, y) -/
def rInsert0 : V → List V → Hp → VK → Prop := fun x vs H Q => ∃ l xs y, x = .ref l ∧ vs = [.int 0, y] ∧ H l = some (.lst xs) ∧ xs.length < sizeLine ∧ Q .non (upd H l (.lst (y :: xs)))
/-- for x in reversed(xs) -/
def Itv (a : Addr) (xs : List V) : It :=
  ⟨fun i H => i < xs.length ∧ H a = some (.lst xs), fun i H x H' => H' = H ∧ xs[xs.length - 1 - i]? = some x, fun i H => i = xs.length⟩
def iRev (ta : TA) : TI := fun σ H R => ta σ H fun vs H1 => ∃ (a : Addr) (xs : List V), vs = [.ref a] ∧ H1 a = some (.lst xs) ∧ R (Itv a xs) H1
end
end L2

namespace L2
open PySem PySem.Spec PyProof.Rows
/-! ### repr of made data, where no repr is under way -/
mutual
/-- x is read as d -/
inductive RdV (H : Hp) : V → PyData → Prop
  | non : RdV H .non .none
  | bl (b : Bool) : RdV H (.bl b) (.bool b)
  | int (i : Int) : RdV H (.int i) (.int i)
  | str (z : Str) : RdV H (.str z) (.str z)
  | lst {p : Addr} {xs : List V} {ds : List PyData} : H p = some (.lst xs) → RdVs H xs ds → RdV H (.ref p) (.list ds)
  | tup {p : Addr} {xs : List V} {ds : List PyData} : H p = some (.tup xs) → RdVs H xs ds → RdV H (.ref p) (.tuple ds)
inductive RdVs (H : Hp) : List V → List PyData → Prop
  | nil : RdVs H [] []
  | cons {x : V} {d : PyData} {xs : List V} {ds : List PyData} : RdV H x d → RdVs H xs ds → RdVs H (x :: xs) (d :: ds)
end
mutual
theorem RdV.mono {H H' : Hp} (s : Same H H') : ∀ {x : V} {d : PyData}, RdV H x d → RdV H' x d
  | _, _, .non => .non
  | _, _, .bl b => .bl b
  | _, _, .int i => .int i
  | _, _, .str z => .str z
  | _, _, .lst h r => .lst (s _ _ h) (RdVs.mono s r)
  | _, _, .tup h r => .tup (s _ _ h) (RdVs.mono s r)
theorem RdVs.mono {H H' : Hp} (s : Same H H') : ∀ {xs : List V} {ds : List PyData}, RdVs H xs ds → RdVs H' xs ds
  | _, _, .nil => .nil
  | _, _, .cons a b => .cons (RdV.mono s a) (RdVs.mono s b)
end
section
variable {X : Cx} {pins : List (Addr × Obj)} {σ : St} {H : Hp} {s : Shared}
mutual
theorem RdV.reads (I : Inv X pins σ H s) : ∀ {x : V} {d : PyData} {u : Value}, RdV H x d → RelV x u → (∃ as, Reads s.heap u d as) ∧ d.hasDict = false
  | _, _, _, .non, r => by cases r; exact ⟨⟨_, .none⟩, by simp only [PyData.hasDict]⟩
  | _, _, _, .bl b, r => by cases r; exact ⟨⟨_, .bool b⟩, by simp only [PyData.hasDict]⟩
  | _, _, _, .int i, r => by obtain ⟨t, rfl⟩ := r; exact ⟨⟨_, .int i t⟩, by simp only [PyData.hasDict]⟩
  | _, _, _, .str z, r => by obtain ⟨t, rfl⟩ := r; exact ⟨⟨_, .str z t⟩, by simp only [PyData.hasDict]⟩
  | _, _, _, .lst h q, r => by
    cases r
    obtain ⟨_, its, n, rv, e⟩ := (show ObjOk X.prog X.w H s.heap _ (.lst _) from I.hok _ _ h)
    obtain ⟨⟨as, ra⟩, hd⟩ := RdVs.reads I q rv
    exact ⟨⟨_, .list e rfl rfl (by simpa using ra)⟩, by simp only [PyData.hasDict]; exact hd⟩
  | _, _, _, .tup h q, r => by
    cases r
    obtain ⟨_, its, rv, o, e, c, n, d⟩ := (show ObjOk X.prog X.w H s.heap _ (.tup _) from I.hok _ _ h)
    obtain ⟨⟨as, ra⟩, hd⟩ := RdVs.reads I q rv
    exact ⟨⟨_, .tuple e c d (by simpa using ra)⟩, by simp only [PyData.hasDict]; exact hd⟩
theorem RdVs.reads (I : Inv X pins σ H s) : ∀ {xs : List V} {ds : List PyData} {us : List Value}, RdVs H xs ds → Vals xs us → (∃ as, ReadsAll s.heap us ds as) ∧ PyData.hasDictAll ds = false
  | _, _, _, .nil, r => by cases r; exact ⟨⟨_, .nil⟩, by simp only [PyData.hasDictAll]⟩
  | _, _, _, .cons a b, r => by
    cases r with
    | cons r1 r2 =>
      obtain ⟨⟨as, ra⟩, h1⟩ := RdV.reads I a r1
      obtain ⟨⟨bs, rb⟩, h2⟩ := RdVs.reads I b r2
      exact ⟨⟨_, .cons ra rb⟩, by simp only [PyData.hasDictAll, h1, h2, Bool.or_self]⟩
end
end
end L2

namespace L2
open PySem PySem.Spec PyProof.Rows
structure FnOkC (P : Program) (w : World) (K : PySem.W.Frag) (mg : Str → Option Value) (base : Heap) (CX : CXT) (k : Nat) (f : Addr) (fd : FuncData) (ps : List Str) (sp : Sp) : Prop where
  len : ∀ vs H Q E, sp vs H Q E → vs.length = ps.length
  run : ∀ (outer : List Env) (s : Shared) (H : Hp) (args : Args) (us : List Value) (vs : List V) (Q : VK) (E : XK), Room k callerA → Env0 P w K mg base callerA outer s H → BindsTo s fd args (ps.zip us) → Vals vs us → sp vs H Q E →
    codeAny (model P w) callerA (.call (.ref f) args) (CR CX outer P w H s Q E) s
section
variable {P : Program} {w : World} {K : PySem.W.Frag} {mg : Str → Option Value} {base : Heap}
end
end L2

namespace Mr
open PySem L2
theorem bt_len : bootBuiltins "len" = some (.builtin "len") := by decide +kernel
theorem bt_abs : bootBuiltins "abs" = some (.builtin "abs") := by decide +kernel
theorem bt_all : bootBuiltins "all" = some (.builtin "all") := by decide +kernel
theorem bt_max : bootBuiltins "max" = some (.builtin "max") := by decide +kernel
theorem bt_min : bootBuiltins "min" = some (.builtin "min") := by decide +kernel
theorem bt_divmod : bootBuiltins "divmod" = some (.builtin "divmod") := by decide +kernel
theorem bt_isinstance : bootBuiltins "isinstance" = some (.builtin "isinstance") := by decide +kernel
theorem bt_str : bootBuiltins "str" = some (.type "str") := by decide +kernel
theorem bt_bool : bootBuiltins "bool" = some (.type "bool") := by decide +kernel
theorem bt_int : bootBuiltins "int" = some (.type "int") := by decide +kernel
theorem e_nil : ("" : Str) = tx [] := by decide +kernel
theorem e_abz : ("abz" : Str) = tx [97, 98, 122] := by decide +kernel
/-- letters a to z -/
def Let (l : List Nat) : Prop := ∀ c ∈ l, 97 ≤ c ∧ c ≤ 122
theorem Let.app {l m : List Nat} (a : Let l) (b : Let m) : Let (l ++ m) := fun c h => (List.mem_append.mp h).elim (a c) (b c)
theorem Let.rev {l : List Nat} (a : Let l) : Let l.reverse := fun c h => a c (List.mem_reverse.mp h)
theorem Let.sub {l m : List Nat} (a : Let l) (h : ∀ c ∈ m, c ∈ l) : Let m := fun c q => a c (h c q)
theorem Let.nil : Let [] := fun _ h => absurd h (by simp)
theorem Let.take {l : List Nat} (a : Let l) (n : Nat) : Let (l.take n) := a.sub fun _ h => List.mem_of_mem_take h
theorem Let.drop {l : List Nat} (a : Let l) (n : Nat) : Let (l.drop n) := a.sub fun _ h => List.mem_of_mem_drop h
theorem Let.cut {l : List Nat} (a : Let l) (lo hi : Option Int) : Let (cutL l lo hi) := (a.drop _).take _
/-- all that is tracked, but what stands at b, is as it was -/
def But (b : Addr) (H H' : Hp) : Prop := ∀ c o, H c = some o → c ≠ b → H' c = some o
theorem But.trans {b : Addr} {H H1 H2 : Hp} (x : But b H H1) (y : But b H1 H2) : But b H H2 := fun c o e n => y c o (x c o e n) n
theorem But.of {b : Addr} {H H1 : Hp} (x : Same H H1) : But b H H1 := fun c o e _ => x c o e
theorem cut_from {l : List Nat} (k : Nat) : cutL l (some (k : Int)) none = l.drop k := by
  unfold cutL
  rw [HT.sIx_nat, HT.sIx_none]
  by_cases h : k ≤ l.length
  · rw [Nat.min_eq_left h, List.take_of_length_le (by simp)]
  · rw [Nat.min_eq_right (by omega), List.drop_eq_nil_of_le (Nat.le_refl _), List.drop_eq_nil_of_le (by omega)]
    simp
theorem cut_to {l : List Nat} (k : Nat) : cutL l none (some (k : Int)) = l.take k := by
  unfold cutL
  rw [HT.sIx_nat, HT.sIx_none, Nat.sub_zero, List.drop_zero]
  by_cases h : k ≤ l.length
  · rw [Nat.min_eq_left h]
  · rw [Nat.min_eq_right (by omega), List.take_of_length_le (Nat.le_refl _), List.take_of_length_le (by omega)]
theorem cut_mid (l : List Nat) (a b : Nat) : (cutL l (some (a : Int)) (some (b : Int))).length ≤ b - a := by
  unfold cutL
  rw [HT.sIx_nat, HT.sIx_nat, List.length_take, List.length_drop]
  omega

theorem cut_le (l : List Nat) (lo hi : Option Int) : (cutL l lo hi).length ≤ l.length := by
  unfold cutL
  rw [List.length_take, List.length_drop]
  omega
section
variable (K : PySem.W.Frag)
def spCell : Sp := fun vs H Q _ => ∃ (a : Addr) (ns : List Int) (k : Int), vs = [.ref a, .int k] ∧ SqL K H a (ns.map V.int) ∧ 0 ≤ k ∧ ∀ i, Q (.int i) H
def spMix : Sp := fun vs H Q _ => ∃ (c k : Int), vs = [.int c, .int k] ∧ 0 ≤ k ∧ k ≤ 1000 ∧ ∀ (i : Int) (H' : Hp), 0 ≤ i → Same H H' → Q (.int i) H'
def spBox : Sp := fun vs H Q _ => ∃ (a : Addr) (ns : List Int) (k : Int), vs = [.ref a, .int k] ∧ SqL K H a (ns.map V.int) ∧ 0 ≤ k ∧ ∀ (b : Addr) (n : Int) (H' : Hp), 0 ≤ n → H b = none → H' b = some (.lst [.int n]) → Same H H' → Q (.ref b) H'
def spTake : Sp := fun vs H Q _ => ∃ (b : Addr) (n m : Int), vs = [.ref b, .int m] ∧ H b = some (.lst [.int n]) ∧ 0 ≤ n ∧ 0 < m ∧ m < 1000000 ∧
  ∀ (d n' : Int) (H' : Hp), 0 ≤ d → d < m → 0 ≤ n' → H' b = some (.lst [.int n']) → But b H H' → Q (.int d) H'
def spTruth : Sp := fun vs H Q _ => ∃ (a b : Bool), vs = [.bl a, .bl b] ∧ Q (.bl (decide (a = b))) H
def spBehind : Sp := fun vs H Q _ => ∃ (l : List Nat), vs = [.str (tx l)] ∧ l.length ≤ sizeLine ∧ Q (.str (tx l.reverse)) H
def spAlike : Sp := fun vs H Q _ => ∃ (l : List Nat), vs = [.str (tx l)] ∧ l.length ≤ 1000000 ∧ ∀ H', Same H H' → Q (.bl (decide (l = l.reverse))) H'
def spClosed : Sp := fun vs H Q _ => ∃ (l : List Nat), vs = [.str (tx l)] ∧ Let l ∧ l.length ≤ 10000 ∧ ∀ (m : List Nat) (H' : Hp), Let m → m.length ≤ 2 * l.length → Same H H' → Q (.str (tx m)) H'
def spRow : Sp := fun vs H Q _ => ∃ (b : Addr) (n most : Int), vs = [.ref b, .int most] ∧ H b = some (.lst [.int n]) ∧ 0 ≤ n ∧ 0 ≤ most ∧ most ≤ 1000 ∧
  ∀ (m : List Nat) (n' : Int) (H' : Hp), Let m → (m.length : Int) ≤ most → 0 ≤ n' → H' b = some (.lst [.int n']) → But b H H' → Q (.str (tx m)) H'
end
theorem int_at {ns : List Int} {k : Int} (h0 : 0 ≤ k) (h1 : k < (ns.map V.int).length) : ∃ z, atI (ns.map V.int) k = some (V.int z) := by
  obtain ⟨j, rfl⟩ := Int.eq_ofNat_of_zero_le h0
  have hj : j < ns.length := by rw [List.length_map] at h1; omega
  exact ⟨ns[j], atI_nat (by rw [List.getElem?_map, List.getElem?_eq_getElem hj]; rfl)⟩
theorem at_ofInt {α : Type} {xs : List α} {k : Int} (h0 : 0 ≤ k) (h1 : k < xs.length) : ∃ z, atI xs k = some z ∧ z ∈ xs := by
  obtain ⟨j, rfl⟩ := Int.eq_ofNat_of_zero_le h0
  have hj : j < xs.length := by omega
  exact ⟨xs[j], atI_nat (List.getElem?_eq_getElem hj), List.getElem_mem hj⟩
/-- sign by sign from both ends -/
theorem alike_iff (l : List Nat) : (∀ k, k < l.length / 2 → l[k]? = l[l.length - 1 - k]?) ↔ l = l.reverse := by
  constructor
  · intro h
    apply List.ext_getElem?
    intro i
    by_cases hi : i < l.length
    · rw [List.getElem?_reverse hi]
      by_cases h1 : i < l.length / 2
      · exact h i h1
      · by_cases h2 : l.length - 1 - i < l.length / 2
        · have := h (l.length - 1 - i) h2
          rw [this]
          congr 1
          omega
        · have : l.length - 1 - i = i := by omega
          rw [this]
    · rw [List.getElem?_eq_none (by omega), List.getElem?_eq_none (by rw [List.length_reverse]; omega)]
  · intro h k hk
    have hk' : k < l.length := by omega
    have e : l[k]? = l.reverse[k]? := congrArg (fun m : List Nat => m[k]?) h
    rw [e, List.getElem?_reverse hk']
theorem flat_one : ∀ cs : List Nat, (cs.map fun c => [c]).flatten = cs
  | [] => rfl
  | c :: cs => by rw [List.map_cons, List.flatten_cons, flat_one cs]; rfl
theorem sum_one : ∀ cs : List Nat, ((cs.map fun c => [c]).map (·.length)).sum = cs.length
  | [] => rfl
  | c :: cs => by rw [List.map_cons, List.map_cons, List.sum_cons, sum_one cs, List.length_cons]; show 1 + cs.length = cs.length + 1; omega
theorem yes_ok {σ : St} {H : Hp} {Q : Bool → Hp → Prop} (h : Q true H) : tYes σ H Q := h
/-- the odd things -/
inductive Odd (H : Hp) : V → Prop
  | non : Odd H .non
  | bl (b : Bool) : Odd H (.bl b)
  | int (i : Int) (h : i = 0 ∨ i = 10 ^ 39 ∨ i = -1) : Odd H (.int i)
  | str (l : List Nat) (h : l = [65] ∨ l = [97, 32, 98] ∨ l = [97, 10] ∨ l = [49]) : Odd H (.str (tx l))
  | long : Odd H (.str (tx (repL [97] 201)))
  | la (p : Addr) (h : H p = some (.lst [.str (tx [97])])) : Odd H (.ref p)
  | ta (p : Addr) (h : H p = some (.tup [.str (tx [97])])) : Odd H (.ref p)
  | da (p : Addr) (h : H p = some (.dK [(Sum.inr (tx [97]), .int 1)])) : Odd H (.ref p)
  | t01 (p : Addr) (h : H p = some (.tup [.int 0, .int 1])) : Odd H (.ref p)
  | l0 (p : Addr) (h : H p = some (.lst [])) : Odd H (.ref p)
def spOdd : Sp := fun vs H Q _ => ∃ (b : Addr) (n : Int), vs = [.ref b] ∧ H b = some (.lst [.int n]) ∧ 0 ≤ n ∧
  ∀ (x : V) (n' : Int) (H' : Hp), Odd H' x → 0 ≤ n' → H' b = some (.lst [.int n']) → But b H H' → Q x H'
def lets : List Nat := [97, 98, 99, 100, 101, 102, 103, 104, 105, 106, 107, 108, 109, 110, 111, 112, 113, 114, 115, 116, 117, 118, 119, 120, 121, 122]
theorem e_lets : ("abcdefghijklmnopqrstuvwxyz" : Str) = tx lets := by decide +kernel
theorem mem_lets {c : Nat} : c ∈ lets ↔ 97 ≤ c ∧ c ≤ 122 := by
  rw [show lets = (List.range 26).map (97 + ·) from rfl, List.mem_map]
  constructor
  · rintro ⟨i, hi, rfl⟩
    have := List.mem_range.mp hi
    omega
  · rintro ⟨h1, h2⟩
    exact ⟨c - 97, List.mem_range.mpr (by omega), by omega⟩
def rowL (l : List Nat) : Bool := decide (l.length ≤ 200) && l.all fun c => decide (c ∈ lets)
def rowV : V → Bool
  | .str z => rowL z.cps.toList
  | _ => false
def mirV : V → Bool
  | .str z => rowL z.cps.toList && (!decide (z.cps.toList = []) && decide (z.cps.toList = z.cps.toList.reverse))
  | _ => false
theorem rowL_iff {l : List Nat} : rowL l = true ↔ l.length ≤ 200 ∧ Let l := by
  unfold rowL
  rw [Bool.and_eq_true, decide_eq_true_iff, List.all_eq_true]
  constructor
  · intro h
    exact ⟨h.1, fun c hc => mem_lets.mp (of_decide_eq_true (h.2 c hc))⟩
  · intro h
    exact ⟨h.1, fun c hc => decide_eq_true (mem_lets.mpr (h.2 c hc))⟩
section
variable (K : PySem.W.Frag)
/-- a text of moderate length, or a thing that is no text -/
def Thing (H : Hp) (x : V) : Prop := (∃ l : List Nat, x = .str (tx l) ∧ l.length ≤ 100000) ∨ (rowV x = false ∧ mirV x = false ∧ ∃ t, TyOf K H x t ∧ PySem.W.kitOne K t (.type "str") = some false)
def spIsRow : Sp := fun vs H Q _ => ∃ x, vs = [x] ∧ Thing K H x ∧ ∀ H', Same H H' → Q (.bl (rowV x)) H'
def spIsMirror : Sp := fun vs H Q _ => ∃ x, vs = [x] ∧ Thing K H x ∧ ∀ H', Same H H' → Q (.bl (mirV x)) H'
def spNeed : Sp := fun vs H Q _ => ∃ l : List Nat, vs = [.str (tx l)] ∧ rowL l = true ∧ ∀ H', Same H H' → Q .non H'
def spBack : Sp := fun vs H Q _ => ∃ l : List Nat, vs = [.str (tx l)] ∧ rowL l = true ∧ ∀ H', Same H H' → Q (.str (tx l.reverse)) H'
end
section
variable {P : Program} {w : World} {K : PySem.W.Frag} {mg : Str → Option Value} {base : Heap}
theorem TyOf.same {H H' : Hp} {x : V} {t : Value} (s : Same H H') (h : TyOf K H x t) : TyOf K H' x t := by
  cases h with
  | non => exact .non
  | bl b => exact .bl b
  | int i => exact .int i
  | str z => exact .str z
  | flt z => exact .flt z
  | lst e => exact .lst (s _ _ e)
  | frz e => exact .frz (s _ _ e)
  | tup e => exact .tup (s _ _ e)
  | dK e => exact .dK (s _ _ e)
  | dT e => exact .dT (s _ _ e)
  | ins e a b c d f => exact .ins (s _ _ e) a b c d f
theorem Thing.same {H H' : Hp} {x : V} (s : Same H H') (h : Thing K H x) : Thing K H' x := by
  rcases h with h | ⟨a, b, t, c, d⟩
  · exact .inl h
  · exact .inr ⟨a, b, t, TyOf.same s c, d⟩
end
section
variable {P : Program} {w : World} {K : PySem.W.Frag} {mg : Str → Option Value} {base : Heap}
theorem row_thing {H : Hp} {l : List Nat} (h : rowL l = true) : Thing K H (.str (tx l)) := .inl ⟨l, rfl, by have := (rowL_iff.mp h).1; omega⟩
end
theorem same_but {b : Addr} {H H1 H2 : Hp} (s : Same H H1) (fr : H b = none) (k : But b H1 H2) : Same H H2 := fun c o e => k c o (s c o e) (ne_of_none e fr)
def spLaw (K : PySem.W.Frag) : Sp := fun vs H Q _ => ∃ (a : Addr) (ns : List Int), vs = [.ref a] ∧ SqL K H a (ns.map V.int) ∧ ns.length ≤ 63 ∧ ∀ H', Q (.bl true) H'
section
variable {P : Program} {w : World} {K : PySem.W.Frag} {mg : Str → Option Value} {base : Heap}
end
end Mr

namespace Mr
open PySem L2
/-- plain values -/
def Scal : V → Prop
  | .non => True
  | .bl _ => True
  | .int _ => True
  | .str _ => True
  | _ => False
def wholeV : V → Bool
  | .int _ => true
  | _ => false
/-- a stretch of a row of n signs -/
def stL (n : Int) : List V → Bool
  | [.int i, .int j] => decide (0 ≤ i) && (decide (i ≤ j) && decide (j ≤ n))
  | _ => false
def cutAl (l : List Nat) : List V → Bool
  | [.int i, .int j] => decide (cutL l (some i) (some j) = (cutL l (some i) (some j)).reverse)
  | _ => false
def rdL (l : List Nat) (xs : List V) : Bool := stL (l.length : Int) xs && cutAl l xs
section
variable (K : PySem.W.Frag)
def NoTup (H : Hp) (x : V) : Prop := ∃ t, TyOf K H x t ∧ PySem.W.kitOne K t (.type "tuple") = some false
def spWhole : Sp := fun vs H Q _ => ∃ x, vs = [x] ∧ Scal x ∧ Q (.bl (wholeV x)) H
def spStretch : Sp := fun vs H Q _ => ∃ (x : V) (n : Int), vs = [x, .int n] ∧ ((NoTup K H x ∧ Q (.bl false) H) ∨ ∃ p xs, x = .ref p ∧ H p = some (.tup xs) ∧ (xs.length = 2 → ∀ y ∈ xs, Scal y) ∧ Q (.bl (stL n xs)) H)
def spReads : Sp := fun vs H Q _ => ∃ (l : List Nat) (x : V), vs = [.str (tx l), x] ∧ rowL l = true ∧ ((NoTup K H x ∧ ∀ H', Same H H' → Q (.bl false) H') ∨ ∃ p xs, x = .ref p ∧ H p = some (.tup xs) ∧ (xs.length = 2 → ∀ y ∈ xs, Scal y) ∧ ∀ H', Same H H' → Q (.bl (rdL l xs)) H')
end
theorem row_sub {l m : List Nat} (h : rowL l = true) (h1 : m.length ≤ l.length) (h2 : ∀ c ∈ m, c ∈ l) : rowL m = true := by
  obtain ⟨a, b⟩ := rowL_iff.mp h
  exact rowL_iff.mpr ⟨by omega, b.sub h2⟩
end Mr

namespace Mr
open PySem L2
/-! readings that only lay new things -/
def EOk (σ : St) (Φ : Hp → V → Prop) (te : TE) : Prop := ∀ (H : Hp) (Q : VK), (∀ x H', Same H H' → Φ H' x → Q x H') → te σ H Q
def AOk (σ : St) (Φ : Hp → V → Prop) (n : Nat) (t : TA) : Prop := ∀ (H : Hp) (Q : List V → Hp → Prop), (∀ xs H', Same H H' → xs.length = n → (∀ x ∈ xs, Φ H' x) → Q xs H') → t σ H Q
section
variable {σ : St} {Φ : Hp → V → Prop} {te : TE} {t : TA} {n : Nat}
end
/-- the things that are looked at as stretches, in the row l -/
inductive Th2 (l : List Nat) (H : Hp) : V → Prop
  | tup (p : Addr) (xs : List V) (h : H p = some (.tup xs)) (hs : ∀ y ∈ xs, Scal y) (g : rdL l xs = (eqVs xs [.int 0, .int 1] && decide (0 < l.length))) : Th2 l H (.ref p)
  | nest (p r : Addr) (zs : List V) (h : H p = some (.tup [.ref r])) (h' : H r = some (.tup zs)) : Th2 l H (.ref p)
  | lst (p : Addr) (xs : List V) (h : H p = some (.lst xs)) : Th2 l H (.ref p)
  | dk (p : Addr) (kvs : List (Key × V)) (h : H p = some (.dK kvs)) : Th2 l H (.ref p)
  | non : Th2 l H .non
  | bl (b : Bool) : Th2 l H (.bl b)
  | int (i : Int) : Th2 l H (.int i)
  | str (z : Str) : Th2 l H (.str z)
section
variable {K : PySem.W.Frag}
end
end Mr

namespace Mr
open PySem L2
theorem bt_list : bootBuiltins "list" = some (.type "list") := by decide +kernel
/-- n, n - 1, .. 1 -/
def downs (n : Nat) : List Nat := (List.range n).map fun i => n - i
theorem downs_len (n : Nat) : (downs n).length = n := by simp [downs]
theorem downs_take {n i : Nat} (h : i < n) : (downs n).take (i + 1) = (downs n).take i ++ [n - i] := by
  rw [List.take_succ]
  congr 1
  unfold downs
  rw [List.getElem?_map, List.getElem?_range h]
  rfl
theorem downs_all (n : Nat) : (downs n).take n = downs n := List.take_of_length_le (by rw [downs_len]; exact Nat.le_refl _)
theorem filt_take {n i : Nat} (p : Nat → Bool) (h : i < n) : ((downs n).take (i + 1)).filter p = ((downs n).take i).filter p ++ (if p (n - i) = true then [n - i] else []) := by
  rw [downs_take h, List.filter_append]
  congr 1
  by_cases hp : p (n - i) = true
  · rw [List.filter_cons_of_pos hp, if_pos hp]; rfl
  · rw [List.filter_cons_of_neg hp, if_neg hp]; rfl
def lensV (ks : List Nat) : List V := ks.map fun (k : Nat) => V.int (k : Int)
theorem lensV_app (a b : List Nat) : lensV (a ++ b) = lensV a ++ lensV b := List.map_append
theorem lensV_len (ks : List Nat) : (lensV ks).length = ks.length := by simp [lensV]
theorem eqV_self : ∀ {x : V}, flatV x = true → eqV x x = true
  | .non, _ => rfl
  | .bl b, _ => by show (b == b) = true; simp
  | .int i, _ => by show (i == i) = true; simp
  | .str z, _ => by show (z == z) = true; simp
theorem eqVs_self {xs : List V} (h : xs.all flatV = true) : eqVs xs xs = true := by
  unfold eqVs
  rw [decide_eq_true rfl, Bool.true_and, List.all_eq_true]
  intro j hj
  have hj' := List.mem_range.mp hj
  have e : xs.getD j .non = xs[j] := by rw [List.getD_eq_getElem?_getD, List.getElem?_eq_getElem hj']; rfl
  rw [e]
  exact eqV_self (List.all_eq_true.mp h _ (List.getElem_mem hj'))
def bordersN (l : List Nat) : List Nat := (downs (l.length - 1)).filter fun k => decide (l.take k = l.drop (l.length - k))
def endsN (l : List Nat) : List Nat := (downs l.length).filter fun k => decide (l.drop (l.length - k) = (l.drop (l.length - k)).reverse)
def beginsN (l : List Nat) : List Nat := (downs l.length).filter fun k => decide (l.take k = (l.take k).reverse)
theorem filt_le (n : Nat) (p : Nat → Bool) : ((downs n).filter p).length ≤ n := Nat.le_trans (List.length_filter_le _ _) (Nat.le_of_eq (downs_len n))
/-- a def that tells a list of lengths of a row, a new one -/
def spLens (f : List Nat → List Nat) : Sp := fun vs H Q _ => ∃ l : List Nat, vs = [.str (tx l)] ∧ rowL l = true ∧ ∀ (p : Addr) (H' : Hp), H p = none → H' p = some (.lst (lensV (f l))) → Same H H' → Q (.ref p) H'
theorem same_upd {H H' : Hp} {p : Addr} {o : HO} (s : Same H H') (h : H p = none) : Same H (upd H' p o) := fun c u e => by
  rw [upd_ne (ne_of_none e h)]
  exact s c u e
section
variable {K : PySem.W.Frag}
end
end Mr

namespace Mr
/-! stretches that read alike, by places; the reach around a middle -/
def PalI (l : List Nat) (a b : Nat) : Prop := ∀ i, a ≤ i → i < b → l[i]? = l[a + b - 1 - i]?
def sub (l : List Nat) (a b : Nat) : List Nat := (l.drop a).take (b - a)
theorem sub_len {l : List Nat} {a b : Nat} (hb : b ≤ l.length) : (sub l a b).length = b - a := by
  unfold sub
  rw [List.length_take, List.length_drop]
  omega
theorem sub_at {l : List Nat} {a b i : Nat} (hi : i < b - a) : (sub l a b)[i]? = l[a + i]? := by
  unfold sub
  rw [List.getElem?_take_of_lt hi, List.getElem?_drop]
theorem pal_iff {l : List Nat} {a b : Nat} (hb : b ≤ l.length) : sub l a b = (sub l a b).reverse ↔ PalI l a b := by
  have hn := sub_len (a := a) hb
  constructor
  · intro h i h1 h2
    have e1 := sub_at (l := l) (a := a) (b := b) (i := i - a) (by omega)
    have e2 : (sub l a b).reverse[i - a]? = (sub l a b)[(sub l a b).length - 1 - (i - a)]? := List.getElem?_reverse (by omega)
    rw [← h, e1, hn, sub_at (by omega)] at e2
    have x1 : a + (i - a) = i := by omega
    have x2 : a + (b - a - 1 - (i - a)) = a + b - 1 - i := by omega
    rw [x1, x2] at e2
    exact e2
  · intro h
    apply List.ext_getElem?
    intro i
    by_cases hi : i < b - a
    · rw [List.getElem?_reverse (by omega), hn, sub_at hi, sub_at (by omega)]
      have := h (a + i) (by omega) (by omega)
      rw [this]
      congr 1
      omega
    · rw [List.getElem?_eq_none (by omega), List.getElem?_eq_none (by rw [List.length_reverse]; omega)]
theorem PalI.inner {l : List Nat} {a b c d : Nat} (h : PalI l a b) (he : a + b = c + d) (hc : a ≤ c) : PalI l c d := fun i h1 h2 => by
  have := h i (by omega) (by omega)
  rw [this, he]
/-- going outward from a stretch that reads alike -/
def grow (l : List Nat) : Nat → Nat → Nat
  | 0, b => b
  | f + 1, b => if b < l.length ∧ l[f]? = l[b]? then grow l f (b + 1) else b - (f + 1)
theorem grow_spec {l : List Nat} : ∀ {f b : Nat}, f ≤ b → b ≤ l.length → PalI l f b → ∀ {a c : Nat}, a + c = f + b → a ≤ c → c ≤ l.length → (PalI l a c ↔ c - a ≤ grow l f b)
  | 0, b, _, _, hp, a, c, he, hac, _ => by
    unfold grow
    exact ⟨fun _ => by omega, fun _ => hp.inner (by omega) (by omega)⟩
  | f + 1, b, hfb, hb, hp, a, c, he, hac, hc => by
    unfold grow
    by_cases hg : b < l.length ∧ l[f]? = l[b]?
    · rw [if_pos hg]
      refine grow_spec (by omega) (by omega) ?_ (by omega) hac hc
      intro i h1 h2
      by_cases e1 : i = f
      · subst e1
        have x : i + (b + 1) - 1 - i = b := by omega
        rw [x]; exact hg.2
      · by_cases e2 : i = b
        · subst e2
          have x : f + (i + 1) - 1 - i = f := by omega
          rw [x]; exact hg.2.symm
        · have := hp i (by omega) (by omega)
          rw [this]
          congr 1
          omega
    · rw [if_neg hg]
      constructor
      · intro h
        apply Nat.le_of_not_lt
        intro hlt
        apply hg
        refine ⟨by omega, ?_⟩
        have := h f (by omega) (by omega)
        rw [this]
        congr 1
        omega
      · intro h
        exact hp.inner (by omega) (by omega)
theorem grow_at {l : List Nat} : ∀ {f b : Nat}, f ≤ b → b ≤ l.length → ∃ a c, a + c = f + b ∧ a ≤ c ∧ c ≤ l.length ∧ c - a = grow l f b ∧ b ≤ c
  | 0, b, _, hb => ⟨0, b, by omega, by omega, hb, by unfold grow; omega, by omega⟩
  | f + 1, b, hfb, hb => by
    unfold grow
    by_cases hg : b < l.length ∧ l[f]? = l[b]?
    · rw [if_pos hg]
      obtain ⟨a, c, h1, h2, h3, h4, h5⟩ := grow_at (l := l) (f := f) (b := b + 1) (by omega) (by omega)
      exact ⟨a, c, by omega, h2, h3, h4, by omega⟩
    · rw [if_neg hg]
      exact ⟨f + 1, b, by omega, hfb, hb, rfl, Nat.le_refl _⟩
def reachN (l : List Nat) (m : Nat) : Nat := grow l ((m + 1) / 2) (m + 1 - (m + 1) / 2)
theorem reach_spec {l : List Nat} {m a c : Nat} (hm : m + 1 < 2 * l.length) (he : a + c = m + 1) (hac : a ≤ c) (hc : c ≤ l.length) : PalI l a c ↔ c - a ≤ reachN l m := by
  unfold reachN
  refine grow_spec (by omega) (by omega) ?_ (by omega) hac hc
  intro i h1 h2
  congr 1
  omega
theorem reach_at {l : List Nat} {m : Nat} (hm : m + 1 < 2 * l.length) : ∃ a c, a + c = m + 1 ∧ a ≤ c ∧ c ≤ l.length ∧ c - a = reachN l m ∧ PalI l a c := by
  obtain ⟨a, c, h1, h2, h3, h4, h5⟩ := grow_at (l := l) (f := (m + 1) / 2) (b := m + 1 - (m + 1) / 2) (by omega) (by omega)
  have e : a + c = m + 1 := by omega
  have h4' : c - a = reachN l m := h4
  exact ⟨a, c, e, h2, h3, h4', (reach_spec hm e h2 h3).mpr (by omega)⟩
def reachesN (l : List Nat) : List Nat := (List.range (2 * l.length - 1)).map (reachN l)
theorem reachesN_len (l : List Nat) : (reachesN l).length = 2 * l.length - 1 := by simp [reachesN]
theorem reachesN_at {l : List Nat} {m : Nat} (h : m < 2 * l.length - 1) : (reachesN l)[m]? = some (reachN l m) := by
  unfold reachesN
  rw [List.getElem?_map, List.getElem?_range h]
  rfl
theorem sub_end (l : List Nat) (k : Nat) : sub l (l.length - k) l.length = l.drop (l.length - k) := by
  unfold sub
  rw [List.take_of_length_le]
  rw [List.length_drop]
  omega
theorem sub_take {l : List Nat} {a b : Nat} : (l.take b).drop a = sub l a b := by
  unfold sub
  rw [List.drop_take]
theorem sub_beg (l : List Nat) (k : Nat) : sub l 0 k = l.take k := by
  unfold sub
  rw [List.drop_zero, Nat.sub_zero]
/-- the ends of the signs ahead of b, by the reaches of the whole -/
theorem ends_ahead_eq {l : List Nat} {b : Nat} (hb : b ≤ l.length) : endsN (l.take b) = (downs b).filter fun k => decide (k ≤ reachN l (b - k + b - 1)) := by
  unfold endsN
  have e : (l.take b).length = b := by rw [List.length_take]; omega
  rw [e]
  apply List.filter_congr
  intro k hk
  obtain ⟨i, hi, rfl⟩ := List.mem_map.mp hk
  have hi' := List.mem_range.mp hi
  have h1 := pal_iff (l := l) (a := b - (b - i)) (b := b) hb
  have h2 := reach_spec (l := l) (m := b - (b - i) + b - 1) (a := b - (b - i)) (c := b) (by omega) (by omega) (by omega) hb
  rw [sub_take]
  have h3 : b - (b - (b - i)) = b - i := by omega
  rw [h3] at h2
  exact decide_eq_decide.mpr (h1.trans h2)
end Mr

namespace Mr
open PySem L2
def spReachA : Sp := fun vs H Q _ => ∃ (l : List Nat) (m : Nat), vs = [.str (tx l), .int (m : Int)] ∧ rowL l = true ∧ m + 1 < 2 * l.length ∧ Q (.int ((reachN l m : Nat) : Int)) H
/-- ends_ahead: of the reaches of a row of at most 200 signs -/
def spEA : Sp := fun vs H Q _ => ∃ (p : Addr) (l : List Nat) (b : Nat), vs = [.ref p, .int (b : Int)] ∧ l.length ≤ 200 ∧ b ≤ l.length ∧ H p = some (.lst (lensV (reachesN l))) ∧
  ∀ (p' : Addr) (H' : Hp), H p' = none → H' p' = some (.lst (lensV (endsN (l.take b)))) → Same H H' → Q (.ref p') H'
end Mr

namespace Mr
/-! sums over 0 .. n - 1 -/
def sm : Nat → (Nat → Nat) → Nat
  | 0, _ => 0
  | n + 1, f => sm n f + f n
theorem sm_congr : ∀ {n : Nat} {f g : Nat → Nat}, (∀ i, i < n → f i = g i) → sm n f = sm n g
  | 0, _, _, _ => rfl
  | n + 1, f, g, h => by unfold sm; rw [sm_congr (fun i hi => h i (by omega)), h n (by omega)]
theorem sm_zero : ∀ {n : Nat} {f : Nat → Nat}, (∀ i, i < n → f i = 0) → sm n f = 0
  | 0, _, _ => rfl
  | n + 1, f, h => by unfold sm; rw [sm_zero (fun i hi => h i (by omega)), h n (by omega)]
theorem sm_plus : ∀ {n : Nat} {f g : Nat → Nat}, sm n (fun i => f i + g i) = sm n f + sm n g
  | 0, _, _ => rfl
  | n + 1, f, g => by
    show sm n (fun i => f i + g i) + (f n + g n) = sm n f + f n + (sm n g + g n)
    rw [sm_plus]; omega
theorem sm_comm {n : Nat} {f : Nat → Nat → Nat} : ∀ {m : Nat}, sm n (fun i => sm m (f i)) = sm m fun j => sm n fun i => f i j
  | 0 => sm_zero fun _ _ => rfl
  | m + 1 => by
    show sm n (fun i => sm m (f i) + f i m) = sm m (fun j => sm n fun i => f i j) + sm n (fun i => f i m)
    rw [sm_plus, sm_comm]
theorem sm_split {a : Nat} {f : Nat → Nat} : ∀ {b : Nat}, sm (a + b) f = sm a f + sm b fun j => f (a + j)
  | 0 => rfl
  | b + 1 => by show sm (a + b) f + f (a + b) = sm a f + (sm b (fun j => f (a + j)) + f (a + b)); rw [sm_split]; omega
/-- the ones from a on ahead of b -/
theorem sm_between {a b n : Nat} {f : Nat → Nat} (hab : a ≤ b) (hb : b ≤ n) (h1 : ∀ i, a ≤ i → i < b → f i = 1) (h0 : ∀ i, i < n → ¬ (a ≤ i ∧ i < b) → f i = 0) : sm n f = b - a := by
  have e : n = a + ((b - a) + (n - b)) := by omega
  have z : ∀ {k : Nat} {g : Nat → Nat}, (∀ i, i < k → g i = 1) → sm k g = k := by
    intro k
    induction k with
    | zero => intros; rfl
    | succ k ih => intro g h; unfold sm; rw [ih (fun i hi => h i (by omega)), h k (by omega)]
  rw [e, sm_split, sm_split, sm_zero (n := a) (fun i hi => h0 i (by omega) (by omega)), z (k := b - a) (fun i hi => h1 _ (by omega) (by omega)), sm_zero (n := n - b) (fun i hi => h0 _ (by omega) (by omega))]
  omega
/-- does the stretch read alike -/
def palB (l : List Nat) (a c : Nat) : Bool := decide (sub l a c = (sub l a c).reverse)
theorem palB_iff {l : List Nat} {a c : Nat} (hc : c ≤ l.length) : palB l a c = true ↔ PalI l a c := by
  unfold palB
  rw [decide_eq_true_iff]
  exact pal_iff hc
/-- how many stretches are mirrors: by their first place -/
def manyN (l : List Nat) : Nat := sm l.length fun a => sm (l.length - a) fun j => if palB l a (a + 1 + j) = true then 1 else 0
theorem many_eq (l : List Nat) : sm (2 * l.length - 1) (fun m => (reachN l m + 1) / 2) = manyN l := by
  let f : Nat → Nat → Nat := fun m a => if a < m + 1 - a ∧ m + 1 - a ≤ l.length ∧ palB l a (m + 1 - a) = true then 1 else 0
  have h1 : sm (2 * l.length - 1) (fun m => (reachN l m + 1) / 2) = sm (2 * l.length - 1) fun m => sm l.length (f m) := by
    apply sm_congr
    intro m hm
    have hm' : m + 1 < 2 * l.length := by omega
    obtain ⟨a0, c0, e0, h2, h3, h4, _⟩ := reach_at hm'
    have := sm_between (a := a0) (b := (m + 2) / 2) (n := l.length) (f := f m) (by omega) (by omega) (fun i hi hb => ?_) (fun i hi hn => ?_)
    · rw [this, ← h4]
      omega
    · show (if _ then 1 else 0) = 1
      rw [if_pos]
      refine ⟨by omega, by omega, (palB_iff (by omega)).mpr ((reach_spec hm' (by omega) (by omega) (by omega)).mpr (by omega))⟩
    · show (if _ then 1 else 0) = 0
      rw [if_neg]
      rintro ⟨x1, x2, x3⟩
      have := (reach_spec hm' (by omega) (by omega) x2).mp ((palB_iff x2).mp x3)
      omega
  rw [h1, sm_comm]
  apply sm_congr
  intro a ha
  have e : 2 * l.length - 1 = 2 * a + ((l.length - a) + (l.length - a - 1)) := by omega
  rw [e, sm_split, sm_split, sm_zero (n := 2 * a), sm_zero (n := l.length - a - 1)]
  · rw [Nat.zero_add, Nat.add_zero]
    apply sm_congr
    intro j hj
    show (if _ then 1 else 0) = _
    have e1 : 2 * a + j + 1 - a = a + 1 + j := by omega
    rw [e1]
    by_cases hp : palB l a (a + 1 + j) = true
    · rw [if_pos ⟨by omega, by omega, hp⟩, if_pos hp]
    · rw [if_neg (fun z => hp z.2.2), if_neg hp]
  · intro j hj
    show (if _ then 1 else 0) = 0
    rw [if_neg]
    rintro ⟨_, x2, _⟩
    omega
  · intro j hj
    show (if _ then 1 else 0) = 0
    rw [if_neg]
    rintro ⟨x1, _, _⟩
    omega
theorem sum_map_range (f : Nat → Nat) : ∀ n : Nat, (((List.range n).map f).map fun (k : Nat) => (k : Int)).sum = ((sm n f : Nat) : Int)
  | 0 => rfl
  | n + 1 => by
    rw [List.range_succ, List.map_append, List.map_append, List.sum_append, sum_map_range f n]
    show _ = ((sm n f + f n : Nat) : Int)
    simp
/-- the first longest mirror stretch -/
def BestP (l : List Nat) (x y : Nat) : Prop := x < y ∧ y ≤ l.length ∧ PalI l x y ∧ ∀ a c, a < c → c ≤ l.length → PalI l a c → c - a < y - x ∨ (c - a = y - x ∧ x ≤ a)
/-- best so far, of those ahead of (i, j) -/
def BestSo (l : List Nat) (S : Nat → Nat → Prop) (x y : Nat) : Prop := S x y ∧ PalI l x y ∧ ∀ a c, S a c → PalI l a c → c - a < y - x ∨ (c - a = y - x ∧ x ≤ a)
end Mr

namespace Mr
open PySem L2
theorem bt_sum : bootBuiltins "sum" = some (.builtin "sum") := by decide +kernel
theorem many_sum (l : List Nat) : ((reachesN l).map fun (k : Nat) => ((k : Int) + 1) / 2).sum = ((manyN l : Nat) : Int) := by
  rw [← many_eq, ← sum_map_range]
  unfold reachesN
  rw [List.map_map, List.map_map]
  congr 1
def spMany : Sp := fun vs H Q _ => ∃ l : List Nat, vs = [.str (tx l)] ∧ rowL l = true ∧ ∀ H', Same H H' → Q (.int ((manyN l : Nat) : Int)) H'
def spLongest : Sp := fun vs H Q _ => ∃ l : List Nat, vs = [.str (tx l)] ∧ rowL l = true ∧ (l = [] → ∀ H', Same H H' → Q .non H') ∧
  ∀ (x y : Nat) (p : Addr) (H' : Hp), BestP l x y → H p = none → H' p = some (.tup [.int (x : Int), .int (y : Int)]) → Same H H' → Q (.ref p) H'
end Mr

namespace Mr
open PySem L2
/-- the stretches ahead of (i, i + 1 + t), in the order of two loops -/
def Ah (n i t : Nat) (x y : Nat) : Prop := x < y ∧ y ≤ n ∧ (x < i ∨ (x = i ∧ y < i + 1 + t))
def BestV (l : List Nat) (S : Nat → Nat → Prop) (H : Hp) (v : V) : Prop := (v = .non ∧ ∀ x y, S x y → ¬ PalI l x y) ∨ ∃ (p : Addr) (x y : Nat), v = .ref p ∧ H p = some (.tup [.int (x : Int), .int (y : Int)]) ∧ BestSo l S x y
section
variable {K : PySem.W.Frag}
end
end Mr

namespace Mr
open PySem L2
theorem lensV_at {ks : List Nat} {j : Nat} {x : V} (h : (lensV ks)[j]? = some x) : ∃ k : Nat, ks[j]? = some k ∧ x = .int (k : Int) := by
  unfold lensV at h
  rw [List.getElem?_map] at h
  cases e : ks[j]? with
  | none => rw [e] at h; cases h
  | some k => rw [e] at h; exact ⟨k, rfl, (Option.some.inj h).symm⟩
theorem cutV_from (xs : List V) (k : Nat) : cutV xs (some (k : Int)) none = xs.drop k := by
  unfold cutV
  rw [HT.sIx_nat, HT.sIx_none]
  by_cases h : k ≤ xs.length
  · rw [Nat.min_eq_left h, List.take_of_length_le (by simp)]
  · rw [Nat.min_eq_right (by omega), List.drop_eq_nil_of_le (Nat.le_refl _), List.drop_eq_nil_of_le (by omega)]
    simp
theorem mir_true {t : List Nat} (h : rowL t = true) (h1 : t ≠ []) (h2 : t = t.reverse) : mirV (.str (tx t)) = true := by
  show (rowL t && (!decide (t = []) && decide (t = t.reverse))) = true
  rw [h, decide_eq_false h1, decide_eq_true h2]; rfl
end Mr

namespace Mr
/-! ends, begins and borders of one another -/
theorem downs_succ (n : Nat) : downs (n + 1) = (n + 1) :: downs n := by
  unfold downs
  rw [List.range_succ_eq_map, List.map_cons, List.map_map]
  congr 1
  apply List.map_congr_left
  intro i _
  show n + 1 - (i + 1) = n - i
  omega
theorem mem_downs {n k : Nat} : k ∈ downs n ↔ 1 ≤ k ∧ k ≤ n := by
  unfold downs
  rw [List.mem_map]
  constructor
  · rintro ⟨i, hi, rfl⟩
    have := List.mem_range.mp hi
    omega
  · rintro ⟨h1, h2⟩
    exact ⟨n - k, List.mem_range.mpr (by omega), by omega⟩
theorem filt_drop {p : Nat → Bool} : ∀ {n i k : Nat}, ((downs n).filter p)[i]? = some k → ((downs n).filter p).drop i = (downs k).filter p
  | 0, i, k, h => by simp [downs] at h
  | n + 1, i, k, h => by
    rw [downs_succ] at h ⊢
    by_cases hp : p (n + 1) = true
    · rw [List.filter_cons_of_pos hp] at h ⊢
      cases i with
      | zero =>
        have e : n + 1 = k := by simpa using h
        subst e
        rw [List.drop_zero, downs_succ, List.filter_cons_of_pos hp]
      | succ i =>
        rw [List.drop_succ_cons]
        exact filt_drop (by simpa using h)
    · rw [List.filter_cons_of_neg hp] at h ⊢
      exact filt_drop h
theorem filt_at {p : Nat → Bool} {n i k : Nat} (h : ((downs n).filter p)[i]? = some k) : p k = true ∧ 1 ≤ k ∧ k ≤ n := by
  have hm := List.mem_of_getElem? h
  obtain ⟨h1, h2⟩ := List.mem_filter.mp hm
  exact ⟨h2, mem_downs.mp h1⟩
theorem filt_drop1 {p : Nat → Bool} {n i k : Nat} (h : ((downs n).filter p)[i]? = some k) : ((downs n).filter p).drop (i + 1) = (downs (k - 1)).filter p := by
  obtain ⟨h1, h2, h3⟩ := filt_at h
  have e : ((downs n).filter p).drop (i + 1) = (((downs n).filter p).drop i).drop 1 := by rw [List.drop_drop]
  rw [e, filt_drop h]
  obtain ⟨j, rfl⟩ : ∃ j, k = j + 1 := ⟨k - 1, by omega⟩
  rw [downs_succ, List.filter_cons_of_pos h1]
  rfl
def sufB (l : List Nat) (k : Nat) : Bool := decide (l.drop (l.length - k) = (l.drop (l.length - k)).reverse)
theorem endsN_def (l : List Nat) : endsN l = (downs l.length).filter (sufB l) := rfl
theorem suf_suf {l : List Nat} {k j : Nat} (hk : k ≤ l.length) (hj : j ≤ k) : (l.drop (l.length - k)).drop ((l.drop (l.length - k)).length - j) = l.drop (l.length - j) := by
  rw [List.drop_drop, List.length_drop]
  congr 1
  omega
theorem ends_of_end {l : List Nat} {i k : Nat} (h : (endsN l)[i]? = some k) : endsN (l.drop (l.length - k)) = (endsN l).drop i ∧ beginsN (l.drop (l.length - k)) = (endsN l).drop i ∧ bordersN (l.drop (l.length - k)) = (endsN l).drop (i + 1) ∧
    l.drop (l.length - k) = (l.drop (l.length - k)).reverse ∧ 1 ≤ k ∧ k ≤ l.length := by
  obtain ⟨h1, h2, h3⟩ := filt_at (p := sufB l) h
  have hp : l.drop (l.length - k) = (l.drop (l.length - k)).reverse := of_decide_eq_true h1
  have hl : (l.drop (l.length - k)).length = k := by rw [List.length_drop]; omega
  have tk : ∀ j, j ≤ k → (l.drop (l.length - k)).take j = (l.drop (l.length - j)).reverse := fun j hj => by
    have e : (l.drop (l.length - k)).reverse.take j = ((l.drop (l.length - k)).drop ((l.drop (l.length - k)).length - j)).reverse := by rw [List.take_reverse]
    rw [← hp, suf_suf h3 hj] at e
    exact e
  refine ⟨?_, ?_, ?_, hp, h2, h3⟩
  · rw [endsN_def l, filt_drop (p := sufB l) h]
    unfold endsN
    rw [hl]
    apply List.filter_congr
    intro j hj
    have hj' := mem_downs.mp hj
    have := suf_suf (l := l) h3 hj'.2
    rw [hl] at this
    rw [this]; rfl
  · rw [endsN_def l, filt_drop (p := sufB l) h]
    unfold beginsN
    rw [hl]
    apply List.filter_congr
    intro j hj
    have hj' := mem_downs.mp hj
    rw [tk j hj'.2, List.reverse_reverse]
    exact decide_eq_decide.mpr ⟨Eq.symm, Eq.symm⟩
  · rw [endsN_def l, filt_drop1 (p := sufB l) h]
    unfold bordersN
    rw [hl]
    apply List.filter_congr
    intro j hj
    have hj' := mem_downs.mp hj
    have := suf_suf (l := l) (k := k) (j := j) h3 (by omega)
    rw [hl] at this
    rw [tk j (by omega), this]
    exact decide_eq_decide.mpr ⟨Eq.symm, Eq.symm⟩
/-- a sign more at the end -/
def moreB (l : List Nat) (c : Nat) (k : Nat) : Bool := decide (k < l.length ∧ l[l.length - k - 1]? = some c)
theorem suf_more {l : List Nat} {c k : Nat} (hk : k < l.length) : sufB (l ++ [c]) (k + 2) = (moreB l c k && (decide (k = 0) || sufB l k)) := by
  have e1 : (l ++ [c]).length - (k + 2) = l.length - k - 1 := by rw [List.length_append]; simp; omega
  have hlt : l.length - k - 1 < l.length := by omega
  have e2 : (l ++ [c]).drop (l.length - k - 1) = l[l.length - k - 1] :: (l.drop (l.length - k) ++ [c]) := by
    rw [List.drop_append_of_le_length (by omega), List.drop_eq_getElem_cons hlt]
    have e3 : l.length - k - 1 + 1 = l.length - k := by omega
    rw [e3]; rfl
  unfold sufB
  rw [e1, e2]
  have e4 : (l[l.length - k - 1] :: (l.drop (l.length - k) ++ [c])).reverse = c :: ((l.drop (l.length - k)).reverse ++ [l[l.length - k - 1]]) := by simp
  rw [e4]
  unfold moreB
  have g : l[l.length - k - 1]? = some l[l.length - k - 1] := List.getElem?_eq_getElem hlt
  rw [g]
  have z0 : k = 0 → l.drop (l.length - k) = (l.drop (l.length - k)).reverse := by
    intro e
    subst e
    rw [Nat.sub_zero, List.drop_length]; rfl
  by_cases hc : l[l.length - k - 1] = c
  · rw [hc]
    by_cases hp : l.drop (l.length - k) = (l.drop (l.length - k)).reverse
    · have h1 : c :: (l.drop (l.length - k) ++ [c]) = c :: ((l.drop (l.length - k)).reverse ++ [c]) := by rw [← hp]
      rw [decide_eq_true h1, decide_eq_true hp, Bool.or_true, Bool.and_true, decide_eq_true ⟨hk, rfl⟩]
    · have h1 : ¬ c :: (l.drop (l.length - k) ++ [c]) = c :: ((l.drop (l.length - k)).reverse ++ [c]) := by
        intro z
        injection z with _ z
        exact hp (List.append_cancel_right z)
      rw [decide_eq_false h1, decide_eq_false hp, decide_eq_false (fun e => hp (z0 e)), Bool.or_self, Bool.and_false]
  · have h1 : ¬ l[l.length - k - 1] :: (l.drop (l.length - k) ++ [c]) = c :: ((l.drop (l.length - k)).reverse ++ [l[l.length - k - 1]]) := by
      intro z
      injection z with z _
      exact hc z
    rw [decide_eq_false h1, decide_eq_false (fun z => hc (Option.some.inj z.2)), Bool.false_and]
theorem downs_two : ∀ n : Nat, downs (n + 2) = (downs n).map (· + 2) ++ [2, 1]
  | 0 => rfl
  | n + 1 => by rw [downs_succ (n + 2), downs_two n, downs_succ n]; rfl
def dueN (l : List Nat) (c : Nat) : List Nat := ((endsN l).filter (moreB l c)).map (· + 2) ++ (if moreB l c 0 = true then [2] else []) ++ [1]
theorem ends_more (l : List Nat) (c : Nat) : endsN (l ++ [c]) = dueN l c := by
  rw [endsN_def]
  have one : sufB (l ++ [c]) 1 = true := by
    unfold sufB
    rw [List.length_append]
    have : l.length + [c].length - 1 = l.length := by simp
    rw [this, List.drop_left]; exact decide_eq_true rfl
  cases hl : l with
  | nil =>
    subst hl
    show (downs 1).filter (sufB ([] ++ [c])) = _
    rw [downs_succ 0, List.filter_cons_of_pos one]
    rfl
  | cons a r =>
    rw [← hl]
    have hn : l.length = r.length + 1 := by rw [hl]; rfl
    have h1 : (l ++ [c]).length = r.length + 2 := by rw [List.length_append, hn]; rfl
    rw [h1, downs_two, List.filter_append, List.filter_map]
    unfold dueN
    have e1 : (downs r.length).filter (sufB (l ++ [c]) ∘ (· + 2)) = (endsN l).filter (moreB l c) := by
      rw [endsN_def, List.filter_filter, hn, downs_succ, List.filter_cons_of_neg]
      · apply List.filter_congr
        intro k hk
        have hk' := mem_downs.mp hk
        show sufB (l ++ [c]) (k + 2) = _
        rw [suf_more (by omega), decide_eq_false (by omega), Bool.false_or]
      · rw [Bool.and_eq_true, not_and]
        intro h
        have := of_decide_eq_true h
        omega
    rw [e1, List.append_assoc]
    congr 1
    have e2 : sufB (l ++ [c]) 2 = moreB l c 0 := by rw [suf_more (by omega)]; simp
    by_cases h2 : moreB l c 0 = true
    · rw [List.filter_cons_of_pos (by rw [e2]; exact h2), List.filter_cons_of_pos one, if_pos h2]; rfl
    · rw [List.filter_cons_of_neg (by rw [e2]; exact h2), List.filter_cons_of_pos one, if_neg h2]; rfl
end Mr
namespace Mr
open PySem L2
/-- what is due behind j of the lengths, 0 and -1 -/
def dueTo (l : List Nat) (c j : Nat) : List Nat := (((endsN l).take j).filter (moreB l c)).map (· + 2) ++ (if (endsN l).length < j ∧ moreB l c 0 = true then [2] else []) ++ (if (endsN l).length + 1 < j then [1] else [])
end Mr

namespace Mr
/-! reaches turned about, within mirrors, in the middle -/
end Mr

namespace Mr
open PySem L2
def spSame : Sp := fun vs H Q _ => ∃ (x : V) (n : Int), vs = [x, .int n] ∧ Scal x ∧ Q (.bl (decide (x = .int n))) H
/-- are_reaches, of a list of plain values -/
def spAreL : Sp := fun vs H Q _ => ∃ (p : Addr) (xs : List V) (l : List Nat), vs = [.ref p, .str (tx l)] ∧ rowL l = true ∧ H p = some (.lst xs) ∧ (∀ x ∈ xs, Scal x) ∧ ∀ H', Same H H' → Q (.bl (decide (xs = lensV (reachesN l)))) H'
def spOpp : Sp := fun vs H Q _ => ∃ (p : Addr) (l : List Nat) (m : Nat), vs = [.str (tx l), .ref p, .int (m : Int)] ∧ l.length ≤ 200 ∧ m + 1 < 2 * l.length ∧ H p = some (.lst (lensV (reachesN l))) ∧ Q (.bl true) H
theorem lensV_get {ks : List Nat} {j k : Nat} (h : ks[j]? = some k) : (lensV ks)[j]? = some (.int (k : Int)) := by
  unfold lensV
  rw [List.getElem?_map, h]; rfl
end Mr

namespace L2
open PySem
end L2
namespace Mr
open PySem L2
/-- no whole number, by its kind: not even a truth -/
def NoInt (K : PySem.W.Frag) (H : Hp) (x : V) : Prop := wholeV x = false ∧ ∃ t, TyOf K H x t ∧ PySem.W.kitOne K t (.type "int") = some false
theorem NoInt.same {K : PySem.W.Frag} {H H' : Hp} {x : V} (s : Same H H') (h : NoInt K H x) : NoInt K H' x := let ⟨e, t, a, b⟩ := h; ⟨e, t, TyOf.same s a, b⟩
def spWholeG (K : PySem.W.Frag) : Sp := fun vs H Q _ => ∃ x, vs = [x] ∧ (Scal x ∨ NoInt K H x) ∧ Q (.bl (wholeV x)) H
/-- no middle of the row -/
def NoMid (K : PySem.W.Frag) (l : List Nat) (H : Hp) (x : V) : Prop := (Scal x ∨ NoInt K H x) ∧ ∀ m : Nat, x = .int (m : Int) → ¬ m + 1 < 2 * l.length
def spReachX (K : PySem.W.Frag) (C : Addr) : Sp := fun vs H Q E => ∃ (l : List Nat) (x : V), vs = [.str (tx l), x] ∧ rowL l = true ∧
  ((∃ m : Nat, x = .int (m : Int) ∧ m + 1 < 2 * l.length ∧ ∀ H', Same H H' → Q (.int ((reachN l m : Nat) : Int)) H') ∨ (NoMid K l H x ∧ ∀ H', Same H H' → E (.ref C) none H'))
def spReach1 : Sp := fun vs H Q _ => ∃ (l : List Nat) (m : Nat), vs = [.str (tx l), .int (m : Int)] ∧ rowL l = true ∧ m + 1 < 2 * l.length ∧ ∀ H', Same H H' → Q (.int ((reachN l m : Nat) : Int)) H'
def spToldM (K : PySem.W.Frag) : Sp := fun vs H Q _ => ∃ (l : List Nat) (x : V), vs = [.str (tx l), x] ∧ rowL l = true ∧ NoMid K l H x ∧ ∀ H', Same H H' → Q (.str "middle") H'
end Mr
namespace Mr
open PySem L2
end Mr

namespace Mr
open PySem L2
/-! groups of falling lengths -/
abbrev Gp := Int × Int × Int
def hd0 : List Int → Int
  | [] => 0
  | a :: _ => a
def stepsI : List Int → List Int
  | [] => []
  | a :: r => (a - hd0 r) :: stepsI r
def merge (x : Gp) : List Gp → List Gp
  | [] => [x]
  | y :: t => if y.2.1 = x.2.1 then (x.1, x.2.1, x.2.2 + y.2.2) :: t else x :: y :: t
def dueG : List Int → List Gp
  | [] => []
  | a :: r => merge (a, a - hd0 r, 1) (dueG r)
/-- one turn of the program's loop -/
def turnG (acc : List Gp) (l s : Int) : List Gp :=
  match acc.getLast? with
  | some g => if g.2.1 = s then acc.dropLast ++ [(g.1, s, g.2.2 + 1)] else acc ++ [(l, s, 1)]
  | none => [(l, s, 1)]
def runG : List Gp → List Int → List Gp
  | acc, [] => acc
  | acc, a :: r => runG (turnG acc a (a - hd0 r)) r
/-- what the loop has behind i turns -/
def toG (ls : List Int) (i : Nat) : List Gp := (List.range i).foldl (fun acc j => turnG acc ((ls[j]?).getD 0) (((stepsI ls)[j]?).getD 0)) []
/-- falling lengths -/
def Fall (ls : List Int) : Prop := (∀ l ∈ ls, 0 < l) ∧ ∀ (i : Nat) (a b : Int), ls[i]? = some a → ls[i + 1]? = some b → b < a
def gpV (g : Gp) : HO := .tup [.int g.1, .int g.2.1, .int g.2.2]
/-- xs: the groups gs, each a tuple -/
def GrpsV (H : Hp) (xs : List V) (gs : List Gp) : Prop := xs.length = gs.length ∧ ∀ (j : Nat) (x : V) (g : Gp), xs[j]? = some x → gs[j]? = some g → ∃ p : Addr, x = .ref p ∧ H p = some (gpV g)
end Mr

namespace Mr
open PySem L2
theorem bt_dict : bootBuiltins "dict" = some (.type "dict") := by decide +kernel
def posV : V → Bool
  | .int i => decide (0 < i)
  | _ => false
/-- are_lengths, of a list -/
def spAreLen (K : PySem.W.Frag) : Sp := fun vs H Q _ => ∃ x, vs = [x] ∧ ((∃ t, TyOf K H x t ∧ PySem.W.kitOne K t (.type "list") = some false ∧ ∀ H', Same H H' → Q (.bl false) H') ∨
  ∃ (p : Addr) (xs : List V), x = .ref p ∧ H p = some (.lst xs) ∧ xs.length ≤ 1000 ∧ (∀ y ∈ xs, Scal y ∨ NoInt K H y) ∧ (∀ ls : List Int, xs = ls.map V.int → Fall ls → ∀ H', Same H H' → Q (.bl true) H') ∧ ((¬ ∃ ls : List Int, xs = ls.map V.int ∧ Fall ls) → ∀ H', Same H H' → Q (.bl false) H'))
def spSteps : Sp := fun vs H Q _ => ∃ (p : Addr) (ls : List Int), vs = [.ref p] ∧ H p = some (.lst (ls.map V.int)) ∧ ls.length ≤ 1000 ∧ ∀ (p' : Addr) (H' : Hp), H p' = none → H' p' = some (.lst ((stepsI ls).map V.int)) → Same H H' → Q (.ref p') H'
/-- groups: of falling lengths the groups, else NoLengths -/
def spGroupsX (K : PySem.W.Frag) (C : Addr) : Sp := fun vs H Q E => ∃ x, vs = [x] ∧ ((∃ (p : Addr) (ls : List Int), x = .ref p ∧ H p = some (.lst (ls.map V.int)) ∧ ls.length ≤ 1000 ∧ Fall ls ∧ ∀ (p' : Addr) (H' : Hp) (xs : List V), H p' = none → H' p' = some (.lst xs) → GrpsV H' xs (dueG ls) → Same H H' → Q (.ref p') H') ∨
  ((∃ t, TyOf K H x t ∧ PySem.W.kitOne K t (.type "list") = some false) ∧ ∀ H', Same H H' → E (.ref C) none H') ∨
  (∃ (p : Addr) (xs : List V), x = .ref p ∧ H p = some (.lst xs) ∧ xs.length ≤ 1000 ∧ (∀ y ∈ xs, Scal y ∨ NoInt K H y) ∧ (¬ ∃ ls : List Int, xs = ls.map V.int ∧ Fall ls) ∧ ∀ H', Same H H' → E (.ref C) none H'))
def spGroups : Sp := fun vs H Q _ => ∃ (p : Addr) (ls : List Int), vs = [.ref p] ∧ H p = some (.lst (ls.map V.int)) ∧ ls.length ≤ 1000 ∧ Fall ls ∧ ∀ (p' : Addr) (H' : Hp) (xs : List V), H p' = none → H' p' = some (.lst xs) → GrpsV H' xs (dueG ls) → Same H H' → Q (.ref p') H'
end Mr
namespace Mr
open PySem L2
def spTakeB : Sp := fun vs H Q _ => ∃ (b : Addr) (n m : Int), vs = [.ref b, .int m] ∧ H b = some (.lst [.int n]) ∧ 0 ≤ n ∧ 0 < m ∧ m ≤ 10 ^ 40 ∧
  ∀ (d n' : Int) (H' : Hp), 0 ≤ d → d < m → 0 ≤ n' → H' b = some (.lst [.int n']) → But b H H' → Q (.int d) H'
/-- falling lengths drawn from the box -/
def spLensD : Sp := fun vs H Q _ => ∃ (b : Addr) (n : Int), vs = [.ref b] ∧ H b = some (.lst [.int n]) ∧ 0 ≤ n ∧
  ∀ (p : Addr) (ls : List Int) (n' : Int) (H' : Hp), ls.length ≤ 1000 → Fall ls → H p = none → H' p = some (.lst (ls.map V.int)) → 0 ≤ n' → H' b = some (.lst [.int n']) → But b H H' → Q (.ref p) H'
def spDueG : Sp := fun vs H Q _ => ∃ (p : Addr) (ls : List Int), vs = [.ref p] ∧ H p = some (.lst (ls.map V.int)) ∧ ls.length ≤ 1000 ∧
  ∀ (p' : Addr) (H' : Hp) (xs : List V), H p' = none → H' p' = some (.lst xs) → GrpsV H' xs (dueG ls) → Same H H' → Q (.ref p') H'
end Mr

namespace Mr
open PySem L2
/-! the mirrors of a row in the order in which they come; their inner and their less -/
def topT (l : List Nat) (b : Nat) : List Nat := sub l (b - ((endsN (l.take b))[0]?).getD 0) b
def mirs (l : List Nat) : Nat → List (List Nat)
  | 0 => []
  | b + 1 => if topT l (b + 1) ∈ mirs l b then mirs l b else mirs l b ++ [topT l (b + 1)]
/-- a mirror that ends at c -/
def EndsAt (l : List Nat) (c : Nat) (t : List Nat) : Prop := ∃ k, 1 ≤ k ∧ k ≤ c ∧ t = sub l (c - k) c ∧ PalI l (c - k) c
theorem EndsAt.len {l : List Nat} {c : Nat} {t : List Nat} (h : EndsAt l c t) (hc : c ≤ l.length) : t ≠ [] ∧ t = t.reverse := by
  obtain ⟨k, h1, h2, rfl, h4⟩ := h
  have := sub_len (l := l) (a := c - k) hc
  exact ⟨fun z => by rw [z] at this; simp at this; omega, (pal_iff hc).mpr h4⟩
theorem ends_mem {l : List Nat} {c k : Nat} (hc : c ≤ l.length) : k ∈ endsN (l.take c) ↔ 1 ≤ k ∧ k ≤ c ∧ PalI l (c - k) c := by
  have e : (l.take c).length = c := by rw [List.length_take]; omega
  rw [endsN_def, List.mem_filter, mem_downs, e]
  unfold sufB
  rw [decide_eq_true_iff, e, sub_take, pal_iff hc]
  exact ⟨fun ⟨⟨a, b⟩, d⟩ => ⟨a, b, d⟩, fun ⟨a, b, d⟩ => ⟨⟨a, b⟩, d⟩⟩
theorem ends_first {l : List Nat} {c : Nat} (h1 : 1 ≤ c) (hc : c ≤ l.length) : ∃ L, (endsN (l.take c))[0]? = some L ∧ 1 ≤ L ∧ L ≤ c ∧ PalI l (c - L) c ∧ ∀ k, k ∈ endsN (l.take c) → k ≤ L := by
  have hm : (1 : Nat) ∈ endsN (l.take c) := (ends_mem hc).mpr ⟨Nat.le_refl _, h1, fun i h1 h2 => by congr 1; omega⟩
  cases e : endsN (l.take c) with
  | nil => rw [e] at hm; cases hm
  | cons L r =>
    have hL : L ∈ endsN (l.take c) := by rw [e]; exact List.mem_cons_self
    obtain ⟨a, b, d⟩ := (ends_mem hc).mp hL
    refine ⟨L, rfl, a, b, d, fun k hk => ?_⟩
    rw [← e] at hk
    have h0 : (endsN (l.take c))[0]? = some L := by rw [e]; rfl
    have hd := filt_drop (p := sufB (l.take c)) (n := (l.take c).length) (i := 0) (k := L) h0
    rw [List.drop_zero] at hd
    have hk' : k ∈ (downs (l.take c).length).filter (sufB (l.take c)) := hk
    rw [hd] at hk'
    exact (mem_downs.mp (List.mem_filter.mp hk').1).2
theorem top_ends {l : List Nat} {c : Nat} (h1 : 1 ≤ c) (hc : c ≤ l.length) : EndsAt l c (topT l c) := by
  obtain ⟨L, e, a, b, d, _⟩ := ends_first h1 hc
  exact ⟨L, a, b, by unfold topT; rw [e]; rfl, d⟩
/-- a shorter end stood ahead -/
theorem pal_tu {l : List Nat} {p n : Nat} : PalI l p (p + n) ↔ ∀ t u, t + u + 1 = n → l[p + t]? = l[p + u]? := by
  constructor
  · intro h t u e
    rw [h (p + t) (Nat.le_add_right _ _) (by omega)]
    congr 1
    omega
  · intro h i h1 h2
    obtain ⟨t, rfl⟩ : ∃ t, i = p + t := ⟨i - p, by omega⟩
    obtain ⟨u, rfl⟩ : ∃ u, n = t + u + 1 := ⟨n - t - 1, by omega⟩
    rw [h t u rfl]
    congr 1
    omega
theorem short_ahead {l : List Nat} {c k L : Nat} (hc : c ≤ l.length) (hL : L ≤ c) (hk : 1 ≤ k) (hkL : k < L) (pL : PalI l (c - L) c) (pk : PalI l (c - k) c) : EndsAt l (c - L + k) (sub l (c - k) c) := by
  obtain ⟨b, rfl⟩ : ∃ b, L = b + k := ⟨L - k, by omega⟩
  obtain ⟨a, rfl⟩ : ∃ a, c = a + b + k := ⟨c - (b + k), by omega⟩
  have e1 : a + b + k - (b + k) = a := by omega
  have e2 : a + b + k - k = a + b := Nat.add_sub_cancel ..
  rw [e1] at pL ⊢
  rw [e2] at pk ⊢
  have qL := pal_tu.mp (show PalI l a (a + (b + k)) by rw [← Nat.add_assoc]; exact pL)
  have qk := pal_tu.mp pk
  have key : ∀ t, t < k → l[a + t]? = l[a + b + t]? := fun t ht => by
    obtain ⟨s, rfl⟩ : ∃ s, k = t + s + 1 := ⟨k - t - 1, by omega⟩
    rw [qL t (b + s) (by omega), qk t s rfl, Nat.add_assoc]
  refine ⟨k, hk, Nat.le_add_left _ _, ?_, ?_⟩
  · rw [Nat.add_sub_cancel]
    apply List.ext_getElem?
    intro i
    by_cases hi : i < k
    · rw [sub_at (by omega), sub_at (by omega), key i hi]
    · rw [List.getElem?_eq_none (by rw [sub_len hc]; omega), List.getElem?_eq_none (by rw [sub_len (by omega)]; omega)]
  · rw [Nat.add_sub_cancel]
    exact pal_tu.mpr fun t u e => by rw [key t (by omega), qk t u e, key u (by omega)]
theorem mem_mirs {l : List Nat} : ∀ {b : Nat}, b ≤ l.length → ∀ t, t ∈ mirs l b ↔ ∃ c, 1 ≤ c ∧ c ≤ b ∧ EndsAt l c t
  | 0, _, t => by
    constructor
    · intro h; cases h
    · rintro ⟨c, h1, h2, _⟩; omega
  | b + 1, hb, t => by
    have ih := mem_mirs (l := l) (b := b) (by omega)
    have key : t ∈ mirs l (b + 1) ↔ t ∈ mirs l b ∨ t = topT l (b + 1) := by
      show t ∈ (if topT l (b + 1) ∈ mirs l b then mirs l b else mirs l b ++ [topT l (b + 1)]) ↔ _
      by_cases h : topT l (b + 1) ∈ mirs l b
      · rw [if_pos h]
        exact ⟨.inl, fun z => z.elim id fun e => by rw [e]; exact h⟩
      · rw [if_neg h, List.mem_append, List.mem_singleton]
    rw [key]
    constructor
    · rintro (h | rfl)
      · obtain ⟨c, h1, h2, h3⟩ := (ih t).mp h
        exact ⟨c, h1, by omega, h3⟩
      · exact ⟨b + 1, by omega, Nat.le_refl _, top_ends (by omega) hb⟩
    · rintro ⟨c, h1, h2, h3⟩
      by_cases hcb : c ≤ b
      · exact .inl ((ih t).mpr ⟨c, h1, hcb, h3⟩)
      · have hc : c = b + 1 := by omega
        subst hc
        obtain ⟨k, k1, k2, k3, k4⟩ := h3
        obtain ⟨L, eL, L1, L2, L3, L4⟩ := ends_first h1 hb
        have hk : k ≤ L := L4 k ((ends_mem hb).mpr ⟨k1, k2, k4⟩)
        by_cases hkL : k = L
        · right
          rw [k3, hkL]
          unfold topT
          rw [eL]; rfl
        · left
          rw [k3]
          exact (ih _).mpr ⟨b + 1 - L + k, by omega, by omega, short_ahead hb L2 k1 (by omega) L3 k4⟩
theorem mirs_nodup (l : List Nat) : ∀ b, (mirs l b).Nodup
  | 0 => List.nodup_nil
  | b + 1 => by
    show (if topT l (b + 1) ∈ mirs l b then mirs l b else mirs l b ++ [topT l (b + 1)]).Nodup
    by_cases h : topT l (b + 1) ∈ mirs l b
    · rw [if_pos h]; exact mirs_nodup l b
    · rw [if_neg h, List.nodup_append]
      refine ⟨mirs_nodup l b, by simp, fun a ha c hc => ?_⟩
      rw [List.mem_singleton.mp hc]
      exact fun z => h (z ▸ ha)
theorem mirs_len (l : List Nat) : ∀ b, (mirs l b).length ≤ b
  | 0 => Nat.le_refl _
  | b + 1 => by
    show (if topT l (b + 1) ∈ mirs l b then mirs l b else mirs l b ++ [topT l (b + 1)]).length ≤ b + 1
    have := mirs_len l b
    split
    · omega
    · simp; omega
def inner (t : List Nat) : List Nat := (t.drop 1).take (t.length - 2)
def lessN (t : List Nat) : List Nat := t.take (((endsN t)[1]?).getD 0)
/-- the ends of the longest end are those of the whole -/
theorem ends_top {l : List Nat} {c : Nat} (h1 : 1 ≤ c) (hc : c ≤ l.length) : endsN (topT l c) = endsN (l.take c) ∧ lessN (topT l c) = sub l (c - ((endsN (l.take c))[1]?).getD 0) c ∧
    (∀ k, (endsN (l.take c))[1]? = some k → 1 ≤ k ∧ k < c ∧ EndsAt l c (lessN (topT l c))) ∧ (topT l c).length = ((endsN (l.take c))[0]?).getD 0 := by
  obtain ⟨L, eL, L1, L2, L3, L4⟩ := ends_first h1 hc
  have e : (l.take c).length = c := by rw [List.length_take]; omega
  have et : topT l c = (l.take c).drop ((l.take c).length - L) := by unfold topT; rw [eL, e, sub_take]; rfl
  obtain ⟨q1, q2, q3, q4, q5, q6⟩ := ends_of_end eL
  rw [← et, List.drop_zero] at q1
  rw [← et] at q4
  have hlen : (topT l c).length = L := by rw [et, List.length_drop, e]; omega
  refine ⟨q1, ?_, ?_, by rw [hlen, eL]; rfl⟩
  · unfold lessN
    rw [q1]
    cases h2 : (endsN (l.take c))[1]? with
    | none =>
      show List.take 0 _ = sub l (c - 0) c
      rw [List.take_zero]
      unfold sub
      rw [Nat.sub_zero, Nat.sub_self, List.take_zero]
    | some k =>
      show (topT l c).take k = sub l (c - k) c
      obtain ⟨k1, k2, k3⟩ := filt_at (p := sufB (l.take c)) h2
      have kp := (ends_mem hc).mp (List.mem_of_getElem? h2)
      have hkL := L4 k (List.mem_of_getElem? h2)
      have r1 : (topT l c).take k = ((topT l c).drop ((topT l c).length - k)).reverse := by
        have : (topT l c).reverse.take k = ((topT l c).drop ((topT l c).length - k)).reverse := by rw [List.take_reverse]
        rw [← q4] at this
        exact this
      have r2 : (topT l c).drop ((topT l c).length - k) = sub l (c - k) c := by
        rw [hlen, et, List.drop_drop, e, ← sub_take]
        congr 1
        omega
      rw [r1, r2]
      exact ((pal_iff hc).mpr kp.2.2).symm
  · intro k h2
    have kp := (ends_mem hc).mp (List.mem_of_getElem? h2)
    have hkL : k < c := by
      have hd := filt_drop1 (p := sufB (l.take c)) (n := (l.take c).length) (i := 0) (k := L) eL
      have : k ∈ ((downs (l.take c).length).filter (sufB (l.take c))).drop (0 + 1) := by
        have e2 : (((downs (l.take c).length).filter (sufB (l.take c))).drop (0 + 1))[0]? = some k := by rw [List.getElem?_drop]; exact h2
        exact List.mem_of_getElem? e2
      rw [hd] at this
      have := (mem_downs.mp (List.mem_filter.mp this).1).2
      omega
    refine ⟨kp.1, hkL, ?_⟩
    have el : lessN (topT l c) = sub l (c - k) c := by
      unfold lessN
      rw [q1, h2]
      show (topT l c).take k = sub l (c - k) c
      have r1 : (topT l c).take k = ((topT l c).drop ((topT l c).length - k)).reverse := by
        have : (topT l c).reverse.take k = ((topT l c).drop ((topT l c).length - k)).reverse := by rw [List.take_reverse]
        rw [← q4] at this
        exact this
      have r2 : (topT l c).drop ((topT l c).length - k) = sub l (c - k) c := by
        have hkL := L4 k (List.mem_of_getElem? h2)
        rw [hlen, et, List.drop_drop, e, ← sub_take]
        congr 1
        omega
      rw [r1, r2]
      exact ((pal_iff hc).mpr kp.2.2).symm
    exact ⟨k, kp.1, kp.2.1, el, kp.2.2⟩
theorem inner_sub {l : List Nat} {c k : Nat} (hc : c ≤ l.length) (hk : k ≤ c) : inner (sub l (c - k) c) = sub l (c - k + 1) (c - 1) := by
  obtain ⟨p, rfl⟩ := Nat.exists_eq_add_of_le' hk
  rw [Nat.add_sub_cancel]
  unfold inner
  rw [sub_len hc, Nat.add_sub_cancel_left]
  unfold sub
  rw [List.drop_take, List.drop_drop, List.take_take, Nat.add_sub_cancel_left, Nat.min_eq_left (Nat.sub_le_sub_left (by decide) k), Nat.sub_sub (p + k), Nat.add_comm 1 (p + 1), show p + k - (p + 1 + 1) = k - 2 from Nat.add_sub_add_left p k 2]
theorem inner_in {l : List Nat} {b : Nat} (hb : b ≤ l.length) {t : List Nat} (ht : t ∈ mirs l b) : inner t = [] ∨ inner t ∈ mirs l b := by
  obtain ⟨c, h1, h2, k, k1, k2, rfl, k4⟩ := (mem_mirs hb t).mp ht
  have hc := Nat.le_trans h2 hb
  rw [inner_sub hc k2]
  obtain ⟨p, rfl⟩ := Nat.exists_eq_add_of_le' k2
  rw [Nat.add_sub_cancel] at k4 ⊢
  match k, k1 with
  | 1, _ => exact .inl (List.eq_nil_of_length_eq_zero (by rw [sub_len (Nat.le_trans (Nat.sub_le _ _) hc), show p + 1 - 1 = p from rfl]; exact Nat.sub_eq_zero_of_le (Nat.le_succ p)))
  | 2, _ => exact .inl (List.eq_nil_of_length_eq_zero (by rw [sub_len (Nat.le_trans (Nat.sub_le _ _) hc)]; exact Nat.sub_self (p + 1)))
  | k + 3, _ =>
    refine .inr ((mem_mirs hb _).mpr ⟨p + (k + 2), Nat.le_add_left 1 (p + (k + 1)), Nat.le_trans (Nat.le_succ _) h2, k + 1, Nat.le_add_left 1 k, Nat.le_trans (Nat.le_succ _) (Nat.le_add_left (k + 2) p), ?_, ?_⟩)
    · rw [show p + (k + 2) - (k + 1) = p + 1 from Nat.add_sub_cancel (n := p + 1) (m := k + 1) ▸ (by rw [show p + (k + 2) = p + 1 + (k + 1) from by rw [Nat.add_assoc, Nat.add_comm 1 (k + 1)]])]
      rfl
    · rw [show p + (k + 2) - (k + 1) = p + 1 from Nat.add_sub_cancel (n := p + 1) (m := k + 1) ▸ (by rw [show p + (k + 2) = p + 1 + (k + 1) from by rw [Nat.add_assoc, Nat.add_comm 1 (k + 1)]])]
      exact k4.inner (by rw [Nat.add_right_comm p 1]; rfl) (Nat.le_succ p)
/-- where a text stands in the list -/
def idxO (ms : List (List Nat)) (x : List Nat) : Option Nat := if x ∈ ms then some (ms.idxOf x) else none
theorem idxO_app {ms : List (List Nat)} {t x : List Nat} (h : x ∈ ms) : idxO (ms ++ [t]) x = idxO ms x := by
  unfold idxO
  rw [if_pos h, if_pos (List.mem_append_left _ h), List.idxOf_append, if_pos h]
theorem idxO_none {ms : List (List Nat)} {x : List Nat} (h : x ∉ ms) : idxO ms x = none := if_neg h
theorem idxO_last {ms : List (List Nat)} {t : List Nat} (h : t ∉ ms) : idxO (ms ++ [t]) t = some ms.length := by
  unfold idxO
  rw [if_pos (List.mem_append_right _ List.mem_cons_self), List.idxOf_append, if_neg h]
  simp
abbrev Ent := List Nat × Option Nat × Option Nat
def entT (ms : List (List Nat)) (t : List Nat) : Ent := (t, idxO ms (inner t), idxO ms (lessN t))
def treeN (l : List Nat) : List Ent := (mirs l l.length).map (entT (mirs l l.length))
theorem no_nil {l : List Nat} {b : Nat} (hb : b ≤ l.length) : ([] : List Nat) ∉ mirs l b := fun h => by
  obtain ⟨c, h1, h2, h3⟩ := (mem_mirs hb _).mp h
  exact (h3.len (by omega)).1 rfl
theorem less_in {l : List Nat} : ∀ {b : Nat}, b ≤ l.length → ∀ {t : List Nat}, t ∈ mirs l b → lessN t = [] ∨ lessN t ∈ mirs l b
  | 0, _, t, h => by cases h
  | b + 1, hb, t, h => by
    have key : t ∈ mirs l b ∨ t = topT l (b + 1) := by
      have h' : t ∈ (if topT l (b + 1) ∈ mirs l b then mirs l b else mirs l b ++ [topT l (b + 1)]) := h
      by_cases hm : topT l (b + 1) ∈ mirs l b
      · rw [if_pos hm] at h'; exact .inl h'
      · rw [if_neg hm, List.mem_append, List.mem_singleton] at h'; exact h'
    have up : ∀ x, x ∈ mirs l b → x ∈ mirs l (b + 1) := fun x hx => by
      obtain ⟨c, h1, h2, h3⟩ := (mem_mirs (by omega) x).mp hx
      exact (mem_mirs hb x).mpr ⟨c, h1, by omega, h3⟩
    rcases key with h1 | rfl
    · exact (less_in (by omega) h1).imp id (up _)
    · obtain ⟨q1, q2, q3, _⟩ := ends_top (l := l) (c := b + 1) (by omega) hb
      cases e : (endsN (l.take (b + 1)))[1]? with
      | none =>
        left
        unfold lessN
        rw [q1, e]
        rfl
      | some k => exact .inr ((mem_mirs hb _).mpr ⟨b + 1, by omega, Nat.le_refl _, (q3 k e).2.2⟩)
/-- the entries told so far stay as they are when a mirror comes -/
theorem ent_app {l : List Nat} {b : Nat} (hb : b ≤ l.length) {t : List Nat} (ht : t ≠ []) {x : List Nat} (hx : x ∈ mirs l b) : entT (mirs l b ++ [t]) x = entT (mirs l b) x := by
  unfold entT
  have i1 := inner_in hb hx
  have i2 := less_in hb hx
  have nn := no_nil (l := l) hb
  have z : ([] : List Nat) ∉ mirs l b ++ [t] := fun h => by
    rcases List.mem_append.mp h with h | h
    · exact nn h
    · exact ht (List.mem_singleton.mp h).symm
  have a1 : idxO (mirs l b ++ [t]) (inner x) = idxO (mirs l b) (inner x) := by
    rcases i1 with e | e
    · rw [e, idxO_none nn, idxO_none z]
    · exact idxO_app e
  have a2 : idxO (mirs l b ++ [t]) (lessN x) = idxO (mirs l b) (lessN x) := by
    rcases i2 with e | e
    · rw [e, idxO_none nn, idxO_none z]
    · exact idxO_app e
  rw [a1, a2]
theorem map_ent {l : List Nat} {b : Nat} (hb : b ≤ l.length) {t : List Nat} (ht : t ≠ []) : (mirs l b).map (entT (mirs l b ++ [t])) = (mirs l b).map (entT (mirs l b)) := List.map_congr_left fun x hx => ent_app hb ht hx
end Mr

namespace L2
open PySem PySem.Spec PyProof.Rows PySem.SeqAt PySem.MeetsSeq
theorem Room.unitsD {k : Nat} {A : Around} (r : Room k A) : A.units + 1 < cLine := by have := r.un; omega
section
variable {X : Cx}
def isS (z : Str) : Value → Bool
  | .str c _ => c == z
  | _ => false
/-- xs.index(text) of texts -/
def rIndexS : V → List V → Hp → VK → Prop := fun x vs H Q => ∃ (l : Addr) (ts : List (List Nat)) (t : List Nat) (j : Nat), x = .ref l ∧ vs = [.str (tx t)] ∧ H l = some (.lst (ts.map fun t => V.str (tx t))) ∧ ts[j]? = some t ∧ (∀ m, m < j → ts[m]? ≠ some t) ∧ Q (.int (j : Nat)) H
end
end L2
namespace Mr
open PySem L2
/-- a list of objects that stand for es, each by f -/
def ReV {α : Type} (f : α → HO) (H : Hp) (xs : List V) (es : List α) : Prop := xs.length = es.length ∧ ∀ (j : Nat) (x : V) (e : α), xs[j]? = some x → es[j]? = some e → ∃ p : Addr, x = .ref p ∧ H p = some (f e)
theorem ReV.mono {α : Type} {f : α → HO} {H H' : Hp} {xs : List V} {es : List α} (h : ReV f H xs es) (k : ∀ p e, H p = some (f e) → H' p = some (f e)) : ReV f H' xs es := ⟨h.1, fun j x g h1 h2 => let ⟨p, e, q⟩ := h.2 j x g h1 h2; ⟨p, e, k _ _ q⟩⟩
theorem ReV.nil {α : Type} {f : α → HO} {H : Hp} : ReV f H [] [] := ⟨rfl, fun j x g h => by simp at h⟩
theorem ReV.push {α : Type} {f : α → HO} {H : Hp} {xs : List V} {gs : List α} {p : Addr} {g : α} (h : ReV f H xs gs) (hp : H p = some (f g)) : ReV f H (xs ++ [.ref p]) (gs ++ [g]) := by
  refine ⟨by simp [h.1], fun j x g' h1 h2 => ?_⟩
  by_cases hj : j < xs.length
  · rw [List.getElem?_append_left hj] at h1
    rw [List.getElem?_append_left (by rw [← h.1]; exact hj)] at h2
    exact h.2 j x g' h1 h2
  · rw [List.getElem?_append_right (by omega)] at h1
    rw [List.getElem?_append_right (by rw [← h.1]; omega), ← h.1] at h2
    have e0 : j - xs.length = 0 := by
      have := (List.getElem?_eq_some_iff.mp h1).1
      simp at this; omega
    rw [e0] at h1 h2
    have e1 : V.ref p = x := Option.some.inj h1
    have e2 : g = g' := Option.some.inj h2
    subst e1 e2
    exact ⟨p, rfl, hp⟩
def optV : Option Nat → V
  | none => .non
  | some i => .int (i : Int)
def entV (e : Ent) : HO := .tup [.str (tx e.1), optV e.2.1, optV e.2.2]
abbrev TreeV := ReV entV
def spTree : Sp := fun vs H Q _ => ∃ l : List Nat, vs = [.str (tx l)] ∧ rowL l = true ∧ ∀ (p : Addr) (xs : List V) (H' : Hp), H p = none → H' p = some (.lst xs) → TreeV H' xs (treeN l) → Same H H' → Q (.ref p) H'
def txV (ms : List (List Nat)) : List V := ms.map fun t => V.str (tx t)
/-- _law_mirrors -/
def spMirs : Sp := fun vs H Q _ => ∃ l : List Nat, vs = [.str (tx l)] ∧ rowL l = true ∧ ∀ (p : Addr) (H' : Hp), H p = none → H' p = some (.lst (txV (mirs l l.length))) → Same H H' → Q (.ref p) H'
/-- the dict of the numbers -/
def NumD (H : Hp) (p : Addr) (ms : List (List Nat)) : Prop := ∃ kvs : List (Key × V), H p = some (.dK kvs) ∧ kvs.length ≤ 1000 + ms.length ∧ ∀ x, valV kvs (Sum.inr (tx x)) = (idxO ms x).map fun i => V.int (i : Int)
theorem cut_inner {t : List Nat} (h : t ≠ []) : cutL t (some 1) (some (-1)) = inner t := by
  have hl : 0 < t.length := List.length_pos_iff.mpr h
  unfold cutL inner
  have e1 : HT.sIx t.length 0 (some 1) = 1 := by
    have := HT.sIx_nat t.length 0 1
    rw [show ((1 : Nat) : Int) = 1 from rfl] at this
    rw [this]; omega
  have e2 : HT.sIx t.length t.length (some (-1)) = t.length - 1 := by
    unfold HT.sIx
    simp
    omega
  rw [e1, e2]
  congr 1
/-- the tree as data -/
def entD (e : Ent) : PyData := .tuple [.str (tx e.1), (match e.2.1 with | none => .none | some i => .int (i : Int)), (match e.2.2 with | none => .none | some i => .int (i : Int))]
end Mr

namespace Mr
open PySem L2
theorem idx_first {x : List Nat} : ∀ {ms : List (List Nat)}, x ∈ ms → ms[ms.idxOf x]? = some x ∧ ∀ m : Nat, m < ms.idxOf x → ms[m]? ≠ some x
  | [], h => by cases h
  | y :: r, h => by
    by_cases e : y = x
    · subst e
      rw [List.idxOf_cons_self]
      exact ⟨rfl, fun m hm => by omega⟩
    · have hx : x ∈ r := by
        rcases List.mem_cons.mp h with z | z
        · exact absurd z.symm e
        · exact z
      obtain ⟨h1, h2⟩ := idx_first hx
      have hb : (y == x) = false := by simpa using e
      have ei : (y :: r).idxOf x = r.idxOf x + 1 := by rw [List.idxOf_cons, hb]; rfl
      rw [ei]
      refine ⟨by simpa using h1, fun m hm => ?_⟩
      cases m with
      | zero => simpa using e
      | succ m => simpa using h2 m (by omega)
theorem idxO_lt {ms : List (List Nat)} {x : List Nat} {i : Nat} (h : idxO ms x = some i) : i < ms.length := by
  unfold idxO at h
  by_cases hx : x ∈ ms
  · rw [if_pos hx] at h
    have := (idx_first hx).1
    rw [← Option.some.inj h]
    exact (List.getElem?_eq_some_iff.mp this).1
  · rw [if_neg hx] at h; cases h
theorem mirs_row {l : List Nat} {b : Nat} (hb : b ≤ l.length) (hrow : rowL l = true) {t : List Nat} (h : t ∈ mirs l b) : rowL t = true ∧ t ≠ [] ∧ t = t.reverse ∧ t.length ≤ l.length := by
  obtain ⟨c, h1, h2, h3⟩ := (mem_mirs hb t).mp h
  obtain ⟨a, b'⟩ := h3.len (by omega)
  obtain ⟨k, k1, k2, k3, _⟩ := h3
  have hl : t.length ≤ l.length := by rw [k3, sub_len (by omega)]; omega
  refine ⟨row_sub hrow hl fun x hx => ?_, a, b', hl⟩
  rw [k3] at hx
  exact List.mem_of_mem_drop (List.mem_of_mem_take hx)
/-- a mirror of two signs or more has a less -/
theorem has_less {t : List Nat} (hp : t = t.reverse) (h : 1 < t.length) : ∃ k, (endsN t)[1]? = some k ∧ 1 ≤ k ∧ k < t.length := by
  have e : t.take t.length = t := List.take_of_length_le (Nat.le_refl _)
  obtain ⟨L, eL, L1, L2, L3, L4⟩ := ends_first (l := t) (c := t.length) (by omega) (Nat.le_refl _)
  rw [e] at eL L4
  have m1 : (1 : Nat) ∈ endsN t := by
    have := (ends_mem (l := t) (c := t.length) (k := 1) (Nat.le_refl _)).mpr ⟨Nat.le_refl _, by omega, fun i h1 h2 => by congr 1; omega⟩
    rw [e] at this; exact this
  have mL : t.length ∈ endsN t := by
    have := (ends_mem (l := t) (c := t.length) (k := t.length) (Nat.le_refl _)).mpr ⟨by omega, Nat.le_refl _, (pal_iff (Nat.le_refl _)).mp (by rw [Nat.sub_self, sub_beg, e]; exact hp)⟩
    rw [e] at this; exact this
  have hL : L = t.length := by have := L4 _ mL; omega
  cases h2 : (endsN t)[1]? with
  | none =>
    exfalso
    have : (endsN t).length ≤ 1 := List.getElem?_eq_none_iff.mp h2
    obtain ⟨i, hi⟩ := List.mem_iff_getElem?.mp m1
    have hi0 : i = 0 := by have := (List.getElem?_eq_some_iff.mp hi).1; omega
    rw [hi0, eL] at hi
    have := Option.some.inj hi
    omega
  | some k =>
    have hd := filt_drop1 (p := sufB t) (n := t.length) (i := 0) (k := L) eL
    have hm : k ∈ ((downs t.length).filter (sufB t)).drop (0 + 1) := by
      have e2 : (((downs t.length).filter (sufB t)).drop (0 + 1))[0]? = some k := by rw [List.getElem?_drop]; exact h2
      exact List.mem_of_getElem? e2
    rw [hd] at hm
    have := mem_downs.mp (List.mem_filter.mp hm).1
    exact ⟨k, rfl, this.1, by omega⟩
theorem no_less {t : List Nat} (h : t.length ≤ 1) : lessN t = [] := by
  unfold lessN
  have : (endsN t).length ≤ t.length := filt_le _ _
  rw [List.getElem?_eq_none (by omega)]
  rfl
theorem inner_len (t : List Nat) : (inner t).length = t.length - 2 := by
  unfold inner
  rw [List.length_take, List.length_drop]
  omega
/-! the tree's data: it may be shown, and is not too long -/
def optD (o : Option Nat) : PyData := match o with | none => .none | some i => .int (i : Int)
/-- may be shown: n deep at most, of weight w at most -/
def ShOk (d : PyData) (n w : Nat) : Prop := d.showable = true ∧ d.depth ≤ n ∧ d.leavesShort 13 = true ∧ d.weight ≤ w
def ShAll (ds : List PyData) (n w : Nat) : Prop := PyData.showableAll ds = true ∧ PyData.depthAll ds ≤ n ∧ PyData.leavesShortAll 13 ds = true ∧ PyData.weightAll ds ≤ w
end Mr

namespace L2
open PySem PySem.Spec PyProof.Rows
section
variable {X : Cx} {K : PySem.W.Frag} {o e : Expr} {es : List Expr} {to : TE} {t : TA} {name : Str} {apos cpos : Pos} {T id : String} {r : V → List V → Hp → VK → Prop}
end
end L2
namespace Mr
open PySem L2
/-! the way of a mirror: its ends, by their numbers -/
theorem take_end {t : List Nat} (hp : t = t.reverse) {i k : Nat} (h : (endsN t)[i]? = some k) : t.take k = t.drop (t.length - k) := by
  obtain ⟨_, _, _, q4, _, _⟩ := ends_of_end h
  have r1 : t.reverse.take k = (t.drop (t.length - k)).reverse := by rw [List.take_reverse]
  rw [← hp] at r1
  rw [r1, ← q4]
theorem less_end {t : List Nat} (hp : t = t.reverse) {i k : Nat} (h : (endsN t)[i]? = some k) : lessN (t.take k) = t.take (((endsN t)[i + 1]?).getD 0) := by
  obtain ⟨q1, _, _, _, _, q6⟩ := ends_of_end h
  have e := take_end hp h
  have e1 : endsN (t.take k) = (endsN t).drop i := by rw [e]; exact q1
  unfold lessN
  rw [e1, List.getElem?_drop, List.take_take]
  cases h2 : (endsN t)[i + 1]? with
  | none => show List.take (min 0 k) t = List.take 0 t; rw [Nat.zero_min]
  | some k' =>
    have hd := filt_drop1 (p := sufB t) (n := t.length) (i := i) (k := k) h
    have hm : k' ∈ ((downs t.length).filter (sufB t)).drop (i + 1) := by
      have e2 : (((downs t.length).filter (sufB t)).drop (i + 1))[0]? = some k' := by rw [List.getElem?_drop]; exact h2
      exact List.mem_of_getElem? e2
    rw [hd] at hm
    have := (mem_downs.mp (List.mem_filter.mp hm).1).2
    show List.take (min k' k) t = List.take k' t
    rw [Nat.min_eq_left (by omega)]
theorem ends_zero {t : List Nat} (hp : t = t.reverse) (hn : t ≠ []) : (endsN t)[0]? = some t.length := by
  have hl : 0 < t.length := List.length_pos_iff.mpr hn
  have e : t.take t.length = t := List.take_of_length_le (Nat.le_refl _)
  obtain ⟨L, eL, L1, L2, L3, L4⟩ := ends_first (l := t) (c := t.length) (by omega) (Nat.le_refl _)
  rw [e] at eL L4
  have mL : t.length ∈ endsN t := by
    have := (ends_mem (l := t) (c := t.length) (k := t.length) (Nat.le_refl _)).mpr ⟨by omega, Nat.le_refl _, (pal_iff (Nat.le_refl _)).mp (by rw [Nat.sub_self, sub_beg, e]; exact hp)⟩
    rw [e] at this; exact this
  have hL : L = t.length := by have := L4 _ mL; omega
  rw [eL, hL]
theorem way_in {l t : List Nat} {b : Nat} (hb : b ≤ l.length) (ht : t ∈ mirs l b) (hp : t = t.reverse) (hn : t ≠ []) : ∀ {i k : Nat}, (endsN t)[i]? = some k → t.take k ∈ mirs l b
  | 0, k, h => by
    rw [ends_zero hp hn] at h
    have := Option.some.inj h
    rw [← this, List.take_of_length_le (Nat.le_refl _)]
    exact ht
  | i + 1, k, h => by
    have hi : i < (endsN t).length := by have := (List.getElem?_eq_some_iff.mp h).1; omega
    have h' : (endsN t)[i]? = some (endsN t)[i] := List.getElem?_eq_getElem hi
    have ih := way_in hb ht hp hn h'
    have e := less_end hp h'
    rw [h] at e
    have e' : lessN (t.take (endsN t)[i]) = t.take k := e
    obtain ⟨_, _, _, _, k1, k2⟩ := ends_of_end h
    rcases less_in hb ih with z | z
    · rw [e'] at z
      have : (t.take k).length = 0 := by rw [z]; rfl
      rw [List.length_take] at this
      omega
    · rw [e'] at z; exact z
def dueW (ms : List (List Nat)) (t : List Nat) : List Nat := (endsN t).map fun k => ms.idxOf (t.take k)
/-- the step behind number i of the way -/
def stepW (ms : List (List Nat)) (t : List Nat) (i : Nat) : Option Nat := ((endsN t)[i]?).map fun k => ms.idxOf (t.take k)
theorem step_next {l t : List Nat} {b : Nat} (hb : b ≤ l.length) (ht : t ∈ mirs l b) (hp : t = t.reverse) (hn : t ≠ []) {i k : Nat} (h : (endsN t)[i]? = some k) : idxO (mirs l b) (lessN (t.take k)) = stepW (mirs l b) t (i + 1) := by
  rw [less_end hp h]
  unfold stepW
  cases h2 : (endsN t)[i + 1]? with
  | none =>
    show idxO _ (t.take 0) = none
    rw [List.take_zero]
    exact idxO_none (no_nil hb)
  | some k' =>
    show idxO _ (t.take k') = some _
    unfold idxO
    rw [if_pos (way_in hb ht hp hn h2)]
theorem dueW_len (ms : List (List Nat)) (t : List Nat) : (dueW ms t).length ≤ t.length := by
  unfold dueW
  rw [List.length_map]
  exact filt_le _ _
/-! number_of and way -/
def spNumX (K : PySem.W.Frag) (C : Addr) : Sp := fun vs H Q E => ∃ (l : List Nat) (x : V), vs = [.str (tx l), x] ∧ rowL l = true ∧
  ((∃ t : List Nat, x = .str (tx t) ∧ mirV x = true ∧ t.length ≤ 100000 ∧ ∀ H', Same H H' → Q (optV (idxO (mirs l l.length) t)) H') ∨ (Thing K H x ∧ mirV x = false ∧ ∀ H', Same H H' → E (.ref C) none H'))
def NoNum (K : PySem.W.Frag) (l : List Nat) (H : Hp) (x : V) : Prop := (Scal x ∨ NoInt K H x) ∧ ∀ m : Nat, x = .int (m : Int) → ¬ m < (mirs l l.length).length
def spWayX (K : PySem.W.Frag) (C : Addr) : Sp := fun vs H Q E => ∃ (l : List Nat) (x : V), vs = [.str (tx l), x] ∧ rowL l = true ∧
  ((∃ (j : Nat) (t : List Nat), x = .int (j : Int) ∧ (mirs l l.length)[j]? = some t ∧ ∀ (p : Addr) (H' : Hp), H p = none → H' p = some (.lst (lensV (dueW (mirs l l.length) t))) → Same H H' → Q (.ref p) H') ∨ (NoNum K l H x ∧ ∀ H', Same H H' → E (.ref C) none H'))
def spTold17 (K : PySem.W.Frag) : Sp := fun vs H Q _ => ∃ (k : Int) (l : List Nat) (x : V), vs = [.int k, .str (tx l), x] ∧ rowL l = true ∧
  ((k = 0 ∧ ((∃ t : List Nat, x = .str (tx t) ∧ mirV x = true ∧ t.length ≤ 100000 ∧ ∀ H', Same H H' → Q (optV (idxO (mirs l l.length) t)) H') ∨ (Thing K H x ∧ mirV x = false ∧ ∀ H', Same H H' → Q (.str "mirror") H'))) ∨
   (k = 1 ∧ ((∃ (j : Nat) (t : List Nat), x = .int (j : Int) ∧ (mirs l l.length)[j]? = some t ∧ ∀ (p : Addr) (H' : Hp), H p = none → H' p = some (.lst (lensV (dueW (mirs l l.length) t))) → Same H H' → Q (.ref p) H') ∨ (NoNum K l H x ∧ ∀ H', Same H H' → Q (.str "number") H'))))
/-! rows of a, b, z; texts made mirrors -/
def Abz (l : List Nat) : Prop := ∀ c ∈ l, c = 97 ∨ c = 98 ∨ c = 122
def spClosedP : Sp := fun vs H Q _ => ∃ (l : List Nat), vs = [.str (tx l)] ∧ l.length ≤ 10000 ∧ ∀ (m : List Nat) (H' : Hp), (∀ c ∈ m, c ∈ l) → m.length ≤ 2 * l.length → m = m.reverse → (l ≠ [] → m ≠ []) → Same H H' → Q (.str (tx m)) H'
def spClosedZ : Sp := fun vs H Q _ => ∃ (l : List Nat), vs = [.str (tx l)] ∧ Abz l ∧ l.length ≤ 10000 ∧ ∀ (m : List Nat) (H' : Hp), Abz m → m.length ≤ 2 * l.length → Same H H' → Q (.str (tx m)) H'
def spRowZ : Sp := fun vs H Q _ => ∃ (b : Addr) (n most : Int), vs = [.ref b, .int most] ∧ H b = some (.lst [.int n]) ∧ 0 ≤ n ∧ 0 ≤ most ∧ most ≤ 1000 ∧
  ∀ (m : List Nat) (n' : Int) (H' : Hp), Abz m → (m.length : Int) ≤ most → 0 ≤ n' → H' b = some (.lst [.int n']) → But b H H' → Q (.str (tx m)) H'
/-! lists of numbers, shown -/
def lensD (ks : List Nat) : PyData := .list (ks.map fun (k : Nat) => PyData.int (k : Int))
theorem idxO_in {ms : List (List Nat)} {t : List Nat} (h : t ∈ ms) : idxO ms t = some (ms.idxOf t) := by unfold idxO; rw [if_pos h]
end Mr

namespace L2
open PySem PySem.Spec PyProof.Rows PySem.SeqAt PySem.MeetsSeq
/-! ### sorted of texts, endswith, == of lists that are the same or of unlike length -/
theorem strs_are : ∀ {ts : List (List Nat)} {us : List Value}, Vals (ts.map fun t => V.str (tx t)) us → StrsAre us (ts.map tx)
  | [], _, r => by cases r; exact .nil
  | t :: ts, _, r => by
    cases r with
    | cons a b =>
      obtain ⟨k, rfl⟩ := a
      exact .cons _ _ (strs_are b)
theorem are_vals : ∀ {us : List Value} {ss : List Str}, StrsAre us ss → Vals (ss.map V.str) us
  | _, _, .nil => .nil
  | _, _, .cons y t r => .cons ⟨t, rfl⟩ (are_vals r)
section
variable {X : Cx}
theorem bt_sorted : bootBuiltins "sorted" = some (.builtin "sorted") := by decide +kernel
theorem call_sortedS : CallR X (.builtin "sorted") (fun xs H Q => ∃ (p : Addr) (ts : List (List Nat)), xs = [.ref p] ∧ H p = some (.lst (ts.map fun t => V.str (tx t))) ∧ ts.length < 64 ∧ ∀ (l : Addr) (ss : List Str), ss.Perm (ts.map tx) → sortedS ss = true → H l = none → Q (.ref l) (upd H l (.lst (ss.map V.str)))) := by
  intro pins s σ H xs us Q I r h
  obtain ⟨p, ts, rfl, hH, hl, q⟩ := h
  obtain ⟨u, rfl, rx⟩ := vals1 r
  cases rx
  obtain ⟨its, r', pl, hz⟩ := I.list (SqL.of (K := X.K) hH)
  have hlen := r'.length
  refine sorted_strs pl.isList (strs_are r') (by rw [← hlen, List.length_map]; exact hl) fun out ss a1 a2 a3 => ?_
  obtain ⟨e, he⟩ := sortedAll_at s.heap its out
  refine ⟨.ref _, _, I.laid (t' := s.toks) (o := .lst (ss.map V.str)) (fun b ob q => sortedAll_old q) (Nat.le_succ _) ?_, rfl, q _ ss a2 a3 (I.hok.fresh (Nat.le_succ _))⟩
  have hs : ss.length = ts.length := by rw [a2.length_eq, List.length_map]
  exact ⟨by rw [List.length_map, sizeLine_eq]; omega, out.toList, e, are_vals a1, by simpa using he⟩
def rEndsS : V → List V → Hp → VK → Prop := fun x vs H Q => ∃ t u : List Nat, x = .str (tx t) ∧ vs = [.str (tx u)] ∧ u.length ≤ t.length ∧ u = t.drop (t.length - u.length) ∧ Q (.bl true) H
/-- == of two lists that are the same, n deep below them, or of unlike length -/
def rEqDL (n : Nat) : R2 := fun x y H Q => ∃ p q xs ys, x = .ref p ∧ y = .ref q ∧ H p = some (.lst xs) ∧ H q = some (.lst ys) ∧ ((xs.length = ys.length ∧ (∀ (j : Nat) (u v : V), xs[j]? = some u → ys[j]? = some v → DSame H n u v) ∧ Q (.bl true) H) ∨ (xs.length ≠ ys.length ∧ Q (.bl false) H))
end
/-! what is sorted is one list -/
theorem lt_asymm : ∀ {a b : List Nat}, ltCps a b = false → ltCps b a = false → a = b
  | [], [], _, _ => rfl
  | [], _ :: _, h, _ => by simp [ltCps] at h
  | _ :: _, [], _, h => by simp [ltCps] at h
  | a :: r, b :: t, h, h' => by
    simp only [ltCps, Bool.or_eq_false_iff, Bool.and_eq_false_iff, decide_eq_false_iff_not] at h h'
    have e : a = b := by omega
    subst e
    have h1 : ltCps r t = false := by rcases h.2 with z | z; simp at z; exact z
    have h2 : ltCps t r = false := by rcases h'.2 with z | z; simp at z; exact z
    rw [lt_asymm h1 h2]
theorem le_trans : ∀ {a b c : List Nat}, ltCps b a = false → ltCps c b = false → ltCps c a = false
  | [], _, [], _, _ => by simp [ltCps]
  | [], _, _ :: _, _, _ => by simp [ltCps]
  | _ :: _, [], _, h, _ => by simp [ltCps] at h
  | _ :: _, _ :: _, [], _, h => by simp [ltCps] at h
  | a :: r, b :: t, c :: u, h, h' => by
    simp only [ltCps, Bool.or_eq_false_iff, Bool.and_eq_false_iff, decide_eq_false_iff_not] at h h' ⊢
    refine ⟨by omega, ?_⟩
    by_cases e : c = a
    · subst e
      have e2 : b = c := by omega
      subst e2
      have h1 : ltCps t r = false := by rcases h.2 with z | z; simp at z; exact z
      have h2 : ltCps u t = false := by rcases h'.2 with z | z; simp at z; exact z
      exact .inr (le_trans h1 h2)
    · exact .inl (by simp; exact e)
theorem rising_le : ∀ {p : Str} {l : List Str}, risingS p l = true → ∀ y ∈ l, ltCps y.cps.toList p.cps.toList = false
  | _, [], _, y, h => by cases h
  | p, x :: r, h, y, hy => by
    have h' : (!ltCps x.cps.toList p.cps.toList && risingS x r) = true := h
    rw [Bool.and_eq_true, Bool.not_eq_true'] at h'
    rcases List.mem_cons.mp hy with rfl | hy
    · exact h'.1
    · exact le_trans h'.1 (rising_le h'.2 y hy)
theorem sorted_tail {x : Str} {r : List Str} (h : sortedS (x :: r) = true) : sortedS r = true := by
  cases r with
  | nil => rfl
  | cons y r =>
    have h' : (!ltCps y.cps.toList x.cps.toList && risingS y r) = true := h
    rw [Bool.and_eq_true] at h'
    exact h'.2
theorem str_ext {a b : Str} (h : a.cps.toList = b.cps.toList) : a = b := by
  cases a; cases b
  simp at h
  rw [h]
theorem sorted_one : ∀ {a b : List Str}, a.Perm b → sortedS a = true → sortedS b = true → a = b
  | [], b, p, _, _ => (List.nil_perm.mp p).symm
  | x :: r, [], p, _, _ => by have := p.length_eq; simp at this
  | x :: r, y :: t, p, ha, hb => by
    have e : x = y := by
      rcases List.mem_cons.mp (p.mem_iff.mp List.mem_cons_self) with e | hx
      · exact e
      rcases List.mem_cons.mp (p.mem_iff.mpr (List.mem_cons_self : y ∈ y :: t)) with e | hy
      · exact e.symm
      exact str_ext (lt_asymm (rising_le hb x hx) (rising_le ha y hy))
    subst e
    rw [sorted_one (List.perm_cons _ |>.mp p) (sorted_tail ha) (sorted_tail hb)]
end L2

namespace Mr
open PySem L2
/-! the tree of a beginning; elder ones; the row turned about -/
theorem top_take {l : List Nat} {b c : Nat} (hc : c ≤ b) : topT (l.take b) c = topT l c := by
  unfold topT
  have e : (l.take b).take c = l.take c := by rw [List.take_take, Nat.min_eq_left hc]
  rw [e]
  unfold sub
  rw [List.drop_take, List.take_take]
  congr 1
  omega
theorem mirs_take {l : List Nat} {b : Nat} : ∀ {c : Nat}, c ≤ b → mirs (l.take b) c = mirs l c
  | 0, _ => rfl
  | c + 1, h => by
    show (if topT (l.take b) (c + 1) ∈ mirs (l.take b) c then mirs (l.take b) c else mirs (l.take b) c ++ [topT (l.take b) (c + 1)]) = (if topT l (c + 1) ∈ mirs l c then mirs l c else mirs l c ++ [topT l (c + 1)])
    rw [top_take h, mirs_take (by omega)]
theorem mirs_pre (l : List Nat) : ∀ {b c : Nat}, b ≤ c → ∃ r, mirs l c = mirs l b ++ r
  | b, 0, h => by
    have : b = 0 := by omega
    subst this
    exact ⟨[], by simp⟩
  | b, c + 1, h => by
    by_cases e : b = c + 1
    · subst e; exact ⟨[], by simp⟩
    · obtain ⟨r, hr⟩ := mirs_pre l (b := b) (c := c) (by omega)
      have hs : mirs l (c + 1) = if topT l (c + 1) ∈ mirs l c then mirs l c else mirs l c ++ [topT l (c + 1)] := rfl
      rw [hs]
      by_cases hm : topT l (c + 1) ∈ mirs l c
      · rw [if_pos hm]; exact ⟨r, hr⟩
      · rw [if_neg hm, hr]; exact ⟨r ++ [topT l (c + 1)], by simp⟩
theorem idxO_pre {l : List Nat} {b c : Nat} (h : b ≤ c) {x : List Nat} (hx : x ∈ mirs l b) : idxO (mirs l c) x = idxO (mirs l b) x := by
  obtain ⟨r, hr⟩ := mirs_pre l h
  rw [hr]
  unfold idxO
  rw [if_pos hx, if_pos (List.mem_append_left _ hx), List.idxOf_append, if_pos hx]
/-- where number j was new -/
theorem new_at {l : List Nat} : ∀ {n j : Nat} {t : List Nat}, n ≤ l.length → (mirs l n)[j]? = some t → ∃ b, b < n ∧ (mirs l b).length = j ∧ t = topT l (b + 1) ∧ t ∉ mirs l b
  | 0, j, t, _, h => by simp [mirs] at h
  | n + 1, j, t, hn, h => by
    have hs : mirs l (n + 1) = if topT l (n + 1) ∈ mirs l n then mirs l n else mirs l n ++ [topT l (n + 1)] := rfl
    by_cases hm : topT l (n + 1) ∈ mirs l n
    · rw [hs, if_pos hm] at h
      obtain ⟨b, h1, h2⟩ := new_at (by omega) h
      exact ⟨b, by omega, h2⟩
    · rw [hs, if_neg hm] at h
      by_cases hj : j < (mirs l n).length
      · rw [List.getElem?_append_left hj] at h
        obtain ⟨b, h1, h2⟩ := new_at (by omega) h
        exact ⟨b, by omega, h2⟩
      · rw [List.getElem?_append_right (by omega)] at h
        have h0 : j - (mirs l n).length = 0 := by
          have := (List.getElem?_eq_some_iff.mp h).1
          simp at this; omega
        rw [h0] at h
        have e : topT l (n + 1) = t := Option.some.inj h
        exact ⟨n, by omega, by omega, e.symm, by rw [← e]; exact hm⟩
theorem elder_less {l t : List Nat} {j i : Nat} (h : (mirs l l.length)[j]? = some t) (hi : idxO (mirs l l.length) (lessN t) = some i) : i < j := by
  obtain ⟨b, h1, h2, h3, h4⟩ := new_at (Nat.le_refl _) h
  have hte := top_ends (l := l) (c := b + 1) (by omega) (by omega)
  have htl := hte.len (by omega)
  rw [← h3] at htl
  have ht : t ∈ mirs l (b + 1) := by
    rw [h3]
    exact (mem_mirs (by omega) _).mpr ⟨b + 1, by omega, Nat.le_refl _, hte⟩
  have hin : lessN t ∈ mirs l (b + 1) := by
    rcases less_in (by omega) ht with z | z
    · rw [z, idxO_none (no_nil (Nat.le_refl _))] at hi; cases hi
    · exact z
  have hb : lessN t ∈ mirs l b := by
    have hs : mirs l (b + 1) = if topT l (b + 1) ∈ mirs l b then mirs l b else mirs l b ++ [topT l (b + 1)] := rfl
    rw [hs, if_neg (by rw [← h3]; exact h4), List.mem_append, List.mem_singleton, ← h3] at hin
    rcases hin with z | z
    · exact z
    · exfalso
      by_cases h1 : 1 < t.length
      · obtain ⟨k, hk, k1, k2⟩ := has_less htl.2 h1
        have : (lessN t).length = k := by unfold lessN; rw [hk, List.length_take]; show min k _ = k; omega
        rw [z] at this
        omega
      · rw [no_less (by omega)] at z
        exact htl.1 z.symm
  rw [idxO_pre (by omega : b ≤ l.length) hb] at hi
  have := idxO_lt hi
  omega
/-! the row turned about has the same mirrors -/
end Mr

namespace Mr
open PySem L2
/-! trees looked at, entries looked at -/
def spElder : Sp := fun vs H Q _ => ∃ o : Option Nat, vs = [optV o, optV o] ∧ Q (.bl true) H
def spEntry : Sp := fun vs H Q _ => ∃ (p q : Addr) (e : Ent), vs = [.ref p, .ref q] ∧ H p = some (entV e) ∧ H q = some (entV e) ∧ Q (.bl true) H
def spIsTree : Sp := fun vs H Q _ => ∃ (p : Addr) (xs : List V) (l : List Nat), vs = [.ref p, .str (tx l)] ∧ rowL l = true ∧ H p = some (.lst xs) ∧
  ((TreeV H xs (treeN l) ∧ ∀ H', Same H H' → Q (.bl true) H') ∨ (xs.length ≠ (treeN l).length ∧ ∀ H', Same H H' → Q (.bl false) H'))
def spEntryR : Sp := fun vs H Q _ => ∃ (p : Addr) (xs : List V) (l : List Nat) (j : Nat), vs = [.ref p, .int (j : Int)] ∧ rowL l = true ∧ H p = some (.lst xs) ∧ TreeV H xs (treeN l) ∧ j < (mirs l l.length).length ∧ ∀ H', Same H H' → Q (.bl true) H'
def spNum1 : Sp := fun vs H Q _ => ∃ (l t : List Nat), vs = [.str (tx l), .str (tx t)] ∧ rowL l = true ∧ mirV (.str (tx t)) = true ∧ t.length ≤ 100000 ∧ ∀ H', Same H H' → Q (optV (idxO (mirs l l.length) t)) H'
def spWay1 : Sp := fun vs H Q _ => ∃ (l : List Nat) (j : Nat) (t : List Nat), vs = [.str (tx l), .int (j : Int)] ∧ rowL l = true ∧ (mirs l l.length)[j]? = some t ∧ ∀ (p : Addr) (H' : Hp), H p = none → H' p = some (.lst (lensV (dueW (mirs l l.length) t))) → Same H H' → Q (.ref p) H'
theorem tree_at {H : Hp} {xs : List V} {l t : List Nat} {j : Nat} (h : TreeV H xs (treeN l)) (hj : (mirs l l.length)[j]? = some t) : ∃ pe, xs[j]? = some (.ref pe) ∧ H pe = some (.tup [.str (tx t), optV (idxO (mirs l l.length) (inner t)), optV (idxO (mirs l l.length) (lessN t))]) := by
  have hjl := (List.getElem?_eq_some_iff.mp hj).1
  have hxl : xs.length = (mirs l l.length).length := by rw [h.1]; unfold treeN; rw [List.length_map]
  have hx : xs[j]? = some xs[j] := List.getElem?_eq_getElem (by omega)
  have he : (treeN l)[j]? = some (entT (mirs l l.length) t) := by unfold treeN; rw [List.getElem?_map, hj]; rfl
  obtain ⟨pe, e1, e2⟩ := h.2 j _ _ hx he
  exact ⟨pe, by rw [hx, e1], e2⟩
theorem str_flat (ss : List Str) : (ss.map V.str).all flatV = true := by
  rw [List.all_eq_true]
  intro x hx
  obtain ⟨s, _, rfl⟩ := List.mem_map.mp hx
  rfl
end Mr

namespace L2
open PySem PySem.Spec PyProof.Rows
/-! ### sorted(xs, reverse=True) of ints, set(xs) of ints, len of it -/
section
variable {X : Cx} {x : Str} {p pos : Pos} {e : Expr} {es : List Expr} {kws : List Keyword} {t tk : TA} {id : String} {ks : List Str} {r : List V → List V → Hp → VK → Prop}
/-- a call of a built-in with keywords -/
def CallKR (X : Cx) (f : Value) (ks : List Str) (r : List V → List V → Hp → VK → Prop) : Prop :=
  ∀ (pins : List (Addr × Obj)) (s : Shared) (σ : St) (H : Hp) (xs zs : List V) (us ws : List Value) (Q : VK), Inv X pins σ H s → Vals xs us → Vals zs ws → r xs zs H Q → wpAny (model X.prog X.w) X.A (call f us (ks.zip ws)) (EP X pins σ Q) X.xe s
def tCBK (r : List V → List V → Hp → VK → Prop) (t tk : TA) : TE := fun σ H Q => t σ H fun vs H1 => tk σ H1 fun zs H2 => r vs zs H2 Q
def setOfI (ns : List Int) : List Int := firstMet (fun i => ns.getD i 0) ns.length
end
end L2

namespace L2
open PySem PySem.Spec PyProof.Rows
section
variable {X : Cx} {scope : Scope} {cl : List (Str × Addr)} {xs ys : List Str} {ix : List Nat}
end
end L2

namespace Mr
open PySem L2
/-! the steps of the ends: they never rise, and where they fall the length is more than the next two together -/
/-- lengths whose steps never rise, with what is promised where they fall -/
def Good : List Int → Prop
  | [] => True
  | a :: r => 0 < a ∧ hd0 r < a ∧ (r ≠ [] → hd0 r - hd0 r.tail ≤ a - hd0 r ∧ (hd0 r - hd0 r.tail < a - hd0 r → hd0 r + hd0 r.tail < a)) ∧ Good r
def castI (l : List Nat) : List Int := l.map fun k : Nat => (k : Int)
/-! groups told apart -/
def lenG (g : Gp) : List Int := (List.range g.2.2.toNat).map fun k : Nat => g.1 - g.2.1 * (k : Int)
def lensG (gs : List Gp) : List Int := (gs.map lenG).flatten
def HdG (r : List Int) (D : List Gp) : Prop := match D with
  | [] => r = []
  | y :: _ => r ≠ [] ∧ y.1 = hd0 r ∧ y.2.1 = hd0 r - hd0 r.tail ∧ 1 ≤ y.2.2
def stepG (D : List Gp) : List Int := D.map (·.2.1)
def leastI : Nat → Int
  | 0 => 1
  | 1 => 3
  | n + 2 => leastI (n + 1) + leastI n + 1
end Mr

namespace L2
open PySem PySem.Spec PyProof.Rows
end L2
namespace Mr
open PySem L2
/-- the lengths of the groups -/
def spLenG : Sp := fun vs H Q _ => ∃ (p : Addr) (xs : List V) (gs : List Gp), vs = [.ref p] ∧ H p = some (.lst xs) ∧ GrpsV H xs gs ∧ (lensG gs).length ≤ 1000 ∧ (∀ g ∈ gs, 1 ≤ g.2.2) ∧
  ∀ (p' : Addr) (H' : Hp), H p' = none → H' p' = some (.lst ((lensG gs).map V.int)) → Same H H' → Q (.ref p') H'
theorem atI_neg {α : Type} {xs : List α} {d : Nat} (h1 : 1 ≤ d) (h2 : d ≤ xs.length) : atI xs (-(d : Int)) = xs[xs.length - d]? := by
  unfold atI ixN
  rw [if_neg (by omega), if_pos (by omega)]
  have e : (-(d : Int) + (xs.length : Int)).toNat = xs.length - d := by omega
  first | (rw [e]; rfl) | (show xs[_]? = _; congr 1; omega)
def leasts (k : Nat) : List V := ((List.range k).map leastI).map V.int
def spRight : Sp := fun vs H Q _ => ∃ (p : Addr) (ls : List Int), vs = [.ref p] ∧ H p = some (.lst (ls.map V.int)) ∧ Good ls ∧ ls.length ≤ 60 ∧ ∀ H', Same H H' → Q (.bl true) H'
end Mr

namespace L2
open PySem PySem.Spec PyProof.Rows PySem.SeqAt PySem.MeetsSeq
open PySem.AutoSeq1 (wpAny_loadPart')
/-! ### a dict against a number; a list of whatever against a list of numbers -/
/-- x == n, x whatever of the odd things -/
def eqN : V → Int → Bool
  | .int i, n => i == n
  | .bl b, n => (if b then 1 else 0) == n
  | _, _ => false
/-- what may stand against a number -/
def Vs (H : Hp) (x : V) : Prop := match x with
  | .non => True
  | .bl _ => True
  | .int _ => True
  | .str _ => True
  | .ref p => (∃ xs, H p = some (.lst xs)) ∨ (∃ xs, H p = some (.tup xs)) ∨ ∃ kvs, H p = some (.dK kvs)
  | _ => False
section
variable {X : Cx} {pins : List (Addr × Obj)} {σ : St} {H : Hp} {s : Shared}
def eqNs (xs : List V) (ns : List Int) : Bool := decide (xs.length = ns.length) && (List.range xs.length).all fun j => eqN (xs.getD j .non) (ns.getD j 0)
def rEqN : R2 := fun x y H Q => ∃ p q xs ns, x = .ref p ∧ y = .ref q ∧ H p = some (.lst xs) ∧ H q = some (.lst (ns.map V.int)) ∧ (∀ x ∈ xs, Vs H x) ∧ Q (.bl (eqNs xs ns)) H
end
/-! ### repr of made data with small dicts -/
mutual
inductive RdW (H : Hp) : V → PyData → Prop
  | non : RdW H .non .none
  | bl (b : Bool) : RdW H (.bl b) (.bool b)
  | int (i : Int) : RdW H (.int i) (.int i)
  | str (z : Str) : RdW H (.str z) (.str z)
  | lst {p : Addr} {xs : List V} {ds : List PyData} : H p = some (.lst xs) → RdWs H xs ds → RdW H (.ref p) (.list ds)
  | tup {p : Addr} {xs : List V} {ds : List PyData} : H p = some (.tup xs) → RdWs H xs ds → RdW H (.ref p) (.tuple ds)
  | dic {p : Addr} {z : Str} {i : Int} : H p = some (.dK [(Sum.inr z, .int i)]) → RdW H (.ref p) (.dict [(.str z, .int i)])
inductive RdWs (H : Hp) : List V → List PyData → Prop
  | nil : RdWs H [] []
  | cons {x : V} {d : PyData} {xs : List V} {ds : List PyData} : RdW H x d → RdWs H xs ds → RdWs H (x :: xs) (d :: ds)
end
mutual
theorem RdW.mono {H H' : Hp} (s : Same H H') : ∀ {x : V} {d : PyData}, RdW H x d → RdW H' x d
  | _, _, .non => .non
  | _, _, .bl b => .bl b
  | _, _, .int i => .int i
  | _, _, .str z => .str z
  | _, _, .lst h r => .lst (s _ _ h) (RdWs.mono s r)
  | _, _, .tup h r => .tup (s _ _ h) (RdWs.mono s r)
  | _, _, .dic h => .dic (s _ _ h)
theorem RdWs.mono {H H' : Hp} (s : Same H H') : ∀ {xs : List V} {ds : List PyData}, RdWs H xs ds → RdWs H' xs ds
  | _, _, .nil => .nil
  | _, _, .cons a b => .cons (RdW.mono s a) (RdWs.mono s b)
end
section
variable {X : Cx} {pins : List (Addr × Obj)} {σ : St} {H : Hp} {s : Shared}
mutual
theorem RdW.reads (I : Inv X pins σ H s) : ∀ {x : V} {d : PyData} {u : Value}, RdW H x d → RelV x u → ∃ as, Reads s.heap u d as ∧ ∀ a ∈ as, H a ≠ none
  | _, _, _, .non, r => by cases r; exact ⟨_, .none, fun a h => by cases h⟩
  | _, _, _, .bl b, r => by cases r; exact ⟨_, .bool b, fun a h => by cases h⟩
  | _, _, _, .int i, r => by obtain ⟨t, rfl⟩ := r; exact ⟨_, .int i t, fun a h => by cases h⟩
  | _, _, _, .str z, r => by obtain ⟨t, rfl⟩ := r; exact ⟨_, .str z t, fun a h => by cases h⟩
  | _, _, _, .lst (p := p) h q, r => by
    cases r
    obtain ⟨_, its, n, rv, e⟩ := (show ObjOk X.prog X.w H s.heap _ (.lst _) from I.hok _ _ h)
    obtain ⟨as, ra, ha⟩ := RdWs.reads I q rv
    refine ⟨_, .list e rfl rfl (by simpa using ra), fun a hm => ?_⟩
    rcases List.mem_cons.mp hm with rfl | hm
    · rw [h]; simp
    · exact ha a hm
  | _, _, _, .tup h q, r => by
    cases r
    obtain ⟨_, its, rv, o, e, c, n, d⟩ := (show ObjOk X.prog X.w H s.heap _ (.tup _) from I.hok _ _ h)
    obtain ⟨as, ra, ha⟩ := RdWs.reads I q rv
    exact ⟨_, .tuple e c d (by simpa using ra), ha⟩
  | _, _, _, .dic (p := p) (z := z0) (i := i0) h, r => by
    cases r
    obtain ⟨_, _, vs, kv, o, es, ep, h1, h2, h3, _, h5, _⟩ := (show ObjOk X.prog X.w H s.heap _ (.dK _) from I.hok _ _ h)
    cases kv with
    | cons e1 e2 =>
      cases e2
      obtain ⟨e1, rv⟩ := e1
      cases hes : es.toList with
      | nil => rw [hes] at h5; cases h5
      | cons e0 er =>
        rw [hes] at h5
        cases h5 with
        | cons k1 k2 k3 =>
          cases k3
          obtain ⟨t2, e3⟩ := rv
          have k1' : keyIs (Sum.inr z0) e0.key = true := by rw [mixKind_is, ← e1] at k1; exact k1
          rcases keyIs_shape k1' with ⟨i, t, a, b⟩ | ⟨x, t, a, b⟩
          · cases a
          · cases a
            refine ⟨_, .dict (kvs := [(.str _, .int _)]) h1 h2.1 h3 (as := []) (bs := []) ?_ ?_, fun a hm => ?_⟩
            · rw [hes]
              show ReadsAll s.heap [e0.key] [.str _] []
              rw [b]
              exact .cons (as := []) (bs := []) (.str _ _) .nil
            · rw [hes]
              show ReadsAll s.heap [e0.val] [.int _] []
              rw [k2, e3]
              exact .cons (as := []) (bs := []) (.int _ _) .nil
            · have : a = p := by simpa using hm
              rw [this, h]; simp
theorem RdWs.reads (I : Inv X pins σ H s) : ∀ {xs : List V} {ds : List PyData} {us : List Value}, RdWs H xs ds → Vals xs us → ∃ as, ReadsAll s.heap us ds as ∧ ∀ a ∈ as, H a ≠ none
  | _, _, _, .nil, r => by cases r; exact ⟨_, .nil, fun a h => by cases h⟩
  | _, _, _, .cons a b, r => by
    cases r with
    | cons r1 r2 =>
      obtain ⟨as, ra, h1⟩ := RdW.reads I a r1
      obtain ⟨bs, rb, h2⟩ := RdWs.reads I b r2
      refine ⟨_, .cons ra rb, fun a hm => ?_⟩
      rcases List.mem_append.mp hm with hm | hm
      · exact h1 a hm
      · exact h2 a hm
end
end
end L2

namespace L2
open PySem PySem.Spec PyProof.Rows
end L2

namespace Mr
open PySem L2
/-! things of whatever kind: what may stand in a list, what may be handed in -/
inductive Elt (H : Hp) : V → Prop
  | bl (b : Bool) : Elt H (.bl b)
  | int (i : Int) (h : i.natAbs < 10 ^ 40) : Elt H (.int i)
  | str (z : Str) (h : z.cps.size ≤ 300) (hc : (z.cps.toList.all fun c => decide (c < 16 ^ 8)) = true) : Elt H (.str z)
  | odd (x : V) (h : Odd H x) : Elt H x
/-- a thing that is handed in -/
inductive Thg (b : Addr) (H : Hp) : V → Prop
  | elt (x : V) (h : Elt H x) : Thg b H x
  | lst (p : Addr) (xs : List V) (hp : H p = some (.lst xs)) (hb : p ≠ b) (hl : xs.length ≤ 60) (he : ∀ x ∈ xs, Elt H x) : Thg b H (.ref p)
  | tup (p : Addr) (xs : List V) (hp : H p = some (.tup xs)) (hl : xs.length ≤ 60) (he : ∀ x ∈ xs, Elt H x) : Thg b H (.ref p)
/-- may be shown: n deep at most, of weight w at most -/
def Sh2 (d : PyData) (n w : Nat) : Prop := d.showable = true ∧ d.depth ≤ n ∧ d.leavesShort 50 = true ∧ d.weight ≤ w
def Sh2s (ds : List PyData) (n w : Nat) : Prop := PyData.showableAll ds = true ∧ PyData.depthAll ds ≤ n ∧ PyData.leavesShortAll 50 ds = true ∧ PyData.weightAll ds ≤ w
section
variable {K : PySem.W.Frag}
end
def spSameG (K : PySem.W.Frag) : Sp := fun vs H Q _ => ∃ (x : V) (n : Int), vs = [x, .int n] ∧ (Scal x ∨ NoInt K H x) ∧ Q (.bl (decide (x = .int n))) H
def spAreG (K : PySem.W.Frag) : Sp := fun vs H Q _ => ∃ (x : V) (l : List Nat), vs = [x, .str (tx l)] ∧ rowL l = true ∧
  ((∃ (p : Addr) (xs : List V), x = .ref p ∧ H p = some (.lst xs) ∧ (∀ x ∈ xs, Scal x ∨ NoInt K H x) ∧ ∀ H', Same H H' → Q (.bl (decide (xs = lensV (reachesN l)))) H') ∨
   ((∃ t, TyOf K H x t ∧ PySem.W.kitOne K t (.type "list") = some false) ∧ ∀ H', Same H H' → Q (.bl false) H'))
def spBent04 : Sp := fun vs H Q _ => ∃ (b pd : Addr) (n : Int) (ks : List Nat) (x : V), vs = [.ref b, .ref pd, x] ∧ H b = some (.lst [.int n]) ∧ 0 ≤ n ∧ b ≠ pd ∧ H pd = some (.lst (lensV ks)) ∧ ks.length ≤ 29 ∧ (∀ k ∈ ks, k < 100) ∧ Odd H x ∧
  ∀ (y : V) (n' : Int) (H' : Hp), Thg b H' y → (∀ p, y = .ref p → H p = none) → 0 ≤ n' → H' b = some (.lst [.int n']) → But b H H' → Q y H'
end Mr

namespace L2
open PySem PySem.Spec PyProof.Rows PySem.SeqAt PySem.MeetsSeq
open PySem.AutoSeq1 (wpAny_loadPart')
/-! ### != of whatever thing and a text -/
section
variable {X : Cx}
def rNeS : R2 := fun x y H Q => ∃ z : Str, y = .str z ∧ Vs H x ∧ Q (.bl (!decide (x = .str z))) H
end
end L2

namespace Mr
open PySem L2
/-! things that are shown alike are alike: the tree's side is known -/
def cp (z : Str) : List Nat := z.cps.toList
def joinC : List (List Nat) → List Nat
  | [] => []
  | [x] => x
  | x :: y :: r => x ++ 44 :: 32 :: joinC (y :: r)
/-- the signs of what is shown -/
def shC (d : PyData) : List Nat := cp d.shown
/-- numbers that may stand there -/
def NiceI (i : Int) : Prop := i = 10 ^ 39 ∨ i = -1 ∨ ∃ n : Nat, n < 40 ∧ i = (n : Int)
def dig (n : Nat) : List Nat := cp ((toString (n : Int) : String) : Str)
/-! texts -/
def inn (l : List Nat) : List Nat := (l.map (Builtin.Str.reprChar 39)).flatten
def NiceS (l : List Nat) : Prop := Let l ∨ l = [65] ∨ l = [97, 32, 98] ∨ l = [97, 10] ∨ l = [49]
/-- what may stand anywhere: its numbers and texts are nice -/
def Leaf (d : PyData) : Prop := match d with
  | .int i => NiceI i
  | .str z => ∃ l, z = tx l ∧ NiceS l
  | _ => True
def dgB (c : Nat) : Bool := decide (48 ≤ c ∧ c ≤ 57)
/-- the first sign -/
def FirstC (d : PyData) (c : Nat) : Prop := match d with
  | .none => c = 78
  | .bool _ => c = 84 ∨ c = 70
  | .int _ => dgB c = true ∨ c = 45
  | .str _ => c = 39
  | .list _ => c = 91
  | .tuple _ => c = 40
  | .dict _ => c = 123
/-! entries and trees -/
def Ent2 (d : PyData) : Prop := Leaf d ∧ ∀ ds, d = .tuple ds → ∀ x ∈ ds, Leaf x
def Top2 (d : PyData) : Prop := Leaf d ∧ ∀ ds, d = .list ds → ∀ x ∈ ds, Ent2 x
/-- an entry of letters and small numbers -/
def SmallE (e : Ent) : Prop := Let e.1 ∧ (∀ i, e.2.1 = some i → i < 40) ∧ ∀ i, e.2.2 = some i → i < 40
end Mr

namespace Mr
open PySem L2
/-! things that are handed in where trees are asked for -/
def NiceV (x : V) : Prop := match x with
  | .int i => NiceI i
  | .str z => ∃ l, z = tx l ∧ NiceS l
  | _ => True
mutual
theorem rdw_one {H : Hp} : ∀ {x : V} {d d' : PyData}, RdW H x d → RdW H x d' → d = d'
  | _, _, _, .non, .non => rfl
  | _, _, _, .bl b, .bl _ => rfl
  | _, _, _, .int i, .int _ => rfl
  | _, _, _, .str z, .str _ => rfl
  | _, _, _, .lst h q, .lst h' q' => by rw [h] at h'; cases h'; rw [rdws_one q q']
  | _, _, _, .lst h q, .tup h' q' => by rw [h] at h'; cases h'
  | _, _, _, .lst h q, .dic h' => by rw [h] at h'; cases h'
  | _, _, _, .tup h q, .tup h' q' => by rw [h] at h'; cases h'; rw [rdws_one q q']
  | _, _, _, .tup h q, .lst h' q' => by rw [h] at h'; cases h'
  | _, _, _, .tup h q, .dic h' => by rw [h] at h'; cases h'
  | _, _, _, .dic h, .dic h' => by rw [h] at h'; cases h'; rfl
  | _, _, _, .dic h, .lst h' q' => by rw [h] at h'; cases h'
  | _, _, _, .dic h, .tup h' q' => by rw [h] at h'; cases h'
theorem rdws_one {H : Hp} : ∀ {xs : List V} {ds ds' : List PyData}, RdWs H xs ds → RdWs H xs ds' → ds = ds'
  | _, _, _, .nil, .nil => rfl
  | _, _, _, .cons a b, .cons a' b' => by rw [rdw_one a a', rdws_one b b']
end
/-- what stands in a list of entries -/
inductive En (b : Addr) (H : Hp) : V → Prop
  | lf (x : V) (h : Elt H x) (n : NiceV x) : En b H x
  | tup (p : Addr) (xs : List V) (hp : H p = some (.tup xs)) (hl : xs.length ≤ 5) (he : ∀ x ∈ xs, Elt H x ∧ NiceV x) : En b H (.ref p)
  | lst (p : Addr) (xs : List V) (hp : H p = some (.lst xs)) (hb : p ≠ b) (hl : xs.length ≤ 3) (he : ∀ x ∈ xs, Elt H x ∧ NiceV x) : En b H (.ref p)
inductive Tg (b : Addr) (H : Hp) : V → Prop
  | en (x : V) (h : En b H x) : Tg b H x
  | lst (p : Addr) (xs : List V) (hp : H p = some (.lst xs)) (hb : p ≠ b) (hl : xs.length ≤ 60) (he : ∀ x ∈ xs, En b H x) : Tg b H (.ref p)
  | tup (p : Addr) (xs : List V) (hp : H p = some (.tup xs)) (hl : xs.length ≤ 60) (he : ∀ x ∈ xs, En b H x) : Tg b H (.ref p)
section
variable {K : PySem.W.Frag}
end
/-- small entries -/
def SmE (e : Ent) : Prop := SmallE e ∧ e.1.length ≤ 100
def spElderG (K : PySem.W.Frag) : Sp := fun vs H Q _ => ∃ (x : V) (o : Option Nat) (d : PyData), vs = [x, optV o] ∧ (Scal x ∨ NoInt K H x) ∧ RdW H x d ∧ ∀ r : Bool, (r = true ↔ d = optD o) → Q (.bl r) H
def spEntryG : Sp := fun vs H Q _ => ∃ (b : Addr) (x : V) (q : Addr) (d : PyData) (e : Ent), vs = [x, .ref q] ∧ En b H x ∧ RdW H x d ∧ H q = some (entV e) ∧ ∀ r : Bool, (r = true ↔ d = entD e) → Q (.bl r) H
def spIsTreeG : Sp := fun vs H Q _ => ∃ (b : Addr) (x : V) (l : List Nat) (d : PyData), vs = [x, .str (tx l)] ∧ rowL l = true ∧ Tg b H x ∧ RdW H x d ∧ ∀ (r : Bool) (H' : Hp), (r = true ↔ d = .list ((treeN l).map entD)) → Same H H' → Q (.bl r) H'
def spBent16 : Sp := fun vs H Q _ => ∃ (b pd : Addr) (n : Int) (xs : List V) (es : List Ent) (x : V), vs = [.ref b, .ref pd, x] ∧ H b = some (.lst [.int n]) ∧ 0 ≤ n ∧ b ≠ pd ∧ H pd = some (.lst xs) ∧ TreeV H xs es ∧ es.length ≤ 20 ∧ (∀ e ∈ es, SmE e) ∧ Odd H x ∧
  ∀ (y : V) (n' : Int) (H' : Hp), Tg b H' y → (∀ p, y = .ref p → H p = none) → 0 ≤ n' → H' b = some (.lst [.int n']) → But b H H' → Q y H'
end Mr

namespace Mr
open PySem L2
/-! boxes of the later laws: the number in a box may be below nought -/
def Abcz (l : List Nat) : Prop := ∀ c ∈ l, c = 97 ∨ c = 98 ∨ c = 99 ∨ c = 122
section
variable (K : PySem.W.Frag)
def spBoxI : Sp := fun vs H Q _ => ∃ (a : Addr) (ns : List Int) (k : Int), vs = [.ref a, .int k] ∧ SqL K H a (ns.map V.int) ∧ 0 ≤ k ∧ ∀ (b : Addr) (n : Int) (H' : Hp), H b = none → H' b = some (.lst [.int n]) → Same H H' → Q (.ref b) H'
end
def spTakeI : Sp := fun vs H Q _ => ∃ (b : Addr) (n m : Int), vs = [.ref b, .int m] ∧ H b = some (.lst [.int n]) ∧ 0 < m ∧ m < 1000000 ∧
  ∀ (d n' : Int) (H' : Hp), 0 ≤ d → d < m → H' b = some (.lst [.int n']) → But b H H' → Q (.int d) H'
def spRowI : Sp := fun vs H Q _ => ∃ (b : Addr) (n most : Int), vs = [.ref b, .int most] ∧ H b = some (.lst [.int n]) ∧ 0 ≤ most ∧ most ≤ 1000 ∧
  ∀ (m : List Nat) (n' : Int) (H' : Hp), Abcz m → (m.length : Int) ≤ most → H' b = some (.lst [.int n']) → But b H H' → Q (.str (tx m)) H'
/-- _law_mirror -/
def spMirI : Sp := fun vs H Q _ => ∃ l : List Nat, vs = [.str (tx l)] ∧ l.length ≤ sizeLine ∧ Q (.bl (!decide (l = []) && decide (l = l.reverse))) H
/-! the ends by place -/
def lstV (ls : List Nat) : HO := .lst (lensV ls)
abbrev LenV := ReV lstV
def endsAt (l : List Nat) : List (List Nat) := (List.range (l.length + 1)).map fun b => endsN (l.take b)
theorem endsAt_len (l : List Nat) : (endsAt l).length = l.length + 1 := by unfold endsAt; rw [List.length_map, List.length_range]
theorem endsAt_get {l : List Nat} {b : Nat} (h : b ≤ l.length) : (endsAt l)[b]? = some (endsN (l.take b)) := by
  unfold endsAt
  rw [List.getElem?_map, List.getElem?_range (by omega)]
  rfl
def spEBP : Sp := fun vs H Q _ => ∃ l : List Nat, vs = [.str (tx l)] ∧ rowL l = true ∧ ∀ (p : Addr) (xs : List V) (H' : Hp), H p = none → H' p = some (.lst xs) → LenV H' xs (endsAt l) → Same H H' → Q (.ref p) H'
theorem ReV.at {α : Type} {f : α → HO} {H : Hp} {xs : List V} {es : List α} (h : ReV f H xs es) {j : Nat} {e : α} (he : es[j]? = some e) : ∃ p : Addr, xs[j]? = some (.ref p) ∧ H p = some (f e) := by
  have hj : j < xs.length := by rw [h.1]; exact (List.getElem?_eq_some_iff.mp he).1
  obtain ⟨p, e1, e2⟩ := h.2 j xs[j] e (List.getElem?_eq_getElem hj) he
  exact ⟨p, by rw [List.getElem?_eq_getElem hj, e1], e2⟩
theorem ends_count (l : List Nat) : (endsN l).length ≤ l.length := by
  have := filt_le l.length (sufB l)
  rw [endsN_def]
  exact this
/-- longest_entry: of a row with its ends, and numbers -/
def spLE : Sp := fun vs H Q _ => ∃ (l : List Nat) (pl pn : Addr) (ms : List (List Nat)), vs = [.str (tx l), .ref pl, .ref pn] ∧ 1 ≤ l.length ∧ l.length ≤ 200 ∧ H pl = some (.lst (lensV (endsN l))) ∧ NumD H pn ms ∧
  ∀ (p : Addr) (H' : Hp), H p = none → H' p = some (entV (entT ms (topT l l.length))) → Same H H' → Q (.ref p) H'
theorem idxO_snoc {ms : List (List Nat)} {t x : List Nat} (h : x ≠ t) : idxO (ms ++ [t]) x = idxO ms x := by
  by_cases hx : x ∈ ms
  · exact idxO_app hx
  · rw [idxO_none hx, idxO_none (fun z => by rcases List.mem_append.mp z with z | z; exact hx z; exact h (List.mem_singleton.mp z))]
theorem inner_lt {t : List Nat} (h : t ≠ []) : inner t ≠ t := fun z => by
  have h1 := inner_len t
  rw [z] at h1
  have : 0 < t.length := List.length_pos_iff.mpr h
  omega
theorem less_lt {t : List Nat} (h : t ≠ []) (hp : t = t.reverse) : lessN t ≠ t := fun z => by
  have h0 : 0 < t.length := List.length_pos_iff.mpr h
  by_cases h1 : 1 < t.length
  · obtain ⟨k, hk, k1, k2⟩ := has_less hp h1
    have : (lessN t).length = k := by unfold lessN; rw [hk, List.length_take]; show min k _ = k; omega
    rw [z] at this
    omega
  · rw [no_less (by omega)] at z
    exact h z.symm
theorem ent_self {ms : List (List Nat)} {t : List Nat} (h : t ≠ []) (hp : t = t.reverse) : entT (ms ++ [t]) t = entT ms t := by
  unfold entT
  rw [idxO_snoc (inner_lt h), idxO_snoc (less_lt h hp)]
end Mr
namespace Mr
open PySem L2
/-- need_mirror -/
def spNM (K : PySem.W.Frag) (C : Addr) : Sp := fun vs H Q E => ∃ x : V, vs = [x] ∧
  ((∃ t : List Nat, x = .str (tx t) ∧ mirV x = true ∧ t.length ≤ 100000 ∧ ∀ H', Same H H' → Q .non H') ∨ (Thing K H x ∧ mirV x = false ∧ ∀ H', Same H H' → E (.ref C) none H'))
end Mr

namespace L2
open PySem PySem.Spec PyProof.Rows PySem.SeqAt PySem.MeetsSeq
/-! ### min of a list of ints; len of a dict -/
section
variable {X : Cx}
/-- where the ways of a statement meet again: J is what holds there -/
def tJoin (t : TS) : TS := fun D σ H => ∃ J : St → Hp → Prop, (∀ σ' H', J σ' H' → D.nx σ' H') ∧ t { D with nx := J } σ H
theorem ps_join {st : Stmt} {t : TS} (h : PS X st t) : PS X st (tJoin t) := by
  intro pins s σ H D I q
  obtain ⟨J, hJ, q⟩ := q
  refine thn (h pins s σ H { D with nx := J } I q) fun f s1 r => ?_
  cases f with
  | next =>
    obtain ⟨σ', H', I', j⟩ := r
    exact ⟨σ', H', I', hJ _ _ j⟩
  | ret v => exact r
  | brk => exact r
  | cont => exact r
end
end L2

namespace Mr
/-! the fewest stretches by place, of which the lengths are told that may end there -/
def minL : List Nat → Nat
  | [] => 0
  | x :: r => if r = [] then x else min x (minL r)
/-- the numbers that are known, of the places that one stretch leads from -/
def knownN (told : List (Option Nat)) (b : Nat) (L : List Nat) : List Nat := L.filterMap fun k => (told[b - k]?).getD none
def nextF (told : List (Option Nat)) (b : Nat) (L : List Nat) : Option Nat := if knownN told b L = [] then none else some (minL (knownN told b L) + 1)
def fewAt (L : Nat → List Nat) : Nat → List (Option Nat)
  | 0 => [some 0]
  | n + 1 => fewAt L n ++ [nextF (fewAt L n) (n + 1) (L (n + 1))]
def few (L : Nat → List Nat) (b : Nat) : Option Nat := ((fewAt L b)[b]?).getD none
/-- lengths that may end at the place b -/
def Fits (L : Nat → List Nat) : Prop := ∀ b k, k ∈ L b → 1 ≤ k ∧ k ≤ b
end Mr

namespace Mr
open PySem L2
/-! cuts: the fewest stretches by place -/
def lenOf (Ls : List (List Nat)) (b : Nat) : List Nat := (Ls[b]?).getD []
def fewV (os : List (Option Nat)) : List V := os.map optV
def spFBP : Sp := fun vs H Q _ => ∃ (p : Addr) (xs : List V) (Ls : List (List Nat)), vs = [.ref p] ∧ H p = some (.lst xs) ∧ LenV H xs Ls ∧ 1 ≤ Ls.length ∧ Ls.length ≤ 1000 ∧ Fits (lenOf Ls) ∧ (∀ b, (lenOf Ls b).length ≤ 1000) ∧
  ∀ (p' : Addr) (H' : Hp), H p' = none → H' p' = some (.lst (fewV (fewAt (lenOf Ls) (Ls.length - 1)))) → Same H H' → Q (.ref p') H'
theorem lens_ints (ks : List Nat) : lensV ks = (ks.map fun (k : Nat) => (k : Int)).map V.int := by unfold lensV; rw [List.map_map]; rfl
def fewI (l : List Nat) (b : Nat) : Nat := (few (lenOf (endsAt l)) b).getD 0
def boundsN (l : List Nat) : List Nat := (List.range (l.length + 1)).map (fewI l)
/-- where a stretch of a length may begin -/
def begN (l : List Nat) (b : Nat) : List Nat := (endsN (l.take b)).map (b - ·)
/-- _law_begins -/
def spBeg : Sp := fun vs H Q _ => ∃ (l : List Nat) (b : Nat), vs = [.str (tx l), .int (b : Int)] ∧ b ≤ l.length ∧ l.length ≤ 1000 ∧ ∀ (p : Addr) (H' : Hp), H p = none → H' p = some (.lst (lensV (begN l b))) → Same H H' → Q (.ref p) H'
/-- bounds, and _law_bounds, are spLens boundsN -/
def keepsB (ns : List Int) (b : Nat) (L : List Nat) : Bool := L.all fun k => decide (ns.getD b 0 ≤ ns.getD (b - k) 0 + 1)
def spKeeps : Sp := fun vs H Q _ => ∃ (p pl : Addr) (ns : List Int) (b : Nat) (L : List Nat), vs = [.ref p, .int (b : Int), .ref pl] ∧ H p = some (.lst (ns.map V.int)) ∧ b < ns.length ∧ H pl = some (.lst (lensV L)) ∧ L.length ≤ 1000 ∧ (∀ k ∈ L, k ≤ b) ∧
  ∀ H', Same H H' → Q (.bl (keepsB ns b L)) H'
def areB (l : List Nat) (ns : List Int) : Bool := decide (ns.length = l.length + 1) && (decide (ns.getD 0 0 = 0) && (List.range (l.length + 1)).all fun b => keepsB ns b (endsN (l.take b)))
def spAreB : Sp := fun vs H Q _ => ∃ (p : Addr) (ns : List Int) (l : List Nat), vs = [.ref p, .str (tx l)] ∧ rowL l = true ∧ H p = some (.lst (ns.map V.int)) ∧ ns.length ≤ 1000 ∧ ∀ H', Same H H' → Q (.bl (areB l ns)) H'
end Mr

namespace Mr
open PySem L2
/-! how many unlike mirrors -/
def kindsN (l : List Nat) : Nat := (mirs l l.length).length
def spKinds : Sp := fun vs H Q _ => ∃ l : List Nat, vs = [.str (tx l)] ∧ rowL l = true ∧ ∀ H', Same H H' → Q (.int (kindsN l : Nat)) H'
def spFull : Sp := fun vs H Q _ => ∃ l : List Nat, vs = [.str (tx l)] ∧ rowL l = true ∧ ∀ H', Same H H' → Q (.bl (decide (kindsN l = l.length))) H'
/-- a dict of which the keys are the texts of S -/
def SetL (kvs : List (Key × V)) (S : List Nat → Prop) (B : Nat) : Prop := ∃ ts : List (List Nat), ts.Nodup ∧ ts.length ≤ B ∧ kvs.length = ts.length ∧ (∀ x, (valV kvs (Sum.inr (tx x))).isSome = decide (x ∈ ts)) ∧ ∀ t, t ∈ ts ↔ S t
/-- the mirror stretches that end up to a place -/
def MirTo (l : List Nat) (i j : Nat) (t : List Nat) : Prop := ∃ f c, f < c ∧ c ≤ l.length ∧ (c ≤ i ∨ (c = i + 1 ∧ f < j)) ∧ t = sub l f c ∧ PalI l f c
end Mr

namespace Mr
open PySem L2
/-! cuts told: lists of pairs -/
def pairV (c : Nat × Nat) : HO := .tup [.int (c.1 : Int), .int (c.2 : Int)]
abbrev PairV := ReV pairV
/-- a cut from a place on -/
def CutFrom (l : List Nat) : Nat → List (Nat × Nat) → Prop
  | a, [] => a = l.length
  | a, c :: r => c.1 = a ∧ a < c.2 ∧ c.2 ≤ l.length ∧ PalI l a c.2 ∧ CutFrom l c.2 r
def firstsN (l : List Nat) (b : Nat) : List Nat := (begN l b).filter fun f => decide (fewI l f < fewI l b)
def nextB (l : List Nat) (b : Nat) : Nat := ((firstsN l b)[0]?).getD 0
def cutAcc (l : List Nat) : Nat → Nat → List (Nat × Nat) → List (Nat × Nat)
  | 0, _, acc => acc
  | n + 1, b, acc => if b = 0 then acc else cutAcc l n (nextB l b) ((nextB l b, b) :: acc)
def cutN (l : List Nat) : List (Nat × Nat) := cutAcc l l.length l.length []
def spFewest : Sp := fun vs H Q _ => ∃ l : List Nat, vs = [.str (tx l)] ∧ rowL l = true ∧ ∀ H', Same H H' → Q (.int (fewI l l.length : Nat)) H'
def spCut : Sp := fun vs H Q _ => ∃ l : List Nat, vs = [.str (tx l)] ∧ rowL l = true ∧ ∀ (p : Addr) (xs : List V) (H' : Hp), H p = none → H' p = some (.lst xs) → PairV H' xs (cutN l) → Same H H' → Q (.ref p) H'
/-- _law_is_cut of a cut -/
def spLIC : Sp := fun vs H Q _ => ∃ (p : Addr) (xs : List V) (cs : List (Nat × Nat)) (l : List Nat), vs = [.ref p, .str (tx l)] ∧ H p = some (.lst xs) ∧ PairV H xs cs ∧ cs.length ≤ 1000 ∧ l.length ≤ 1000 ∧ CutFrom l 0 cs ∧ ∀ H', Same H H' → Q (.bl true) H'
end Mr

namespace Mr
open PySem L2
/-! where a text stands -/
def occF (l t : List Nat) : List Nat := (List.range l.length).filter fun f => decide ((l.drop f).take t.length = t)
def occN (l t : List Nat) : List (Nat × Nat) := (occF l t).map fun f => (f, f + t.length)
theorem cut_any {l : List Nat} {a b : Nat} (ha : a ≤ l.length) (hab : a ≤ b) : cutL l (some (a : Int)) (some (b : Int)) = (l.drop a).take (b - a) := by
  unfold cutL
  rw [HT.sIx_nat, HT.sIx_nat, Nat.min_eq_left ha]
  by_cases hb : b ≤ l.length
  · rw [Nat.min_eq_left hb]
  · rw [Nat.min_eq_right (by omega), List.take_of_length_le (by rw [List.length_drop]; omega), List.take_of_length_le (by rw [List.length_drop]; omega)]
def occTo (l t : List Nat) (i : Nat) : List (Nat × Nat) := ((List.range i).filter fun f => decide ((l.drop f).take t.length = t)).map fun f => (f, f + t.length)
theorem occTo_succ (l t : List Nat) (i : Nat) : occTo l t (i + 1) = occTo l t i ++ (if (l.drop i).take t.length = t then [(i, i + t.length)] else []) := by
  unfold occTo
  rw [List.range_succ, List.filter_append, List.map_append]
  congr 1
  rw [List.filter_cons]
  by_cases h : (l.drop i).take t.length = t
  · rw [if_pos h, if_pos (decide_eq_true h)]; rfl
  · rw [if_neg h, if_neg (by rw [decide_eq_false h]; decide)]; rfl
def spStrX (K : PySem.W.Frag) (C : Addr) : Sp := fun vs H Q E => ∃ (l : List Nat) (x : V), vs = [.str (tx l), x] ∧ rowL l = true ∧
  ((∃ t : List Nat, x = .str (tx t) ∧ mirV x = true ∧ t.length ≤ 1000 ∧ ∀ (p : Addr) (xs : List V) (H' : Hp), H p = none → H' p = some (.lst xs) → PairV H' xs (occN l t) → Same H H' → Q (.ref p) H') ∨ (Thing K H x ∧ mirV x = false ∧ ∀ H', Same H H' → E (.ref C) none H'))
def spTold32 (K : PySem.W.Frag) : Sp := fun vs H Q _ => ∃ (l : List Nat) (x : V), vs = [.str (tx l), x] ∧ rowL l = true ∧
  ((∃ t : List Nat, x = .str (tx t) ∧ mirV x = true ∧ t.length ≤ 1000 ∧ ∀ (p : Addr) (xs : List V) (H' : Hp), H p = none → H' p = some (.lst xs) → PairV H' xs (occN l t) → Same H H' → Q (.ref p) H') ∨ (Thing K H x ∧ mirV x = false ∧ ∀ H', Same H H' → Q (.str "mirror") H'))
def spStrL : Sp := fun vs H Q _ => ∃ (l t : List Nat), vs = [.str (tx l), .str (tx t)] ∧ l.length ≤ 1000 ∧ t.length ≤ 1000 ∧ ∀ (p : Addr) (xs : List V) (H' : Hp), H p = none → H' p = some (.lst xs) → PairV H' xs (occN l t) → Same H H' → Q (.ref p) H'
def pairD (c : Nat × Nat) : PyData := .tuple [.int (c.1 : Int), .int (c.2 : Int)]
end Mr

namespace L2
open PySem PySem.Spec PyProof.Rows
/-! ### methods of an own class, and making an instance -/
structure AtM (K : PySem.W.Frag) (C : Addr) (m qual : Str) (st : Stmt) (ps : List Str) : Prop where
  ex : ∃ (f : Addr) (fd : FuncData), Fun K m qual st f fd ∧ Meth K C m f ∧ Binds K fd ps []
theorem AtM.mk' {K : PySem.W.Frag} {C f : Addr} {m qual : Str} {st : Stmt} {ps : List Str} {oc : Value} {od an : Option Addr} {osl : Array (Option Value)} {kV doc pm cdv ct : Value}
    (a : PySem.W.findIn K (.ref C) m = some (some (.ref f))) (i : PySem.W.isFn K (.ref f) = true)
    (l : K.lookup f = some ⟨oc, od, .func (PySem.W.fnOf m qual (defArgs st) (defBody st) (defScope st) .none kV doc pm an cdv ct), osl⟩)
    (c : PySem.W.codeIn K cdv qual = true) (k : PySem.W.keepIn K (.ref f) = true)
    (b : ∀ (kV doc pm : Value) (an : Option Addr) (cdv ct : Value) (us : List Value), us.length = ps.length → bindArgs (PySem.W.fnOf m qual (defArgs st) (defBody st) (defScope st) .none kV doc pm an cdv ct) ⟨us, []⟩ = pure (ps.zip us)) : AtM K C m qual st ps :=
  ⟨f, _, fun_mk l c k, ⟨a, i, k⟩, (fun_mk l c k).binds b⟩
section
variable {P : Program} {w : World} {K : PySem.W.Frag} {mg : Str → Option Value} {base : Heap}
structure Mt (P : Program) (w : World) (K : PySem.W.Frag) (mg : Str → Option Value) (base : Heap) (k : Nat) (C : Addr) (m : Str) (ps : List Str) (sp : Sp) : Prop where
  ex : ∃ (f : Addr) (fd : FuncData), FnOk P w K mg base CX0 k f fd ps sp ∧ Meth K C m f ∧ Binds K fd ps []
structure MtX (P : Program) (w : World) (K : PySem.W.Frag) (mg : Str → Option Value) (base : Heap) (k : Nat) (C : Addr) (m : Str) (ps : List Str) (sp : Sp) : Prop where
  ex : ∃ (f : Addr) (fd : FuncData), FnOk P w K mg base (CX1 P w) k f fd ps sp ∧ Meth K C m f ∧ Binds K fd ps []
theorem AtM.mt {k : Nat} {C : Addr} {m qual : Str} {st : Stmt} {ps : List Str} {sp : Sp} (a : AtM K C m qual st ps) (h : ∀ f fd, Fun K m qual st f fd → FnOk P w K mg base CX0 k f fd ps sp) : Mt P w K mg base k C m ps sp :=
  let ⟨f, fd, F, M, b⟩ := a.ex
  ⟨f, fd, h f fd F, M, b⟩
/-- a class that may be made without arguments -/
structure MkC (P : Program) (w : World) (K : PySem.W.Frag) (mg : Str → Option Value) (base : Heap) (k : Nat) (C : Addr) (sp : Sp) : Prop where
  ex : ∃ (f : Addr) (fd : FuncData), FnOk P w K mg base CX0 k f fd ["self"] sp ∧ Mk K C f ∧ Binds K fd ["self"] []
theorem AtM.mkc {k : Nat} {C : Addr} {qual : Str} {st : Stmt} {sp : Sp} (a : AtM K C "__init__" qual st ["self"]) (mk : PySem.W.makesIn K C = true) (kc : PySem.W.keepIn K (.ref C) = true) (h : ∀ f fd, Fun K "__init__" qual st f fd → FnOk P w K mg base CX0 k f fd ["self"] sp) : MkC P w K mg base k C sp :=
  let ⟨f, fd, F, M, b⟩ := a.ex
  ⟨f, fd, h f fd F, ⟨mk, M.at_, M.fn, kc⟩, b⟩
end
section
variable {X : Cx} {k j : Nat} {C : Addr} {m x : Str} {ps : List Str} {sp : Sp} {e o : Expr} {es : List Expr} {p apos pos : Pos} {ta : TE} {t : TA} {pl : Sem Bool}
theorem pe_mt (d : Mt X.prog X.w X.K X.mg X.base j C m ps sp) (c : Cls X.K C) (hr : Room k X.A) (he : PE X o ta) (ha : PA X (e :: es) t) (hjk : j ≤ k := by decide)
    (hst : starEach (e :: es) X.env = (false, eval e X.env) :: starEach es X.env := by rfl) (hpl : (backTo pos (starEach es X.env)).any (·.1) = false := by rfl)
    (ht : eval (.Call (.Attribute o m apos) (e :: es) [] pos) X.env = (do
      let ov ← eval o X.env
      standAt apos.atName
      let (f, first) ← holding [ov] (getMethod ov m pl)
      callWith pos f first (backTo pos (starEach (e :: es) X.env)) (backToKw pos (keywordEach [] X.env))) := by rfl) : PE X (.Call (.Attribute o m apos) (e :: es) [] pos) (tMeth C m sp [] E0 ta t) := by
  obtain ⟨f, fd, F, M, b⟩ := d.ex
  exact pe_meth (pl := pl) he c M (F.mono hjk) hr b .nil pass0 ha hst hpl ht
theorem pe_mt0 (d : Mt X.prog X.w X.K X.mg X.base j C m ps sp) (c : Cls X.K C) (hr : Room k X.A) (he : PE X o ta) (hjk : j ≤ k := by decide)
    (ht : eval (.Call (.Attribute o m apos) [] [] pos) X.env = (do
      let ov ← eval o X.env
      standAt apos.atName
      let (f, first) ← holding [ov] (getMethod ov m pl)
      callWith pos f first (backTo pos (starEach [] X.env)) (backToKw pos (keywordEach [] X.env))) := by rfl) : PE X (.Call (.Attribute o m apos) [] [] pos) (tMeth C m sp [] E0 ta tNil) := by
  obtain ⟨f, fd, F, M, b⟩ := d.ex
  exact pe_meth0 (pl := pl) he c M (F.mono hjk) hr b .nil pass0 ht
theorem pe_mk0 (d : MkC X.prog X.w X.K X.mg X.base j C sp) (hr : Room (k + 1) X.A) (hg : Gl X x) (hm : X.mg x = some (.ref C)) (hjk : j ≤ k := by decide) (hdb : (x == ("__debug__" : Str)) = false := by decide) : PE X (.Call (.Name x p) [] [] pos) (tMake C sp [] E0 tNil) := by
  obtain ⟨f, fd, F, M, b⟩ := d.ex
  exact pe_make0 M (F.mono hjk) hr hg hm b .nil pass0 hdb
end
end L2
namespace L2
open PySem PySem.Spec PyProof.Rows
def tMethX (C : Addr) (m : Str) (sp : Sp) (Ex : XS) (ta : TE) (t : TA) : TE := fun σ H Q => ta σ H fun x H1 => ∃ a dx fs, x = .ref a ∧ H1 a = some (.ins C dx fs) ∧ fs.lookup m = none ∧ t σ H1 fun vs H2 => sp (x :: vs) H2 Q (Ex σ)
section
variable {X : Cx} {k j : Nat} {C : Addr} {m : Str} {ps : List Str} {sp : Sp} {o : Expr} {apos pos : Pos} {ta : TE} {pl : Sem Bool} {Ex : XS}
end
end L2

namespace Mr
open PySem L2
/-! how many unlike mirrors: a sign more, rows turned about, beginnings and ends -/
end Mr

namespace Mr
open PySem L2
/-! growers -/
theorem lk_same {f : Str} {v : V} {r : List (Str × V)} : List.lookup f ((f, v) :: r) = some v := by simp [List.lookup]
theorem lk_ne {f g : Str} {v : V} {r : List (Str × V)} (h : (f == g) = false) : List.lookup f ((g, v) :: r) = List.lookup f r := by simp [List.lookup, h]
structure GrA where
  g : Addr
  dx : Addr
  pe : Addr
  pb : Addr
  pt : Addr
  pn : Addr
def grF (A : GrA) (l : List Nat) : List (Str × V) := [("signs", .str (tx l)), ("endings", .ref A.pe), ("brought", .ref A.pb), ("entries", .ref A.pt), ("numbers", .ref A.pn)]
section
variable {A : GrA} {l : List Nat}
theorem grF_signs : (grF A l).lookup ("signs" : Str) = some (.str (tx l)) := lk_same
theorem grF_endings : (grF A l).lookup ("endings" : Str) = some (.ref A.pe) := (lk_ne (by decide +kernel)).trans lk_same
theorem grF_brought : (grF A l).lookup ("brought" : Str) = some (.ref A.pb) := (lk_ne (by decide +kernel)).trans ((lk_ne (by decide +kernel)).trans lk_same)
theorem grF_entries : (grF A l).lookup ("entries" : Str) = some (.ref A.pt) := (lk_ne (by decide +kernel)).trans ((lk_ne (by decide +kernel)).trans ((lk_ne (by decide +kernel)).trans lk_same))
theorem grF_numbers : (grF A l).lookup ("numbers" : Str) = some (.ref A.pn) := (lk_ne (by decide +kernel)).trans ((lk_ne (by decide +kernel)).trans ((lk_ne (by decide +kernel)).trans ((lk_ne (by decide +kernel)).trans lk_same)))
theorem grF_no {m : Str} (h : (m == ("signs" : Str)) = false ∧ (m == ("endings" : Str)) = false ∧ (m == ("brought" : Str)) = false ∧ (m == ("entries" : Str)) = false ∧ (m == ("numbers" : Str)) = false) : (grF A l).lookup m = none :=
  (lk_ne h.1).trans ((lk_ne h.2.1).trans ((lk_ne h.2.2.1).trans ((lk_ne h.2.2.2.1).trans ((lk_ne h.2.2.2.2).trans rfl))))
theorem grF_put (l' : List Nat) : putF ("signs" : Str) (.str (tx l')) (grF A l) = grF A l' := if_pos rfl
theorem putF_ne {f g : Str} {v x : V} {r : List (Str × V)} (h : ¬ g = f) : putF f v ((g, x) :: r) = (g, x) :: putF f v r := if_neg h
theorem grF_init : putF ("numbers" : Str) (.ref A.pn) (putF ("entries" : Str) (.ref A.pt) (putF ("brought" : Str) (.ref A.pb) (putF ("endings" : Str) (.ref A.pe) (putF ("signs" : Str) (.str (tx l)) [])))) = grF A l := by
  have e1 : putF ("signs" : Str) (.str (tx l)) [] = [(("signs" : Str), V.str (tx l))] := rfl
  rw [e1]
  repeat rw [putF_ne (by decide +kernel)]
  rfl
theorem putF_lt {f : Str} {v : V} : ∀ {fs : List (Str × V)} {n : Nat}, fs.length < n → (putF f v fs).length < n + 1
  | [], n, h => by show 1 < n + 1; simp at h; omega
  | (g, x) :: r, n, h => by
    unfold putF
    split
    · simp at h ⊢; omega
    · obtain ⟨k, rfl⟩ : ∃ k, n = k + 1 := ⟨n - 1, by simp at h; omega⟩
      have := putF_lt (f := f) (v := v) (fs := r) (n := k) (by simp at h; omega)
      simp; omega
theorem grF_len : (grF A l).length = 5 := rfl
end
/-- the ends that the row had with each of its signs, and whether each brought a mirror -/
def grEnds (l : List Nat) : List (List Nat) := (List.range l.length).map fun i => endsN (l.take (i + 1))
def newsN (l : List Nat) : List Bool := (List.range l.length).map fun i => decide (topT l (i + 1) ∉ mirs l i)
theorem grEnds_len (l : List Nat) : (grEnds l).length = l.length := by unfold grEnds; rw [List.length_map, List.length_range]
theorem newsN_len (l : List Nat) : (newsN l).length = l.length := by unfold newsN; rw [List.length_map, List.length_range]
theorem grEnds_snoc (l : List Nat) (c : Nat) : grEnds (l ++ [c]) = grEnds l ++ [endsN (l ++ [c])] := by
  unfold grEnds
  rw [List.length_append, show l.length + ([c] : List Nat).length = l.length + 1 from rfl, List.range_succ, List.map_append]
  congr 1
  · refine List.map_congr_left fun i hi => ?_
    have := List.mem_range.mp hi
    rw [List.take_append_of_le_length (by omega)]
  · show [endsN ((l ++ [c]).take (l.length + 1))] = _
    rw [List.take_of_length_le (by rw [List.length_append]; exact Nat.le_refl _)]
theorem topT_snoc (l : List Nat) (c : Nat) {i : Nat} (hi : i ≤ l.length) : topT (l ++ [c]) i = topT l i := by
  have := top_take (l := l ++ [c]) (b := l.length) hi
  rw [List.take_left' rfl] at this
  exact this.symm
theorem mirs_snoc' (l : List Nat) (c : Nat) {i : Nat} (hi : i ≤ l.length) : mirs (l ++ [c]) i = mirs l i := by
  have := mirs_take (l := l ++ [c]) (b := l.length) (c := i) hi
  rw [List.take_left' rfl] at this
  exact this.symm
def topL (l : List Nat) : List Nat := topT l l.length
theorem newsN_snoc (l : List Nat) (c : Nat) : newsN (l ++ [c]) = newsN l ++ [decide (topL (l ++ [c]) ∉ mirs l l.length)] := by
  unfold newsN topL
  rw [List.length_append, show l.length + ([c] : List Nat).length = l.length + 1 from rfl, List.range_succ, List.map_append]
  congr 1
  · refine List.map_congr_left fun i hi => ?_
    have := List.mem_range.mp hi
    rw [topT_snoc l c (by omega), mirs_snoc' l c (by omega)]
  · show [decide (topT (l ++ [c]) (l.length + 1) ∉ mirs (l ++ [c]) l.length)] = _
    rw [mirs_snoc' l c (Nat.le_refl _)]
theorem mirs_all_snoc (l : List Nat) (c : Nat) : mirs (l ++ [c]) (l ++ [c]).length = if topL (l ++ [c]) ∈ mirs l l.length then mirs l l.length else mirs l l.length ++ [topL (l ++ [c])] := by
  have e : (l ++ [c]).length = l.length + 1 := by rw [List.length_append]; rfl
  unfold topL
  rw [e]
  show (if _ then _ else _) = _
  rw [mirs_snoc' l c (Nat.le_refl _)]
theorem topL_ok {l : List Nat} (h : 1 ≤ l.length) : topL l ≠ [] ∧ topL l = (topL l).reverse := (top_ends h (Nat.le_refl _)).len (Nat.le_refl _)
theorem treeN_snoc (l : List Nat) (c : Nat) : treeN (l ++ [c]) = if topL (l ++ [c]) ∈ mirs l l.length then treeN l else treeN l ++ [entT (mirs l l.length) (topL (l ++ [c]))] := by
  have h1 : 1 ≤ (l ++ [c]).length := by rw [List.length_append]; exact Nat.le_add_left _ _
  obtain ⟨t1, t2⟩ := topL_ok h1
  unfold treeN
  rw [mirs_all_snoc]
  by_cases hm : topL (l ++ [c]) ∈ mirs l l.length
  · rw [if_pos hm, if_pos hm]
  · rw [if_neg hm, if_neg hm, List.map_append, map_ent (Nat.le_refl _) t1]
    congr 1
    show [entT _ _] = _
    rw [ent_self t1 t2]
theorem topL_in (l : List Nat) (c : Nat) : topL (l ++ [c]) ∈ mirs (l ++ [c]) (l ++ [c]).length := by
  rw [mirs_all_snoc]
  split
  · assumption
  · simp
/-- a grower at A with the row l; what it has made itself lies nowhere in B -/
structure GrV (B : Hp) (C : Addr) (H : Hp) (A : GrA) (l : List Nat) : Prop where
  dom : ∀ c, H c = none → B c = none
  row : rowL l = true
  ins : H A.g = some (.ins C A.dx (grF A l))
  ends : ∃ xs, H A.pe = some (.lst xs) ∧ LenV H xs (grEnds l) ∧ ∀ p, V.ref p ∈ xs → p ≠ A.pe ∧ p ≠ A.pb ∧ p ≠ A.pt ∧ B p = none
  news : H A.pb = some (.lst ((newsN l).map V.bl))
  tree : ∃ ts, H A.pt = some (.lst ts) ∧ TreeV H ts (treeN l)
  nums : NumD H A.pn (mirs l l.length)
  d1 : A.pe ≠ A.pb
  d2 : A.pe ≠ A.pt
  d3 : A.pb ≠ A.pt
theorem NumD.same {H H' : Hp} {p : Addr} {ms : List (List Nat)} (s : Same H H') (h : NumD H p ms) : NumD H' p ms := let ⟨kvs, a, b, c⟩ := h; ⟨kvs, s _ _ a, b, c⟩
theorem GrV.same {B : Hp} {C : Addr} {H H' : Hp} {A : GrA} {l : List Nat} (s : Same H H') (v : GrV B C H A l) : GrV B C H' A l :=
  ⟨fun c e => v.dom c (s.free e), v.row, s _ _ v.ins, let ⟨xs, a, b, c⟩ := v.ends; ⟨xs, s _ _ a, b.mono fun p e h => s _ _ h, c⟩, s _ _ v.news, let ⟨ts, a, b⟩ := v.tree; ⟨ts, s _ _ a, b.mono fun p e h => s _ _ h⟩, v.nums.same s, v.d1, v.d2, v.d3⟩
/-- all but the grower's own things stays -/
def ButG (A : GrA) (H H' : Hp) : Prop := ∀ c o, H c = some o → c ≠ A.g → c ≠ A.pe → c ≠ A.pb → c ≠ A.pt → c ≠ A.pn → H' c = some o
theorem ButG.trans {A : GrA} {H H1 H2 : Hp} (x : ButG A H H1) (y : ButG A H1 H2) : ButG A H H2 := fun c o e a b d f g => y c o (x c o e a b d f g) a b d f g
theorem ButG.of {A : GrA} {H H1 : Hp} (x : Same H H1) : ButG A H H1 := fun c o e _ _ _ _ _ => x c o e
/-- the things of a grower that was made behind H -/
def GrFree (A : GrA) (H : Hp) : Prop := H A.g = none ∧ H A.pe = none ∧ H A.pb = none ∧ H A.pt = none ∧ H A.pn = none
theorem ButG.same {A : GrA} {H H1 H2 : Hp} (f : GrFree A H) (s : Same H H1) (b : ButG A H1 H2) : Same H H2 := fun c o e => b c o (s c o e) (ne_of_none e f.1) (ne_of_none e f.2.1) (ne_of_none e f.2.2.1) (ne_of_none e f.2.2.2.1) (ne_of_none e f.2.2.2.2)
structure ClG (K : PySem.W.Frag) (mg : Str → Option Value) (C : Addr) : Prop where
  cl : Cls K C
  n1 : NoAttr K C "signs"
  n2 : NoAttr K C "endings"
  n3 : NoAttr K C "brought"
  n4 : NoAttr K C "entries"
  n5 : NoAttr K C "numbers"
  mgC : mg "Grower" = some (.ref C)
def spGInit (C : Addr) : Sp := fun vs H Q _ => ∃ (x dx : Addr) (B : Hp), vs = [.ref x] ∧ H x = some (.ins C dx []) ∧ (∀ c, H c = none → B c = none) ∧ ∀ (A : GrA) (H' : Hp), A.g = x → GrV B C H' A [] → H A.pe = none → H A.pb = none → H A.pt = none → H A.pn = none → (∀ c o, H c = some o → c ≠ x → H' c = some o) → Q .non H'
/-- what its ends want of a grower -/
structure GrE (C : Addr) (H : Hp) (A : GrA) (l : List Nat) : Prop where
  len : l.length ≤ 200
  ins : H A.g = some (.ins C A.dx (grF A l))
  ends : ∃ xs, H A.pe = some (.lst xs) ∧ LenV H xs (grEnds l)
def spGEnds (C : Addr) : Sp := fun vs H Q _ => ∃ (A : GrA) (l : List Nat), vs = [.ref A.g] ∧ GrE C H A l ∧ ∀ (p : Addr) (H' : Hp), H p = none → H' p = some (.lst (lensV (endsN l))) → Same H H' → Q (.ref p) H'
def spEW : Sp := fun vs H Q _ => ∃ (l : List Nat) (p : Addr) (c : Nat), vs = [.str (tx l), .ref p, .str (tx [c])] ∧ l.length ≤ 200 ∧ H p = some (.lst (lensV (endsN l))) ∧ ∀ (p' : Addr) (H' : Hp), H p' = none → H' p' = some (.lst (lensV (endsN (l ++ [c])))) → Same H H' → Q (.ref p') H'
def spAdd (C : Addr) : Sp := fun vs H Q _ => ∃ (B : Hp) (A : GrA) (l : List Nat) (c : Nat), vs = [.ref A.g, .str (tx [c])] ∧ GrV B C H A l ∧ 97 ≤ c ∧ c ≤ 122 ∧ l.length < 200 ∧
  ∀ (p : Addr) (H' : Hp), H p = none → H' p = some (.tup [.int (((mirs (l ++ [c]) (l ++ [c]).length).idxOf (topL (l ++ [c])) : Nat) : Int), .bl (decide (topL (l ++ [c]) ∉ mirs l l.length))]) → GrV B C H' A (l ++ [c]) → ButG A H H' → Q (.ref p) H'
theorem due_filter (l : List Nat) (c : Nat) : ((endsN l ++ [0]).filter (moreB l c)).map (· + 2) ++ [1] = endsN (l ++ [c]) := by
  rw [ends_more]
  unfold dueN
  rw [List.filter_append, List.map_append]
  congr 2
  rw [List.filter_cons]
  split <;> rfl
end Mr

namespace Mr
open PySem L2
/-! how deep, and the tops -/
def topsN (l : List Nat) : List Nat := (List.range l.length).map fun i => (mirs l l.length).idxOf (topT l (i + 1))
def deepsN (l : List Nat) : List Nat := (List.range l.length).map fun i => (endsN (l.take (i + 1))).length
theorem topsN_len (l : List Nat) : (topsN l).length = l.length := by unfold topsN; rw [List.length_map, List.length_range]
theorem deepsN_len (l : List Nat) : (deepsN l).length = l.length := by unfold deepsN; rw [List.length_map, List.length_range]
theorem idx_pre {l : List Nat} {b : Nat} (hb : b ≤ l.length) {x : List Nat} (hx : x ∈ mirs l b) : (mirs l b).idxOf x = (mirs l l.length).idxOf x := by
  have h := idxO_pre (l := l) hb hx
  have hx2 : x ∈ mirs l l.length := by
    obtain ⟨r, e⟩ := mirs_pre l hb
    rw [e]; exact List.mem_append_left _ hx
  rw [idxO_in hx, idxO_in hx2] at h
  exact (Option.some.inj h).symm
theorem top_in {l : List Nat} {i : Nat} (h1 : 1 ≤ i) (hi : i ≤ l.length) : topT l i ∈ mirs l i := (mem_mirs hi _).mpr ⟨i, h1, Nat.le_refl _, top_ends h1 hi⟩
theorem take_succ_at {l : List Nat} {i c : Nat} (h : l[i]? = some c) : l.take i ++ [c] = l.take (i + 1) := by rw [List.take_succ, h]; rfl
theorem topL_take {l : List Nat} {i : Nat} (hi : i ≤ l.length) : topL (l.take i) = topT l i := by
  unfold topL
  rw [List.length_take, Nat.min_eq_left hi, top_take (Nat.le_refl _)]
theorem mirs_take_all {l : List Nat} {i : Nat} (hi : i ≤ l.length) : mirs (l.take i) (l.take i).length = mirs l i := by
  rw [List.length_take, Nat.min_eq_left hi, mirs_take (Nat.le_refl _)]
theorem topsN_at {l : List Nat} {i : Nat} (hi : i < l.length) : (topsN l)[i]? = some ((mirs l (i + 1)).idxOf (topT l (i + 1))) := by
  unfold topsN
  rw [List.getElem?_map, List.getElem?_range hi, idx_pre (by omega) (top_in (by omega) (by omega))]
  rfl
theorem deepsN_at {l : List Nat} {i : Nat} (hi : i < l.length) : (deepsN l)[i]? = some (endsN (l.take (i + 1))).length := by
  unfold deepsN
  rw [List.getElem?_map, List.getElem?_range hi]; rfl
theorem topsN_lt {l : List Nat} {k : Nat} (hk : k ∈ topsN l) : k < (mirs l l.length).length := by
  obtain ⟨i, hi, rfl⟩ := List.mem_map.mp hk
  have hi' := List.mem_range.mp hi
  apply List.idxOf_lt_length_of_mem
  obtain ⟨r, e⟩ := mirs_pre l (show i + 1 ≤ l.length by omega)
  rw [e]; exact List.mem_append_left _ (top_in (by omega) (by omega))
end Mr

namespace Mr
open PySem L2
/-! what growers tell -/
def spGRow (C : Addr) : Sp := fun vs H Q _ => ∃ (B : Hp) (A : GrA) (l : List Nat), vs = [.ref A.g] ∧ GrV B C H A l ∧ Q (.str (tx l)) H
def spGMany (C : Addr) : Sp := fun vs H Q _ => ∃ (B : Hp) (A : GrA) (l : List Nat), vs = [.ref A.g] ∧ GrV B C H A l ∧ Q (.int ((mirs l l.length).length : Nat)) H
def spGTree (C : Addr) : Sp := fun vs H Q _ => ∃ (B : Hp) (A : GrA) (l : List Nat), vs = [.ref A.g] ∧ GrV B C H A l ∧ ∀ (p : Addr) (xs : List V) (H' : Hp), H p = none → H' p = some (.lst xs) → TreeV H' xs (treeN l) → Same H H' → Q (.ref p) H'
def deepN (l : List Nat) : Nat := (deepsN l).sum
def spGMM (C : Addr) : Sp := fun vs H Q _ => ∃ (B : Hp) (A : GrA) (l : List Nat), vs = [.ref A.g] ∧ GrV B C H A l ∧ ∀ H', Same H H' → Q (.int (deepN l : Nat)) H'
def spAsked (C : Addr) : Sp := fun vs H Q _ => ∃ (B : Hp) (A : GrA) (l : List Nat) (kind : Int), vs = [.ref A.g, .str (tx l), .int kind] ∧ GrV B C H A l ∧ ∀ H', Same H H' → Q (.bl true) H'
end Mr
namespace Mr
open PySem L2
end Mr
namespace Mr
open PySem L2
def spTakeX (C c6 : Addr) : Sp := fun vs H Q E => ∃ (B : Hp) (A : GrA), vs = [.ref A.g] ∧
  ((∃ (l : List Nat) (c : Nat), GrV B C H A (l ++ [c]) ∧ ∀ H', GrV B C H' A l → ButG A H H' → Q (.str (tx [c])) H') ∨ (GrV B C H A [] ∧ ∀ H', Same H H' → E (.ref c6) none H'))
def spTakeG (C : Addr) : Sp := fun vs H Q _ => ∃ (B : Hp) (A : GrA) (l : List Nat) (c : Nat), vs = [.ref A.g] ∧ GrV B C H A (l ++ [c]) ∧ ∀ H', GrV B C H' A l → ButG A H H' → Q (.str (tx [c])) H'
end Mr

namespace L2
open PySem PySem.Spec PyProof.Rows
structure FnOkG (P : Program) (w : World) (K : PySem.W.Frag) (mg : Str → Option Value) (base : Heap) (CX : CXT) (k : Nat) (f : Addr) (fd : FuncData) (ps : List Str) (sp : Sp) : Prop where
  len : ∀ vs H Q E, sp vs H Q E → vs.length = ps.length
  run : ∀ (A : Around) (outer : List Env) (s : Shared) (H : Hp) (args : Args) (us : List Value) (vs : List V) (Q : VK) (E : XK), Room k A → A.guards = some [] → Env0 P w K mg base A outer s H → BindsTo s fd args (ps.zip us) → Vals vs us → sp vs H Q E →
    codeAny (model P w) A (.call (.ref f) args) (CR CX outer P w H s Q E) s
section
variable {P : Program} {w : World} {K : PySem.W.Frag} {mg : Str → Option Value} {base : Heap}
end
end L2

namespace L2
open PySem PySem.Spec PyProof.Rows
/-! ### defs that are called where no repr is under way -/
structure DfG (P : Program) (w : World) (K : PySem.W.Frag) (mg : Str → Option Value) (base : Heap) (k : Nat) (x : Str) (ps : List Str) (sp : Sp) : Prop where
  ex : ∃ (f : Addr) (fd : FuncData), FnOkG P w K mg base CX0 k f fd ps sp ∧ mg x = some (.ref f) ∧ PySem.W.keepIn K (.ref f) = true ∧ Binds K fd ps []
section
variable {X : Cx} {k j : Nat} {x : Str} {ps : List Str} {sp : Sp} {e : Expr} {es : List Expr} {p pos : Pos} {t : TA}
end
end L2

namespace Mr
open PySem L2
/-! two growers -/
/-- the things of one are none of the other's -/
def Apart (A A' : GrA) : Prop := ∀ c, (c = A.g ∨ c = A.pe ∨ c = A.pb ∨ c = A.pt ∨ c = A.pn) → c ≠ A'.g ∧ c ≠ A'.pe ∧ c ≠ A'.pb ∧ c ≠ A'.pt ∧ c ≠ A'.pn
def spRight25 (C : Addr) : Sp := fun vs H Q _ => ∃ (B : Hp) (A : GrA) (l : List Nat), vs = [.ref A.g, .str (tx l)] ∧ GrV B C H A l ∧ ∀ H', Same H H' → Q (.bl true) H'
end Mr
namespace Mr
open PySem L2
abbrev Not5 (c : Addr) (A : GrA) : Prop := c ≠ A.g ∧ c ≠ A.pe ∧ c ≠ A.pb ∧ c ≠ A.pt ∧ c ≠ A.pn
structure TwoS (B : Hp) (A1 A2 : GrA) (pg pr b : Addr) : Prop where
  ap : Apart A1 A2
  b1 : B A1.pe ≠ none ∧ B A1.pb ≠ none ∧ B A1.pt ≠ none
  b2 : B A2.pe ≠ none ∧ B A2.pb ≠ none ∧ B A2.pt ≠ none
  nb1 : Not5 b A1
  nb2 : Not5 b A2
  np1 : Not5 pr A1
  np2 : Not5 pr A2
  ng1 : Not5 pg A1
  ng2 : Not5 pg A2
  Bb : B b ≠ none
  Bp : B pr ≠ none
  bp : b ≠ pr
  bg : b ≠ pg
  pp : pg ≠ pr
structure Two (B : Hp) (C : Addr) (H : Hp) (A1 A2 : GrA) (pg pr b : Addr) (l1 l2 : List Nat) (n : Int) : Prop where
  g1 : GrV B C H A1 l1
  g2 : GrV B C H A2 l2
  hg : H pg = some (.lst [.ref A1.g, .ref A2.g])
  hr : H pr = some (.lst [.str (tx l1), .str (tx l2)])
  n0 : 0 ≤ n
  hb : H b = some (.lst [.int n])
section
variable {B H H' : Hp} {C : Addr} {A1 A2 : GrA} {pg pr b : Addr} {l1 l2 l1' l2' : List Nat} {n n' : Int}
end
end Mr

namespace Mr
open PySem L2
def spTaken (C : Addr) : Sp := fun vs H Q _ => ∃ (B : Hp) (A : GrA), vs = [.ref A.g] ∧
  ((∃ (l : List Nat) (c : Nat), GrV B C H A (l ++ [c]) ∧ ∀ H', GrV B C H' A l → ButG A H H' → Q (.str (tx [c])) H') ∨ (GrV B C H A [] ∧ ∀ H', Same H H' → Q (.str (tx [98, 97, 114, 101])) H'))
end Mr

namespace Mr
open PySem L2
/-! how many stretches are mirrors: place by place -/
def p01 (l : List Nat) (a b : Nat) : Nat := if palB l a b = true then 1 else 0
theorem palB_snoc {l : List Nat} {c a b : Nat} (h : b ≤ l.length) : palB (l ++ [c]) a b = palB l a b := by
  rw [Bool.eq_iff_iff, palB_iff (by rw [List.length_append]; omega), palB_iff h]
  unfold PalI
  constructor
  · intro hp i h1 h2
    have := hp i h1 h2
    rwa [List.getElem?_append_left (by omega), List.getElem?_append_left (by omega)] at this
  · intro hp i h1 h2
    rw [List.getElem?_append_left (by omega), List.getElem?_append_left (by omega)]
    exact hp i h1 h2
theorem ends_sum (l : List Nat) : ∀ n, n ≤ l.length → ((downs n).filter (sufB l)).length = sm n fun i => p01 l (l.length - (i + 1)) l.length
  | 0, _ => rfl
  | n + 1, h => by
    rw [downs_succ, List.filter_cons]
    show _ = sm n _ + p01 l (l.length - (n + 1)) l.length
    rw [← ends_sum l n (by omega)]
    have e : sufB l (n + 1) = palB l (l.length - (n + 1)) l.length := by
      rw [Bool.eq_iff_iff, palB_iff (Nat.le_refl _), ← pal_iff (Nat.le_refl _), sub_end]
      unfold sufB
      rw [decide_eq_true_iff]
    unfold p01
    rw [e]
    split
    · rw [List.length_cons]
    · rfl
theorem sm_rev {f : Nat → Nat} : ∀ n, sm n f = sm n fun i => f (n - 1 - i)
  | 0 => rfl
  | n + 1 => by
    have h : ∀ (g : Nat → Nat) (m : Nat), sm (m + 1) g = g 0 + sm m (fun i => g (i + 1)) := by
      intro g m
      induction m with
      | zero => show 0 + g 0 = g 0 + 0; omega
      | succ m ih =>
        show sm (m + 1) g + g (m + 1) = g 0 + (sm m (fun i => g (i + 1)) + g (m + 1))
        rw [ih]; omega
    rw [h (fun i => f (n + 1 - 1 - i)) n]
    show sm n f + f n = f (n + 1 - 1 - 0) + _
    rw [sm_rev n]
    have : sm n (fun i => f (n - 1 - i)) = sm n (fun i => f (n + 1 - 1 - (i + 1))) := sm_congr fun i hi => by congr 1; omega
    rw [this, show n + 1 - 1 - 0 = n by omega]
    omega
theorem many_snoc (l : List Nat) (c : Nat) : manyN (l ++ [c]) = manyN l + (endsN (l ++ [c])).length := by
  have hl : (l ++ [c]).length = l.length + 1 := by rw [List.length_append]; rfl
  have e1 : manyN (l ++ [c]) = sm (l.length + 1) fun a => sm (l.length + 1 - a) fun t => p01 (l ++ [c]) a (a + 1 + t) := by
    show sm (l ++ [c]).length _ = _
    rw [hl]; rfl
  have e2 : manyN l = sm l.length fun a => sm (l.length - a) fun t => p01 l a (a + 1 + t) := rfl
  have e3 : (sm (l.length + 1) fun a => sm (l.length + 1 - a) fun t => p01 (l ++ [c]) a (a + 1 + t)) = sm (l.length + 1) fun a => (sm (l.length - a) fun t => p01 l a (a + 1 + t)) + p01 (l ++ [c]) a (l.length + 1) := by
    refine sm_congr fun a ha => ?_
    rw [show l.length + 1 - a = (l.length - a) + 1 by omega]
    show sm (l.length - a) _ + p01 (l ++ [c]) a (a + 1 + (l.length - a)) = _
    rw [show a + 1 + (l.length - a) = l.length + 1 by omega]
    congr 1
    refine sm_congr fun t ht => ?_
    unfold p01
    rw [palB_snoc (by omega)]
  rw [e1, e3, sm_plus, e2]
  have e4 : (sm (l.length + 1) fun a => sm (l.length - a) fun t => p01 l a (a + 1 + t)) = sm l.length fun a => sm (l.length - a) fun t => p01 l a (a + 1 + t) := by
    show sm l.length _ + sm (l.length - l.length) _ = _
    rw [Nat.sub_self]; rfl
  rw [e4]
  congr 1
  rw [endsN_def, ends_sum (l ++ [c]) _ (Nat.le_refl _), hl, sm_rev (l.length + 1)]
  exact sm_congr fun i hi => by congr 1; omega
theorem deep_snoc (l : List Nat) (c : Nat) : deepN (l ++ [c]) = deepN l + (endsN (l ++ [c])).length := by
  unfold deepN deepsN
  rw [List.length_append, show l.length + ([c] : List Nat).length = l.length + 1 from rfl, List.range_succ, List.map_append, List.sum_append]
  congr 1
  · congr 1
    refine List.map_congr_left fun i hi => ?_
    have := List.mem_range.mp hi
    rw [List.take_append_of_le_length (by omega)]
  · show [((endsN ((l ++ [c]).take (l.length + 1))).length)].sum = _
    rw [List.take_of_length_le (by rw [List.length_append]; exact Nat.le_refl _)]
    show _ + 0 = _
    omega
theorem deep_many (l : List Nat) : deepN l = manyN l := by
  suffices h : ∀ n (l : List Nat), l.length = n → deepN l = manyN l from h _ l rfl
  intro n
  induction n with
  | zero =>
    intro l hl
    rw [List.eq_nil_of_length_eq_zero hl]
    rfl
  | succ n ih =>
    intro l hl
    rcases List.eq_nil_or_concat l with h | ⟨l0, c, h⟩
    · rw [h] at hl; cases hl
    · rw [List.concat_eq_append] at h
      subst h
      rw [deep_snoc, many_snoc, ih l0 (by rw [List.length_append] at hl; have : ([c] : List Nat).length = 1 := rfl; omega)]
end Mr

namespace L2
open PySem
section
variable {X : Cx} {pos : Pos} {t u : TS}
/-- an if of which the test tells J: the ways through the test meet ahead of both branches -/
def tIfJ (c : TT) (t u : TS) : TS := fun D σ H => ∃ J : Bool → Hp → Prop, c σ H J ∧ ∀ b H1, J b H1 → if b = true then t D σ H1 else u D σ H1
end
end L2
namespace Mr
open PySem L2
/-! all that a grower tells, in a list -/
def toldV (l : List Nat) (pe pt : Addr) : List V := [.str (tx l), .int ((mirs l l.length).length : Nat), .ref pe, .ref pt, .int (deepN l : Nat)]
def spTold27 (C : Addr) : Sp := fun vs H Q _ => ∃ (B : Hp) (A : GrA) (l : List Nat), vs = [.ref A.g] ∧ GrV B C H A l ∧
  ∀ (p pe pt : Addr) (xs : List V) (H' : Hp), H p = none → H' p = some (.lst (toldV l pe pt)) → H' pe = some (.lst (lensV (endsN l))) → H' pt = some (.lst xs) → TreeV H' xs (treeN l) → Same H H' → Q (.ref p) H'
end Mr

namespace Mr
open PySem L2
/-! how many cuts -/
def lastN (ms : List Nat) (b : Nat) (L : List Nat) : Nat := (L.map fun k => ms.getD (b - k) 0).sum
def wayAt (L : Nat → List Nat) : Nat → List Nat
  | 0 => [1]
  | n + 1 => wayAt L n ++ [lastN (wayAt L n) (n + 1) (L (n + 1))]
def ways (l : List Nat) (b : Nat) : Nat := (wayAt (lenOf (endsAt l)) b).getD b 0
theorem sum_lens' (ks : List Nat) : (ks.map fun (k : Nat) => (k : Int)).sum = ((ks.sum : Nat) : Int) := by
  induction ks with
  | nil => rfl
  | cons k r ih =>
    rw [List.map_cons, List.sum_cons, List.sum_cons, ih]
    omega
def spLastN : Sp := fun vs H Q _ => ∃ (pm pl : Addr) (ms L : List Nat) (b : Nat), vs = [.ref pm, .int (b : Int), .ref pl] ∧ H pm = some (.lst (lensV ms)) ∧ H pl = some (.lst (lensV L)) ∧ L.length ≤ 1000 ∧ (∀ k ∈ L, k ≤ b ∧ b - k < ms.length) ∧ ∀ H', Same H H' → Q (.int (lastN ms b L : Nat)) H'
def spWays : Sp := fun vs H Q _ => ∃ l : List Nat, vs = [.str (tx l)] ∧ rowL l = true ∧ ∀ H', Same H H' → Q (.int (ways l l.length : Nat)) H'
end Mr
namespace Mr
open PySem L2
def spTwice : Sp := fun vs H Q _ => ∃ n : Nat, vs = [.int (n : Int)] ∧ n ≤ 1000 ∧ Q (.int ((2 ^ n : Nat) : Int)) H
end Mr

namespace Mr
open PySem L2
/-! cuts of rows that go on in the same way -/
def Per (p : Nat) (l : List Nat) : Prop := ∀ i, i < l.length → l[i]? = some (97 + i % p)
theorem ends_nodup (l : List Nat) : (endsN l).Nodup := by
  rw [endsN_def]
  refine List.Pairwise.filter _ ?_
  suffices h : ∀ n, (downs n).Nodup from h _
  intro n
  induction n with
  | zero => exact List.nodup_nil
  | succ n ih =>
    rw [downs_succ, List.nodup_cons]
    exact ⟨fun z => by have := mem_downs.mp z; omega, ih⟩
end Mr
namespace Mr
open PySem L2
end Mr

namespace Mr
open PySem L2
/-! what is no row is refused -/
def spNR1 (K : PySem.W.Frag) (C : Addr) : Sp := fun vs H _ E => ∃ x : V, vs = [x] ∧ Thing K H x ∧ rowV x = false ∧ ∀ H', Same H H' → E (.ref C) none H'
def spNRa (K : PySem.W.Frag) (C : Addr) : Sp := fun vs H _ E => ∃ x y : V, vs = [x, y] ∧ Thing K H x ∧ rowV x = false ∧ ∀ H', Same H H' → E (.ref C) none H'
def spNRb (K : PySem.W.Frag) (C : Addr) : Sp := fun vs H _ E => ∃ x y : V, vs = [y, x] ∧ Thing K H x ∧ rowV x = false ∧ ∀ H', Same H H' → E (.ref C) none H'
def spWay07 (K : PySem.W.Frag) (C : Addr) (n : Nat) : Sp := fun vs H _ E => ∃ (x : V) (v : Nat), vs = [.int (v : Int), x] ∧ v < n ∧ Thing K H x ∧ rowV x = false ∧ ∀ H', Same H H' → E (.ref C) none H'
def spTold07 (K : PySem.W.Frag) : Sp := fun vs H Q _ => ∃ (x : V) (h v : Nat), vs = [.int (h : Int), .int (v : Int), x] ∧ ((h = 0 ∧ v < 10) ∨ (h = 1 ∧ v < 9)) ∧ Thing K H x ∧ rowV x = false ∧ ∀ H', Same H H' → Q (.str ("row" : Str)) H'
/-- need_row: nothing where it is a row, else NoRow -/
def spNeedX (K : PySem.W.Frag) (C : Addr) : Sp := fun vs H Q E => ∃ x, vs = [x] ∧ Thing K H x ∧ (rowV x = true → ∀ H', Same H H' → Q .non H') ∧ (rowV x = false → ∀ H', Same H H' → E (.ref C) none H')
end Mr

namespace L2
open PySem PySem.Spec PyProof.Rows
section
variable {X : Cx} {k j : Nat} {C : Addr} {m : Str} {ps : List Str} {sp : Sp} {o e : Expr} {es : List Expr} {apos pos : Pos} {ta : TE} {t : TA} {pl : Sem Bool} {Ex : XS}
end
end L2
namespace Mr
open PySem L2
/-! a grower that is handed whatever -/
def spAddX (K : PySem.W.Frag) (C c5 c7 : Addr) : Sp := fun vs H Q E => ∃ (B : Hp) (A : GrA) (x : V), vs = [.ref A.g, x] ∧
  ((∃ (l : List Nat) (c : Nat), x = .str (tx [c]) ∧ GrV B C H A l ∧ 97 ≤ c ∧ c ≤ 122 ∧ l.length < 200 ∧
      ∀ (p : Addr) (H' : Hp), H p = none → H' p = some (.tup [.int (((mirs (l ++ [c]) (l ++ [c]).length).idxOf (topL (l ++ [c])) : Nat) : Int), .bl (decide (topL (l ++ [c]) ∉ mirs l l.length))]) → GrV B C H' A (l ++ [c]) → ButG A H H' → Q (.ref p) H') ∨
   (∃ l : List Nat, GrV B C H A l ∧ Thing K H x ∧ (rowV x = false ∨ ∃ m : List Nat, x = .str (tx m) ∧ m.length ≤ 100000 ∧ m.length ≠ 1) ∧ ∀ H', Same H H' → E (.ref c5) none H') ∨
   (∃ (l : List Nat) (c : Nat), x = .str (tx [c]) ∧ GrV B C H A l ∧ 97 ≤ c ∧ c ≤ 122 ∧ l.length = 200 ∧ ∀ H', Same H H' → E (.ref c7) none H'))
def spState26 (C : Addr) : Sp := fun vs H Q _ => ∃ (B : Hp) (A : GrA) (l : List Nat), vs = [.ref A.g] ∧ GrV B C H A l ∧
  ∀ (p pe : Addr) (H' : Hp), H p = none → H pe = none → H' p = some (.tup [.str (tx l), .int ((mirs l l.length).length : Nat), .ref pe, .int ((mirs l l.length).length : Nat), .int (deepN l : Nat)]) → H' pe = some (.lst (lensV ((endsN l).take 3))) → Same H H' → Q (.ref p) H'
def spTold26 (K : PySem.W.Frag) (C : Addr) : Sp := fun vs H Q _ => ∃ (B : Hp) (A : GrA) (x : V), vs = [.ref A.g, x] ∧
  ((∃ l : List Nat, GrV B C H A l ∧ Thing K H x ∧ (rowV x = false ∨ ∃ m : List Nat, x = .str (tx m) ∧ m.length ≤ 100000 ∧ m.length ≠ 1) ∧ ∀ H', Same H H' → Q (.str ("sign" : Str)) H') ∨
   (∃ (l : List Nat) (c : Nat), x = .str (tx [c]) ∧ GrV B C H A l ∧ 97 ≤ c ∧ c ≤ 122 ∧ l.length = 200 ∧ ∀ H', Same H H' → Q (.str ("many" : Str)) H'))
end Mr

namespace Mr
open PySem L2
/-! the row a b z a b z .. -/
def let3 (i : Nat) : Nat := if i % 3 = 0 then 97 else if i % 3 = 1 then 98 else 122
def abz (n : Nat) : List Nat := (List.range n).map let3
def abz3 : List (List Nat) := [[97], [98], [122]]
end Mr

namespace L2
open PySem PySem.Spec PyProof.Rows PySem.SeqAt PySem.MeetsSeq
section
variable {X : Cx}
/-! two tuples that are the same, n deep below them -/
def rTupD (n : Nat) (r : Bool) : R2 := fun x y H Q => ∃ p q xs ys, x = .ref p ∧ y = .ref q ∧ H p = some (.tup xs) ∧ H q = some (.tup ys) ∧ xs.length = ys.length ∧ (∀ (j : Nat) (u v : V), xs[j]? = some u → ys[j]? = some v → DSame H n u v) ∧ Q (.bl r) H
theorem tup_same {n m : Nat} (h : n = m) : ((List.range (min n m)).all (fun _ => true) && n == m) = true := by
  subst h
  simp
theorem op_neDT (n : Nat) (hu : X.A.units + 1 + n < cLine) : OpR X (compareOp .NotEq) (rTupD n false) := by
  intro pins s σ H x y v u Q I rx ry h
  obtain ⟨p, q, xs, ys, rfl, rfl, hp, hq, hl, hd, k⟩ := h
  cases rx
  cases ry
  obtain ⟨its, r1, p1, _⟩ := I.tuple (SqT.of (K := X.K) hp)
  obtain ⟨jts, r2, p2, _⟩ := I.tuple (SqT.of (K := X.K) hq)
  refine SeqAt.RcNeAt.tuples (e := fun _ => true) (show s.heap.IsTuple p its.toArray from p1) (show s.heap.IsTuple q jts.toArray from p2) (by omega) (fun j h1 h2 => ?_) _ _ _ _ ?_
  · obtain ⟨a1, b1⟩ := r1.at h1
    obtain ⟨a2, b2⟩ := r2.at h2
    exact DSame.at I (A := X.A.in1) (by show X.A.units + 1 + n < cLine; omega) (hd j _ _ b1 b2) a1 a2
  · rw [tup_same (by rw [List.size_toArray, List.size_toArray, ← r1.length, ← r2.length]; exact hl)]
    exact ⟨.bl false, H, I, rfl, k⟩
end
end L2
namespace Mr
open PySem L2
def stateV (l : List Nat) (pe : Addr) : List V := [.str (tx l), .int ((mirs l l.length).length : Nat), .ref pe, .int ((mirs l l.length).length : Nat), .int (deepN l : Nat)]
end Mr

namespace Mr
/-! ways from place to place by stretches that read alike; how many there are of a length -/
inductive Path (l : List Nat) : Nat → Nat → Nat → Prop
  | nil (a : Nat) : Path l a a 0
  | step {a f b n : Nat} : Path l a f n → f < b → b ≤ l.length → PalI l f b → Path l a b (n + 1)
/-! how many cuts of a number of stretches -/
def cofN (l : List Nat) : Nat → Nat → Nat
  | 0, b => if b = 0 then 1 else 0
  | c + 1, b => ((begN l b).map (cofN l c)).sum
/-! many ways, from behind -/
def Mp (N : Nat) (A : Nat → Nat → Nat) : Nat → Nat → Nat → Nat
  | 0, a, b => if a = b then 1 else 0
  | c + 1, a, b => sm N fun f => A f b * Mp N A c a f
def adj (l : List Nat) (f b : Nat) : Nat := if f < b ∧ b - f ∈ endsN (l.take b) then 1 else 0
end Mr

namespace L2
open PySem PySem.Spec PyProof.Rows
/-! ### a list has no keys -/
theorem list_keys_none : typeLookup (.type "list") "keys" = pure none := by rw [typeLookup_type, builtinLookup_eq_fast]; kernel_rfl
theorem list_getattr_none : typeLookup (.type "list") "__getattr__" = pure none := by rw [typeLookup_type, builtinLookup_eq_fast]; kernel_rfl
theorem list_entry_ga : entryFor table "list.__getattribute__" = some Builtin.«object.__getattribute__» := entryFor_alias (id' := "object.__getattribute__") (by kernel_rfl) (by decide +kernel) (by decide +kernel) (by kernel_rfl)
theorem list_args_ga (a b : Value) : argsOk "list.__getattribute__" ⟨[a, b], []⟩ := by unfold argsOk; kernel_rfl
/-- it raises that there are none -/
def NoKeys (a : Addr) : PySem.Spec := fun A R s => (∃ xs n, s.heap.get? a = some { cls := .type "list", data := .seq xs n }) ∧ raisesAttr (.ref a) "keys" A R s
theorem meets_no_keys (a : Addr) (u : Tok) : Meets (Builtin.«object.__getattribute__» ⟨[.ref a, .str "keys" u], []⟩) (NoKeys a) :=
  Meets.of_wp fun prog w A R s hs => by
    obtain ⟨hp, g, d, tk, os⟩ := s
    obtain ⟨⟨xs, n, hl⟩, hs⟩ := hs
    have hT : ∀ tk' : Nat, Shared.TypeIs ⟨hp, g, d, tk', os⟩ (.ref a) "list" := fun _ => ⟨_, hl, rfl⟩
    have hmiss := list_keys_none
    unfold Builtin.«object.__getattribute__»
    (repeat (any_goals (first | assumption | (with_reducible refine wpAny_loadPart_at hl ?_) | wp_step)))
    exact wpAny_raiseAttrError hs.1 hs.2 (attrMsg_fits (by decide +kernel) (by size_fits))
section
variable {prog : Program} {w : World} {A : Around} {E : Value → Shared → Prop} {s : Shared}
theorem ask_keys {a : Addr} {xs : Array Value} {n : Nat} {Q : Option Value → Shared → Prop} (hh : A.handled = none) (hl : s.heap.get? a = some { cls := .type "list", data := .seq xs n }) (h : ∀ h' tk, (∀ b o, s.heap.get? b = some o → h'.get? b = some o) → Q none { s with heap := h', toks := tk }) :
    wpAny (model prog w) A (getAttr? (.ref a) "keys") Q E s := by
  obtain ⟨hp, g, d, tk, os⟩ := s
  have hT : ∀ tk' : Nat, Shared.TypeIs ⟨hp, g, d, tk', os⟩ (.ref a) "list" := fun _ => ⟨_, hl, rfl⟩
  have f1 := sub_AttributeError
  have f3 := PySem.F.slot_list_getattribute.lookup
  have f4 := PySem.F.slot_list_getattribute.bind (.ref a)
  have f5 := list_getattr_none
  unfold getAttr? getAttrBy? getAttrBy
  refine wpAny_bind (wpAny_mkText (wpAny_bind (wpAny_attempt ?_)))
  (repeat (any_goals (first | assumption | ((with_reducible show wpAny _ _ (call (Value.builtin "list.__getattribute__") _ _) _ _ _); refine call_meets PySem.F.slot_list_getattribute (hT _) list_entry_ga (list_args_ga _ _) (meets_no_keys a _) ⟨⟨xs, n, hl⟩, hh, fun h' tk' e hx => ?_⟩) | (with_reducible refine wpAny_loadPart_at hl ?_) | wp_step)))
  obtain ⟨t1, u1, he⟩ := hx.there
  have hE : ∀ tk' : Nat, Shared.TypeIs ⟨h', g, d, tk', os⟩ (.ref e) "AttributeError" := fun _ => ⟨_, he, rfl⟩
  show wpAny _ _ (getattributeRaised _ _ _ _ _ _ _) _ _ _
  unfold getattributeRaised
  (repeat (any_goals (first | assumption | (with_reducible refine wpAny_loadPart_at he ?_) | wp_step)))
  exact h _ _ hx.keeps
end
end L2
namespace L2
open PySem PySem.Spec PyProof.Rows
/-! ### dict([(text, value), ..]) -/
theorem entry_dul : entryFor table "dict.update.loop" = some Builtin.«dict.update.loop» := entryFor_of_tree (by kernel_rfl)
theorem plain_dul : plainId "dict.update.loop" = true := by decide +kernel
/-- pairs put in one by one -/
def putAll (kvs : List (Key × V)) : List (Str × V) → List (Key × V)
  | [] => kvs
  | (k, v) :: r => putAll (putK kvs (Sum.inr k) v) r
section
variable {X : Cx} {pins : List (Addr × Obj)} {σ : St} {A : Around}
theorem dict_loop {a it d : Addr} (hh : A.handled = none) (nd : d ≠ it) : ∀ (ps : List (Str × V)) (done : List V) (refs : List V) (i : Int) (t : Tok) (s : Shared) (H : Hp) (kvs : List (Key × V)) (R : Result → Shared → Prop), Inv X pins σ H s → FpOk X pins H it → s.heap.IsListIter it a done.length →
    H a = some (.lst (done ++ refs)) → H d = some (.dK kvs) → kvs.length + ps.length < sizeLine → refs.length = ps.length → (∀ (j : Nat) (k : Str) (v : V), ps[j]? = some (k, v) → ∃ q, refs[j]? = some (.ref q) ∧ H q = some (.tup [.str k, v])) →
    (∀ s', Inv X pins σ (upd H d (.dK (putAll kvs ps))) s' → R (.ok (.ret .none)) s') → codeAny (model X.prog X.w) A (.builtin "dict.update.loop" ⟨[.ref d, .ref it, .int i t, .none], []⟩) R s
  | [], done, refs, i, t, s, H, kvs, R, I, hf, st, ha, hd, hz, hl, hp, h => by
    obtain rfl : refs = [] := List.eq_nil_of_length_eq_zero hl
    obtain ⟨its, rv, pl, _⟩ := I.list (SqL.of (K := X.K) ha)
    obtain ⟨f0, f1, f2, f3, f4, f5⟩ := hf
    have hlen := rv.length
    refine codeAny_builtin entry_dul ?_
    rw [Around.under_plainId plain_dul _]
    unfold Builtin.«dict.update.loop»
    dsimp only
    refine wpAny_bind (wpAny_pyNext_list_end (by rw [Around.in1_handled]; exact hh) st pl.isList (by rw [List.append_nil] at hlen; simp; omega) fun h' eb => ?_)
    refine wpAny_bind (wpAny_pure (wpAny_pure (h _ ?_)))
    have I1 : Inv X pins σ H { s with heap := h' } := I.turned (t' := s.toks) (fun b o hb e => eb b o hb e) f0 f1 f3 f4 f5
    have e : upd H d (.dK kvs) = H := funext fun b => by
      by_cases hb : b = d
      · subst hb; rw [upd_same, hd]
      · rw [upd_ne hb]
    show Inv X pins σ (upd H d (.dK kvs)) _
    rw [e]
    exact I1
  | (k, v) :: ps, done, [], i, t, s, H, kvs, R, I, hf, st, ha, hd, hz, hl, hp, h => by cases hl
  | (k, v) :: ps, done, r :: refs, i, t, s, H, kvs, R, I, hf, st, ha, hd, hz, hl, hp, h => by
    obtain ⟨q, hr, hq⟩ := hp 0 k v rfl
    obtain rfl : r = .ref q := Option.some.inj hr
    obtain ⟨its, rv, pl, _⟩ := I.list (SqL.of (K := X.K) ha)
    obtain ⟨u, hu, ru⟩ := rv.get (show (done ++ V.ref q :: refs)[done.length]? = some (.ref q) by simp)
    obtain rfl : u = Value.ref q := ru
    have hf' := hf
    obtain ⟨f0, f1, f2, f3, f4, f5⟩ := hf
    refine codeAny_builtin entry_dul ?_
    rw [Around.under_plainId plain_dul _]
    unfold Builtin.«dict.update.loop»
    dsimp only
    refine wpAny_bind (wpAny_pyNext_list_item st pl.isList (x := .ref q) (by simpa using hu) fun h1 st1 sb1 => ?_)
    have I1 : Inv X pins σ H { s with heap := h1 } := I.turned (t' := s.toks) (fun b o hb e => (sb1.2 b hb).trans e) f0 f1 f3 f4 f5
    obtain ⟨its2, rv2, p2, _⟩ := I1.tuple (SqT.of (K := X.K) hq)
    obtain ⟨kt, vv, rfl, rk, rvv⟩ := vals2 rv2
    obtain ⟨kt, rfl⟩ := rk
    obtain ⟨oq, hoq, hcq, nq, hdq⟩ := (show h1.IsTuple q _ from p2)
    have hT : Shared.TypeIs { s with heap := h1 } (.ref q) "tuple" := ⟨oq, hoq, hcq⟩
    obtain ⟨z0, hsys, vs, rel, dd⟩ := dk_of I1.hok hd
    refine wpAny_bind (wpAny_holding (wpAny_bind (wpAny_tryCatch ?_)))
    unfold Builtin.Dict.pairItems
    refine wpAny_bind (wpAny_typeOf hT ?_)
    rw [if_pos (by decide)]
    refine wpAny_bind (wpAny_seqItems hoq hdq (wpAny_pure ?_))
    show wpAny _ _ (holding [Value.str k kt, vv] (dictSet d (.str k kt) vv)) _ _ _
    refine wpAny_holding (wpAny_dictSet_pairs (knd := mixKind X.prog X.w) (k := Sum.inr k) (kV_is ⟨kt, rfl⟩) dd (fun h2 dd2 sb2 => ?_) (by rw [← rel.length]; exact z0))
    have hl2 : (putK kvs (Sum.inr k) v).length ≤ sizeLine := by have := length_putK kvs (Sum.inr k) v; simp only [List.length_cons] at hz; omega
    have he2 : ∃ o, h2.get? d = some o := let ⟨o, _, _, ho, _⟩ := dd2; ⟨o, ho⟩
    have I2 : Inv X pins σ (upd H d (.dK (putK kvs (Sum.inr k) v))) { s with heap := h2, toks := s.toks + 1 } := d_write (s := { s with heap := h1 }) (t' := s.toks + 1) I1 (by rw [hd]; exact True.intro) sb2 he2 (dk_new hl2 hsys (rel.put (Sum.inr k) rvv) dd2)
    refine wpAny_pure ⟨plainId_quiet plain_dul _, ?_⟩
    have na : a ≠ d := ne_of ha hd (fun z => nomatch z)
    have st2 : h2.IsListIter it a (done ++ [V.ref q]).length := by
      rw [List.length_append]
      obtain ⟨o, e, r⟩ := st1
      exact ⟨o, (sb2.2 it (Ne.symm nd)).trans e, r⟩
    refine dict_loop hh nd ps (done ++ [V.ref q]) refs _ _ _ _ (putK kvs (Sum.inr k) v) R I2 ⟨?_, f1, f2, f3, f4, f5⟩ st2 ?_ upd_same ?_ (by simpa using hl) (fun j k' v' e => ?_) fun s' I' => h s' ?_
    · rw [upd_ne (Ne.symm nd)]; exact f0
    · rw [upd_ne na, List.append_assoc]; exact ha
    · have := length_putK kvs (Sum.inr k) v; simp only [List.length_cons] at hz; omega
    · obtain ⟨q', e1, e2⟩ := hp (j + 1) k' v' (by simpa using e)
      exact ⟨q', by simpa using e1, by rw [upd_ne (ne_of e2 hd (fun z => nomatch z))]; exact e2⟩
    · rw [upd_upd] at I'
      exact I'
/-- dict(list of pairs): a new dict -/
theorem call_dictP (hc : X.calm = true) : CallR X (.type "dict") (fun xs H Q => ∃ (p : Addr) (refs : List V) (ps : List (Str × V)), xs = [.ref p] ∧ H p = some (.lst refs) ∧ refs.length = ps.length ∧ ps.length < 100000 ∧ (∀ (j : Nat) (k : Str) (v : V), ps[j]? = some (k, v) → ∃ q, refs[j]? = some (.ref q) ∧ H q = some (.tup [.str k, v])) ∧
    ∀ d, H d = none → Q (.ref d) (upd H d (.dK (putAll [] ps)))) := by
  intro pins s σ H xs us Q I r h
  obtain ⟨p, refs, ps, rfl, hp, hl, hz, hpairs, q⟩ := h
  obtain ⟨u, rfl, rx⟩ := vals1 r
  cases rx
  have hh := I.ok.hd hc
  have hnone : H s.heap.objs.size = none := I.hok.fresh (Nat.le_refl _)
  have I0 : Inv X pins σ (upd H s.heap.objs.size (.dK [])) { s with heap := s.heap.push { cls := .type "dict", data := .dict #[] } } := I.laid (a := s.heap.objs.size) (o := .dK []) (t' := s.toks) (fun _ _ q => Heap.get?_push_of_some _ q) (Nat.le_refl _) (dk_empty s.heap I.big)
  have np : p ≠ s.heap.objs.size := ne_of_none hp hnone
  have hp0 : upd H s.heap.objs.size (.dK []) p = some (.lst refs) := by rw [upd_ne np]; exact hp
  have hS : Shared.TypeIs { s with heap := s.heap.push { cls := .type "dict", data := .dict #[] } } (.ref s.heap.objs.size) "dict" := ⟨_, Heap.get?_push_size _ rfl, rfl⟩
  obtain ⟨_, its, n, rv, _, e0⟩ := I0.lstM hp0
  have hTl : Shared.TypeIs { s with heap := s.heap.push { cls := .type "dict", data := .dict #[] } } (.ref p) "list" := ⟨_, e0, rfl⟩
  refine callType_codes (Q₁ := fun v s1 => v = .ref s.heap.objs.size ∧ s1 = { s with heap := s.heap.push { cls := .type "dict", data := .dict #[] } }) PySem.F.kt_called_dict (PySem.F.kt_typeCall_dict_1 _) PySem.F.entry_dict_init (kt_code_dict_new _ ⟨rfl, rfl⟩) ?_
  rintro v s1 ⟨rfl, rfl⟩
  refine ⟨hS, PySem.F.args_dict_init_2 _ _, ?_⟩
  unfold Builtin.«dict.__init__» Builtin.Dict.selfAndRest
  refine wpAny_bind (wpAny_bind (wpAny_notOrdered_dict hS ?_))
  refine wpAny_pure ?_
  show wpAny _ _ (Builtin.Dict.updateFrom "dict.__init__" s.heap.objs.size (.ref p) [] .none) _ _ _
  unfold Builtin.Dict.updateFrom
  refine wpAny_bind (wpAny_typeOf hTl ?_)
  rw [if_pos (by decide)]
  refine wpAny_bind (ask_keys (by simpa using hh) e0 fun h1 tk1 kk => ?_)
  rw [if_pos (by rfl)]
  have I1 : Inv X pins σ (upd H s.heap.objs.size (.dK [])) { s with heap := h1, toks := tk1 } := I0.kept (t' := tk1) kk
  refine wpAny_bind (wpAny_rule (wpAny_bind ?_))
  have pl : h1.IsList p its.toArray := ⟨_, kk _ _ e0, rfl, n, rfl⟩
  refine wpAny_pyIter_list pl ?_
  have I2 : Inv X pins σ (upd H s.heap.objs.size (.dK [])) { s with heap := h1.push { cls := .type "list_iterator", data := .fields #[.ref p, .int 0 0] }, toks := tk1 } := I1.kept (t' := tk1) fun b o e => Heap.get?_push_of_some _ e
  have dlt : s.heap.objs.size < h1.objs.size := Heap.lt_size (kk _ _ (Heap.get?_push_size _ rfl))
  refine wpAny_pure ⟨plainId_quiet plain_dul _, ?_⟩
  refine dict_loop (X := X) (pins := pins) (σ := σ) (a := p) (it := h1.objs.size) (d := s.heap.objs.size) (by rw [Around.in1_handled]; exact hh) (Nat.ne_of_lt dlt) ps [] refs 0 0 _ (upd H s.heap.objs.size (.dK [])) [] _ I2 (I1.fpOk (Nat.le_refl _) (I1.hok.fresh (Nat.le_refl _))) ⟨_, Heap.get?_push_size _ rfl, rfl, rfl⟩ hp0 upd_same (by rw [sizeLine_eq]; show 0 + ps.length < _; omega) hl (fun j k v e => ?_) fun s' I' => ⟨rfl, .ref _, _, I', rfl, ?_⟩
  · obtain ⟨q', e1, e2⟩ := hpairs j k v e
    exact ⟨q', e1, by rw [upd_ne (ne_of_none e2 hnone)]; exact e2⟩
  · rw [upd_upd]
    exact q _ hnone
end
end L2

namespace Mr
open PySem L2
/-! how often each mirror stands: the tops, handed on from less to less -/
/-- the mirrors that end at c -/
def endT (l : List Nat) (c : Nat) : List (List Nat) := (endsN (topT l c)).map fun k => (topT l c).take k
theorem top_pal {l : List Nat} {c : Nat} (h1 : 1 ≤ c) (hc : c ≤ l.length) : topT l c ≠ [] ∧ topT l c = (topT l c).reverse := (top_ends h1 hc).len hc
theorem end_text {l : List Nat} {c i k : Nat} (h1 : 1 ≤ c) (hc : c ≤ l.length) (h : (endsN (topT l c))[i]? = some k) : (topT l c).take k = sub l (c - k) c ∧ 1 ≤ k ∧ k ≤ (topT l c).length := by
  obtain ⟨L, eL, L1, L2, L3, L4⟩ := ends_first h1 hc
  obtain ⟨q1, _, _, q4⟩ := ends_top h1 hc
  rw [eL] at q4
  have q5 : (topT l c).length = L := q4
  have hk : k ∈ endsN (l.take c) := by rw [← q1]; exact List.mem_of_getElem? h
  obtain ⟨k1, k2, _⟩ := (ends_mem hc).mp hk
  have k3 := L4 k hk
  refine ⟨?_, k1, by omega⟩
  rw [take_end (top_pal h1 hc).2 h, q5]
  have et : topT l c = (l.take c).drop (c - L) := by unfold topT; rw [eL, sub_take]; rfl
  rw [et, List.drop_drop, show c - L + (L - k) = c - k by omega, sub_take]
theorem endT_iff {l : List Nat} {c : Nat} (h1 : 1 ≤ c) (hc : c ≤ l.length) (t : List Nat) : t ∈ endT l c ↔ EndsAt l c t := by
  obtain ⟨q1, _, _, _⟩ := ends_top h1 hc
  constructor
  · intro h
    obtain ⟨k, hk, rfl⟩ := List.mem_map.mp h
    obtain ⟨i, hi⟩ := List.mem_iff_getElem?.mp hk
    obtain ⟨e, _, _⟩ := end_text h1 hc hi
    rw [q1] at hk
    obtain ⟨k1, k2, k3⟩ := (ends_mem hc).mp hk
    exact ⟨k, k1, k2, e, k3⟩
  · rintro ⟨k, k1, k2, rfl, k3⟩
    have hk : k ∈ endsN (topT l c) := by rw [q1]; exact (ends_mem hc).mpr ⟨k1, k2, k3⟩
    obtain ⟨i, hi⟩ := List.mem_iff_getElem?.mp hk
    exact List.mem_map.mpr ⟨k, hk, (end_text h1 hc hi).1⟩
theorem endT_at {l : List Nat} {c : Nat} {t : List Nat} (h : t ∈ endT l c) : ∃ (i k : Nat), (endsN (topT l c))[i]? = some k ∧ t = (topT l c).take k := by
  obtain ⟨k, hk, rfl⟩ := List.mem_map.mp h
  obtain ⟨i, hi⟩ := List.mem_iff_getElem?.mp hk
  exact ⟨i, k, hi, rfl⟩
theorem at_endT {l : List Nat} {c i k : Nat} (h : (endsN (topT l c))[i]? = some k) : (topT l c).take k ∈ endT l c := List.mem_map.mpr ⟨k, List.mem_of_getElem? h, rfl⟩
theorem from_top {l : List Nat} {c : Nat} (h1 : 1 ≤ c) (hc : c ≤ l.length) {t : List Nat} (h : t ∈ endT l c) : t = topT l c ∨ ∃ u, u ∈ endT l c ∧ lessN u = t := by
  obtain ⟨i, k, hi, rfl⟩ := endT_at h
  obtain ⟨hn, hp⟩ := top_pal h1 hc
  cases i with
  | zero =>
    rw [ends_zero hp hn] at hi
    rw [← Option.some.inj hi, List.take_of_length_le (Nat.le_refl _)]
    exact .inl rfl
  | succ i =>
    have hl : i < (endsN (topT l c)).length := by have := (List.getElem?_eq_some_iff.mp hi).1; omega
    have h' : (endsN (topT l c))[i]? = some (endsN (topT l c))[i] := List.getElem?_eq_getElem hl
    exact .inr ⟨_, at_endT h', by rw [less_end hp h', hi]; rfl⟩
/-- the less of an end, where it is none of the empty ones -/
theorem less_at {l : List Nat} {c : Nat} (h1 : 1 ≤ c) (hc : c ≤ l.length) {u : List Nat} (h : u ∈ endT l c) (hn : lessN u ≠ []) :
    ∃ (i k k' : Nat), (endsN (topT l c))[i]? = some k ∧ u = (topT l c).take k ∧ (endsN (topT l c))[i + 1]? = some k' ∧ lessN u = (topT l c).take k' := by
  obtain ⟨i, k, hi, rfl⟩ := endT_at h
  have e := less_end (top_pal h1 hc).2 hi
  cases h2 : (endsN (topT l c))[i + 1]? with
  | none => rw [h2] at e; exact absurd e (by intro z; rw [z] at hn; exact hn (List.take_zero))
  | some k' => rw [h2] at e; exact ⟨i, k, k', hi, rfl, h2, e⟩
theorem take_inj {l : List Nat} {c i i' k k' : Nat} (h1 : 1 ≤ c) (hc : c ≤ l.length) (h : (endsN (topT l c))[i]? = some k) (h' : (endsN (topT l c))[i']? = some k') (e : (topT l c).take k = (topT l c).take k') : i = i' := by
  obtain ⟨_, _, a⟩ := end_text h1 hc h
  obtain ⟨_, _, b⟩ := end_text h1 hc h'
  have e2 := congrArg List.length e
  rw [List.length_take, List.length_take, Nat.min_eq_left a, Nat.min_eq_left b] at e2
  rw [← e2] at h'
  exact (List.getElem?_inj (List.getElem?_eq_some_iff.mp h).1 (ends_nodup _)).mp (h.trans h'.symm)
theorem to_less {l : List Nat} {c : Nat} (h1 : 1 ≤ c) (hc : c ≤ l.length) {u : List Nat} (h : u ∈ endT l c) (hn : lessN u ≠ []) : lessN u ∈ endT l c := by
  obtain ⟨i, k, k', _, _, h2, e⟩ := less_at h1 hc h hn
  rw [e]; exact at_endT h2
theorem less_one {l : List Nat} {c : Nat} (h1 : 1 ≤ c) (hc : c ≤ l.length) {u v : List Nat} (h : u ∈ endT l c) (h' : v ∈ endT l c) (hn : lessN u ≠ []) (e : lessN u = lessN v) : u = v := by
  obtain ⟨i, k, m, a1, a2, a3, a4⟩ := less_at h1 hc h hn
  obtain ⟨i', k', m', b1, b2, b3, b4⟩ := less_at h1 hc h' (e ▸ hn)
  have := take_inj h1 hc a3 b3 (by rw [← a4, ← b4]; exact e)
  have e3 : i = i' := by omega
  subst e3
  rw [a1] at b1
  rw [a2, b2, Option.some.inj b1]
theorem less_no_top {l : List Nat} {c : Nat} (h1 : 1 ≤ c) (hc : c ≤ l.length) {u : List Nat} (h : u ∈ endT l c) : lessN u ≠ topT l c := fun e => by
  obtain ⟨hn, hp⟩ := top_pal h1 hc
  obtain ⟨i, k, m, a1, a2, a3, a4⟩ := less_at h1 hc h (e ▸ hn)
  have := take_inj h1 hc a3 (ends_zero hp hn) (by rw [← a4, e, List.take_of_length_le (Nat.le_refl _)])
  omega
theorem endT_in {l : List Nat} {c : Nat} (h1 : 1 ≤ c) (hc : c ≤ l.length) {t : List Nat} (h : t ∈ endT l c) : t ∈ mirs l l.length := (mem_mirs (Nat.le_refl _) t).mpr ⟨c, h1, hc, (endT_iff h1 hc t).mp h⟩
/-- the mirror t has been told of its end at c, when all numbers from j on have handed on -/
def hB (l : List Nat) (j : Nat) (t : List Nat) (c : Nat) : Bool := decide (t ∈ endT l c) && (decide (t = topT l c) || (endT l c).any fun u => decide (lessN u = t) && decide (j ≤ (mirs l l.length).idxOf u))
def hS (l : List Nat) (j : Nat) (t : List Nat) : Nat := sm l.length fun i => if hB l j t (i + 1) = true then 1 else 0
theorem hB_iff {l : List Nat} {j : Nat} {t : List Nat} {c : Nat} : hB l j t c = true ↔ t ∈ endT l c ∧ (t = topT l c ∨ ∃ u, u ∈ endT l c ∧ lessN u = t ∧ j ≤ (mirs l l.length).idxOf u) := by
  unfold hB
  rw [Bool.and_eq_true, decide_eq_true_iff, Bool.or_eq_true, decide_eq_true_iff, List.any_eq_true]
  simp only [Bool.and_eq_true, decide_eq_true_iff]
theorem idx_at {l t : List Nat} {j : Nat} (h : (mirs l l.length)[j]? = some t) : (mirs l l.length).idxOf t = j := by
  have hin := List.mem_of_getElem? h
  have hl := List.idxOf_lt_length_of_mem hin
  have e : (mirs l l.length)[(mirs l l.length).idxOf t]? = some t := by rw [List.getElem?_eq_getElem hl, List.getElem_idxOf]
  exact (List.getElem?_inj hl (mirs_nodup l l.length)).mp (e.trans h.symm)
theorem idx_text {l t u : List Nat} {j : Nat} (h : (mirs l l.length)[j]? = some t) (hu : u ∈ mirs l l.length) (e : (mirs l l.length).idxOf u = j) : u = t := by
  have hl := List.idxOf_lt_length_of_mem hu
  have e2 : (mirs l l.length)[(mirs l l.length).idxOf u]? = some u := by rw [List.getElem?_eq_getElem hl, List.getElem_idxOf]
  rw [e, h] at e2
  exact (Option.some.inj e2).symm
/-- at first: the tops -/
theorem hS_top {l t : List Nat} {k : Nat} (h : (mirs l l.length)[k]? = some t) : hS l (mirs l l.length).length t = (topsN l).count k := by
  have key : ∀ (g : Nat → Nat) (n : Nat), ((List.range n).map g).count k = sm n fun i => if g i = k then 1 else 0 := by
    intro g n
    induction n with
    | zero => rfl
    | succ n ih =>
      rw [List.range_succ, List.map_append, List.count_append, ih]
      show _ + List.count k [g n] = sm n _ + _
      rw [List.count_singleton]
      congr 1
      dsimp only
      by_cases e : g n = k
      · rw [if_pos e, if_pos (by rw [e]; exact beq_self_eq_true k)]
      · rw [if_neg e, if_neg (by intro z; exact e (eq_of_beq z))]
  unfold topsN
  rw [key]
  refine sm_congr fun i hi => ?_
  have h1 : 1 ≤ i + 1 := by omega
  have hc : i + 1 ≤ l.length := hi
  have htop : topT l (i + 1) ∈ endT l (i + 1) := (endT_iff h1 hc _).mpr (top_ends h1 hc)
  by_cases e : (mirs l l.length).idxOf (topT l (i + 1)) = k
  · have := idx_text h (endT_in h1 hc htop) e
    rw [if_pos e, if_pos (hB_iff.mpr ⟨this ▸ htop, .inl this.symm⟩)]
  · rw [if_neg e, if_neg]
    intro z
    obtain ⟨z1, z2⟩ := hB_iff.mp z
    rcases z2 with z2 | ⟨u, u1, u2, u3⟩
    · rw [← z2] at e; exact e (idx_at h)
    · have := List.idxOf_lt_length_of_mem (endT_in h1 hc u1); omega
/-- at a number's turn all that end with it have told it -/
theorem hB_self {l u : List Nat} {j c : Nat} (h1 : 1 ≤ c) (hc : c ≤ l.length) (h : (mirs l l.length)[j]? = some u) : hB l (j + 1) u c = true ↔ u ∈ endT l c := by
  refine ⟨fun z => (hB_iff.mp z).1, fun z => hB_iff.mpr ⟨z, ?_⟩⟩
  rcases from_top h1 hc z with e | ⟨v, v1, v2⟩
  · exact .inl e
  · refine .inr ⟨v, v1, v2, ?_⟩
    have hv := endT_in h1 hc v1
    have hl := List.idxOf_lt_length_of_mem hv
    have e2 : (mirs l l.length)[(mirs l l.length).idxOf v]? = some v := by rw [List.getElem?_eq_getElem hl, List.getElem_idxOf]
    exact elder_less e2 (by rw [v2, idxO_in (List.mem_of_getElem? h), idx_at h])
theorem hS_step {l t u : List Nat} {j : Nat} (hu : (mirs l l.length)[j]? = some u) (ht : t ≠ []) : hS l j t = hS l (j + 1) t + (if lessN u = t then hS l (j + 1) u else 0) := by
  by_cases e : lessN u = t
  · rw [if_pos e]
    unfold hS
    rw [← sm_plus]
    refine sm_congr fun i hi => ?_
    have h1 : 1 ≤ i + 1 := by omega
    have hc : i + 1 ≤ l.length := hi
    by_cases z : u ∈ endT l (i + 1)
    · have a : hB l j t (i + 1) = true := hB_iff.mpr ⟨e ▸ to_less h1 hc z (by rw [e]; exact ht), .inr ⟨u, z, e, by rw [idx_at hu]; exact Nat.le_refl _⟩⟩
      have b : ¬ hB l (j + 1) t (i + 1) = true := fun y => by
        rcases (hB_iff.mp y).2 with y | ⟨v, v1, v2, v3⟩
        · exact less_no_top h1 hc z (e.trans y)
        · have := less_one h1 hc v1 z (by rw [v2]; exact ht) (v2.trans e.symm)
          rw [this, idx_at hu] at v3; omega
      rw [if_pos a, if_neg b, if_pos ((hB_self h1 hc hu).mpr z)]
    · rw [if_neg (fun y => z ((hB_self h1 hc hu).mp y))]
      have : hB l j t (i + 1) = true ↔ hB l (j + 1) t (i + 1) = true := by
        rw [hB_iff, hB_iff]
        refine and_congr_right fun _ => or_congr_right ⟨fun ⟨v, v1, v2, v3⟩ => ⟨v, v1, v2, ?_⟩, fun ⟨v, v1, v2, v3⟩ => ⟨v, v1, v2, by omega⟩⟩
        have : (mirs l l.length).idxOf v ≠ j := fun y => z (idx_text hu (endT_in h1 hc v1) y ▸ v1)
        omega
      by_cases y : hB l j t (i + 1) = true
      · rw [if_pos y, if_pos (this.mp y)]
      · rw [if_neg y, if_neg (fun x => y (this.mpr x))]
  · rw [if_neg e]
    refine sm_congr fun i hi => ?_
    have h1 : 1 ≤ i + 1 := by omega
    have hc : i + 1 ≤ l.length := hi
    have : hB l j t (i + 1) = true ↔ hB l (j + 1) t (i + 1) = true := by
      rw [hB_iff, hB_iff]
      refine and_congr_right fun _ => or_congr_right ⟨fun ⟨v, v1, v2, v3⟩ => ⟨v, v1, v2, ?_⟩, fun ⟨v, v1, v2, v3⟩ => ⟨v, v1, v2, by omega⟩⟩
      have : (mirs l l.length).idxOf v ≠ j := fun y => e (idx_text hu (endT_in h1 hc v1) y ▸ v2)
      omega
    by_cases y : hB l j t (i + 1) = true
    · rw [if_pos y, if_pos (this.mp y)]
    · rw [if_neg y, if_neg (fun x => y (this.mpr x))]
theorem occ_sm (l t : List Nat) : (occF l t).length = sm l.length fun f => if (l.drop f).take t.length = t then 1 else 0 := by
  have key : ∀ n, ((List.range n).filter fun f => decide ((l.drop f).take t.length = t)).length = sm n fun f => if (l.drop f).take t.length = t then 1 else 0 := by
    intro n
    induction n with
    | zero => rfl
    | succ n ih =>
      rw [List.range_succ, List.filter_append, List.length_append, ih]
      show _ + _ = sm n _ + _
      congr 1
      dsimp only
      by_cases e : (l.drop n).take t.length = t
      · rw [if_pos e, List.filter_cons, if_pos (decide_eq_true e)]; rfl
      · rw [if_neg e, List.filter_cons, if_neg (by rw [decide_eq_false e]; decide)]; rfl
  exact key _
/-- at last: how often it stands -/
theorem hS_all {l t : List Nat} (ht : t ∈ mirs l l.length) : hS l 0 t = (occF l t).length := by
  obtain ⟨c0, g1, g2, g3⟩ := (mem_mirs (Nat.le_refl _) t).mp ht
  obtain ⟨hn, hp⟩ := g3.len g2
  have hlt : 1 ≤ t.length := List.length_pos_iff.mpr hn
  have hle : t.length ≤ l.length := by
    obtain ⟨k, k1, k2, k3, _⟩ := g3
    rw [k3, sub_len g2]; omega
  have key : ∀ i, i < l.length → ((hB l 0 t (i + 1) = true) ↔ t.length ≤ i + 1 ∧ (l.drop (i + 1 - t.length)).take t.length = t) := by
    intro i hi
    have h1 : 1 ≤ i + 1 := by omega
    have hc : i + 1 ≤ l.length := hi
    rw [hB_iff]
    constructor
    · rintro ⟨z, _⟩
      obtain ⟨k, k1, k2, k3, k4⟩ := (endT_iff h1 hc t).mp z
      have e : t.length = k := by rw [k3, sub_len hc]; omega
      refine ⟨by omega, ?_⟩
      have : (l.drop (i + 1 - k)).take (i + 1 - (i + 1 - k)) = t := k3.symm
      rw [e]; rw [show i + 1 - (i + 1 - k) = k by omega] at this; exact this
    · rintro ⟨z1, z2⟩
      have e : t = sub l (i + 1 - t.length) (i + 1) := by
        unfold sub
        rw [show i + 1 - (i + 1 - t.length) = t.length by omega]; exact z2.symm
      have z : t ∈ endT l (i + 1) := (endT_iff h1 hc t).mpr ⟨t.length, hlt, z1, e, (pal_iff hc).mp (by rw [← e]; exact hp)⟩
      refine ⟨z, ?_⟩
      rcases from_top h1 hc z with y | ⟨u, u1, u2⟩
      · exact .inl y
      · exact .inr ⟨u, u1, u2, Nat.zero_le _⟩
  rw [occ_sm]
  unfold hS
  have e1 : l.length = (t.length - 1) + (l.length - (t.length - 1)) := by omega
  have e2 : l.length = (l.length - (t.length - 1)) + (t.length - 1) := by omega
  have s1 : (sm l.length fun i => if hB l 0 t (i + 1) = true then 1 else 0) = sm (l.length - (t.length - 1)) fun f => if (l.drop f).take t.length = t then 1 else 0 := by
    have := sm_split (a := t.length - 1) (b := l.length - (t.length - 1)) (f := fun i => if hB l 0 t (i + 1) = true then 1 else 0)
    rw [← e1] at this
    rw [this, sm_zero (n := t.length - 1), Nat.zero_add]
    · refine sm_congr fun f hf => ?_
      have k := key (t.length - 1 + f) (by omega)
      rw [show t.length - 1 + f + 1 - t.length = f by omega] at k
      by_cases y : (l.drop f).take t.length = t
      · rw [if_pos y, if_pos (k.mpr ⟨by omega, y⟩)]
      · rw [if_neg y, if_neg (fun x => y (k.mp x).2)]
    · intro i hi
      rw [if_neg (fun x => by have := ((key i (by omega)).mp x).1; omega)]
  have s2 : (sm l.length fun f => if (l.drop f).take t.length = t then 1 else 0) = sm (l.length - (t.length - 1)) fun f => if (l.drop f).take t.length = t then 1 else 0 := by
    have := sm_split (a := l.length - (t.length - 1)) (b := t.length - 1) (f := fun f => if (l.drop f).take t.length = t then 1 else 0)
    rw [← e2] at this
    rw [this, sm_zero (n := t.length - 1), Nat.add_zero]
    intro i hi
    rw [if_neg]
    intro x
    have := congrArg List.length x
    rw [List.length_take, List.length_drop] at this
    omega
  rw [s1, s2]
end Mr

namespace Mr
open PySem L2
/-! how often each mirror stands, and the worthiest -/
theorem putAll_out : ∀ (ps : List (Str × V)) (kvs : List (Key × V)) (k : Str), k ∉ ps.map (·.1) → valV (putAll kvs ps) (Sum.inr k) = valV kvs (Sum.inr k)
  | [], _, _, _ => rfl
  | (k', v) :: r, kvs, k, h => by
    have h1 : k ≠ k' := fun z => h (by rw [z]; exact List.mem_cons_self)
    have h2 : k ∉ r.map (·.1) := fun z => h (List.mem_cons_of_mem _ z)
    show valV (putAll (putK kvs (Sum.inr k') v) r) (Sum.inr k) = _
    rw [putAll_out r _ k h2, valV_put, if_neg (fun z => h1 (Sum.inr.inj z))]
theorem putAll_in : ∀ (ps : List (Str × V)) (kvs : List (Key × V)) (k : Str) (v : V), (ps.map (·.1)).Nodup → (k, v) ∈ ps → valV (putAll kvs ps) (Sum.inr k) = some v
  | [], _, _, _, _, h => by cases h
  | (k', v') :: r, kvs, k, v, hn, h => by
    have hn' := List.nodup_cons.mp hn
    show valV (putAll (putK kvs (Sum.inr k') v') r) (Sum.inr k) = _
    rcases List.mem_cons.mp h with z | z
    · have z1 : k = k' := congrArg Prod.fst z
      have z2 : v = v' := congrArg Prod.snd z
      rw [z1, z2, putAll_out r _ k' hn'.1, valV_put, if_pos rfl]
    · exact putAll_in r _ k v hn'.2 z
def oftN (l t : List Nat) : Nat := (occF l t).length
theorem oftN_le (l t : List Nat) : oftN l t ≤ l.length := by
  unfold oftN occF
  exact Nat.le_trans (List.length_filter_le _ _) (by rw [List.length_range]; exact Nat.le_refl _)
def oftK (l : List Nat) : List (Key × V) := (mirs l l.length).map fun t => (Sum.inr (tx t), V.int ((oftN l t : Nat) : Int))
def spOften : Sp := fun vs H Q _ => ∃ l : List Nat, vs = [.str (tx l)] ∧ rowL l = true ∧ ∀ (d : Addr) (kvs : List (Key × V)) (H' : Hp), H d = none → H' d = some (.dK kvs) → kvs = oftK l → (∀ t ∈ mirs l l.length, valV kvs (Sum.inr (tx t)) = some (.int ((oftN l t : Nat) : Int))) → Same H H' → Q (.ref d) H'
/-- how many tops each number has had, after i of them -/
def cntN (l : List Nat) (i : Nat) : List Nat := (List.range (mirs l l.length).length).map fun k => ((topsN l).take i).count k
/-- what each number has, once all from j on have handed on -/
def hndN (l : List Nat) (j : Nat) : List Nat := (mirs l l.length).map fun t => hS l j t
theorem cntN_len (l : List Nat) (i : Nat) : (cntN l i).length = (mirs l l.length).length := by unfold cntN; rw [List.length_map, List.length_range]
theorem hndN_len (l : List Nat) (j : Nat) : (hndN l j).length = (mirs l l.length).length := by unfold hndN; rw [List.length_map]
theorem cntN_at {l : List Nat} {i k : Nat} (hk : k < (mirs l l.length).length) : (cntN l i)[k]? = some (((topsN l).take i).count k) := by
  unfold cntN
  rw [List.getElem?_map, List.getElem?_range hk]; rfl
theorem hndN_at {l t : List Nat} {j k : Nat} (h : (mirs l l.length)[k]? = some t) : (hndN l j)[k]? = some (hS l j t) := by
  unfold hndN
  rw [List.getElem?_map, h]; rfl
theorem lensV_set (ks : List Nat) (j k : Nat) : (lensV ks).set j (.int (k : Int)) = lensV (ks.set j k) := by
  unfold lensV
  rw [List.map_set]
theorem cntN_succ {l : List Nat} {i k : Nat} (h : (topsN l)[i]? = some k) : (cntN l i).set k (((topsN l).take i).count k + 1) = cntN l (i + 1) := by
  have hk := topsN_lt (List.mem_of_getElem? h)
  apply List.ext_getElem?
  intro j
  by_cases hj : j < (mirs l l.length).length
  · rw [List.getElem?_set, cntN_at hj, cntN_at hj, List.take_succ, h, List.count_append, cntN_len]
    show _ = some (_ + List.count j [k])
    rw [List.count_singleton]
    by_cases e : k = j
    · subst e
      rw [if_pos rfl, if_pos hk, if_pos (beq_self_eq_true k)]
    · rw [if_neg e, if_neg (fun z => e (eq_of_beq z))]; rfl
  · rw [List.getElem?_eq_none (by rw [List.length_set, cntN_len]; omega), List.getElem?_eq_none (by rw [cntN_len]; omega)]
theorem cntN_all (l : List Nat) : cntN l (topsN l).length = hndN l (mirs l l.length).length := by
  apply List.ext_getElem?
  intro j
  by_cases hj : j < (mirs l l.length).length
  · rw [cntN_at hj, hndN_at (List.getElem?_eq_getElem hj), List.take_of_length_le (Nat.le_refl _), hS_top (List.getElem?_eq_getElem hj)]
  · rw [List.getElem?_eq_none (by rw [cntN_len]; omega), List.getElem?_eq_none (by rw [hndN_len]; omega)]
theorem mirs_ne {l t : List Nat} {k : Nat} (h : (mirs l l.length)[k]? = some t) : t ≠ [] := fun z => no_nil (Nat.le_refl _) (z ▸ List.mem_of_getElem? h)
theorem hnd_none {l u : List Nat} {j : Nat} (hu : (mirs l l.length)[j]? = some u) (h : idxO (mirs l l.length) (lessN u) = none) : hndN l j = hndN l (j + 1) := by
  unfold hndN
  refine List.map_congr_left fun t ht => ?_
  have hn : t ≠ [] := fun z => no_nil (Nat.le_refl _) (z ▸ ht)
  rw [hS_step hu hn, if_neg (fun z => by rw [z, idxO_in ht] at h; cases h), Nat.add_zero]
theorem hnd_some {l u t : List Nat} {j k : Nat} (hu : (mirs l l.length)[j]? = some u) (h : idxO (mirs l l.length) (lessN u) = some k) (ht : (mirs l l.length)[k]? = some t) : (hndN l (j + 1)).set k (hS l (j + 1) t + hS l (j + 1) u) = hndN l j := by
  have hl : lessN u ∈ mirs l l.length := by
    by_cases z : lessN u ∈ mirs l l.length
    · exact z
    · rw [idxO_none z] at h; cases h
  rw [idxO_in hl] at h
  have e : lessN u = t := idx_text ht hl (Option.some.inj h)
  have hk : k < (mirs l l.length).length := (List.getElem?_eq_some_iff.mp ht).1
  apply List.ext_getElem?
  intro i
  by_cases hi : i < (mirs l l.length).length
  · have hi' := List.getElem?_eq_getElem hi
    rw [List.getElem?_set, hndN_at hi', hndN_at hi', hndN_len, hS_step hu (mirs_ne hi')]
    by_cases z : k = i
    · subst z
      have : (mirs l l.length)[k] = t := by rw [hi'] at ht; exact Option.some.inj ht
      rw [if_pos rfl, if_pos hk, this, if_pos e]
    · rw [if_neg z, if_neg (fun y => z (by rw [← Option.some.inj h, y]; exact idx_at hi'))]
      rfl
  · rw [List.getElem?_eq_none (by rw [List.length_set, hndN_len]; omega), List.getElem?_eq_none (by rw [hndN_len]; omega)]
/-- the pairs that the dict is made of -/
def oftP (l : List Nat) : List (Str × V) := (mirs l l.length).map fun t => (tx t, V.int ((oftN l t : Nat) : Int))
theorem oftP_val {l : List Nat} : ∀ t ∈ mirs l l.length, valV (putAll [] (oftP l)) (Sum.inr (tx t)) = some (.int ((oftN l t : Nat) : Int)) := fun t ht => by
  refine putAll_in _ _ _ _ ?_ (List.mem_map.mpr ⟨t, ht, rfl⟩)
  unfold oftP
  rw [List.map_map]
  have : ∀ ms : List (List Nat), ms.Nodup → (ms.map tx).Nodup := by
    intro ms
    induction ms with
    | nil => intro _; exact List.nodup_nil
    | cons x r ih =>
      intro h
      rw [List.nodup_cons] at h
      rw [List.map_cons, List.nodup_cons]
      refine ⟨fun z => ?_, ih h.2⟩
      obtain ⟨y, hy, e⟩ := List.mem_map.mp z
      exact h.1 (tx_inj e ▸ hy)
  exact this _ (mirs_nodup l l.length)
theorem putK_new {kvs : List (Key × V)} {k : Key} {v : V} (h : valV kvs k = none) : putK kvs k v = kvs ++ [(k, v)] := by
  unfold putK
  rw [valV_any, h]
  rfl
theorem putAll_new : ∀ (ps : List (Str × V)) (kvs : List (Key × V)), (ps.map (·.1)).Nodup → (∀ p ∈ ps, valV kvs (Sum.inr p.1) = none) → putAll kvs ps = kvs ++ ps.map fun p => (Sum.inr p.1, p.2)
  | [], kvs, _, _ => (List.append_nil kvs).symm
  | (k, v) :: r, kvs, hn, h => by
    have hn' := List.nodup_cons.mp hn
    have h0 := h (k, v) List.mem_cons_self
    show putAll (putK kvs (Sum.inr k) v) r = _
    rw [putK_new h0, putAll_new r _ hn'.2 fun p hp => ?_, List.append_assoc]
    · rfl
    · rw [valV_snoc _ _ _ _ h0, if_neg (fun z => hn'.1 (List.mem_map.mpr ⟨p, hp, Sum.inr.inj z⟩))]
      exact h p (List.mem_cons_of_mem _ hp)
theorem oftP_nodup (l : List Nat) : ((oftP l).map (·.1)).Nodup := by
  unfold oftP
  rw [List.map_map]
  have : ∀ ms : List (List Nat), ms.Nodup → (ms.map tx).Nodup := by
    intro ms
    induction ms with
    | nil => intro _; exact List.nodup_nil
    | cons x r ih =>
      intro h
      rw [List.nodup_cons] at h
      rw [List.map_cons, List.nodup_cons]
      refine ⟨fun z => ?_, ih h.2⟩
      obtain ⟨y, hy, e⟩ := List.mem_map.mp z
      exact h.1 (tx_inj e ▸ hy)
  exact this _ (mirs_nodup l l.length)
theorem oftP_eq (l : List Nat) : putAll [] (oftP l) = oftK l := by
  rw [putAll_new _ _ (oftP_nodup l) fun _ _ => rfl, List.nil_append]
  unfold oftP oftK
  rw [List.map_map]
  rfl
theorem oftK_val {l t : List Nat} (ht : t ∈ mirs l l.length) : valV (oftK l) (Sum.inr (tx t)) = some (.int ((oftN l t : Nat) : Int)) := by
  rw [← oftP_eq]; exact oftP_val t ht
/-! the worthiest: the first of the greatest -/
def wrtN (l t : List Nat) : Nat := t.length * oftN l t
def stepB (l t : List Nat) : Option (List Nat × Nat) → Option (List Nat × Nat)
  | none => some (t, wrtN l t)
  | some (u, w) => if w < wrtN l t then some (t, wrtN l t) else some (u, w)
def bestT (l : List Nat) : Nat → Option (List Nat × Nat)
  | 0 => none
  | i + 1 => match (mirs l l.length)[i]? with
    | none => bestT l i
    | some t => stepB l t (bestT l i)
theorem bestT_succ {l t : List Nat} {i : Nat} (h : (mirs l l.length)[i]? = some t) : bestT l (i + 1) = stepB l t (bestT l i) := by
  show (match (mirs l l.length)[i]? with
    | none => bestT l i
    | some t => stepB l t (bestT l i)) = _
  rw [h]
/-- the best so far as it lies in the heap -/
def BstV (H : Hp) (v : V) : Option (List Nat × Nat) → Prop
  | none => v = .non
  | some (t, w) => ∃ p, v = .ref p ∧ H p = some (.tup [.str (tx t), .int (w : Int)])
def bestD : Option (List Nat × Nat) → PyData
  | none => .none
  | some (t, w) => .tuple [.str (tx t), .int (w : Int)]
def spWorth : Sp := fun vs H Q _ => ∃ l : List Nat, vs = [.str (tx l)] ∧ rowL l = true ∧ ∀ (v : V) (H' : Hp), BstV H' v (bestT l (mirs l l.length).length) → Same H H' → Q v H'
end Mr

namespace L2
open PySem PySem.Spec PyProof.Rows
section
variable {X : Cx}
/-! a dict walked: it is frozen meanwhile -/
def Itf (d : Addr) (o : Obj) (kvs : List (Key × V)) : It :=
  ⟨fun i H => H d = some (.frz o (.dK kvs)) ∧ i < kvs.length, fun i H x H' => H' = H ∧ ∃ kv, kvs[i]? = some kv ∧ x = kV kv.1, fun i H => H d = some (.frz o (.dK kvs)) ∧ kvs.length ≤ i⟩
theorem rel_kV {P : Program} {w : World} {k : Key} {u : Value} (h : (mixKind P w).is k u = true) : RelV (kV k) u := by
  rcases keyIs_shape h with ⟨i, t, rfl, rfl⟩ | ⟨x, t, rfl, rfl⟩
  · exact ⟨t, rfl⟩
  · exact ⟨t, rfl⟩
theorem turn_dict {P : Program} {w : World} {K : PySem.W.Frag} {tg : Expr} (d it : Addr) (o : Obj) (kvs : List (Key × V)) (vs : List (Key × Value)) (ep : Nat) (hd : ∀ h : Heap, h.get? d = some o → h.DictAt (mixKind P w) d vs ep) (rel : KV kvs vs) :
    Turn P w K tg (Itf d o kvs) [it] it (fun i h => h.IsKeyIter it d i vs.length ep) where
  mem := by simp
  obj := fun i h st b hb => by
    have e : b = it := by simpa using hb
    subst e
    obtain ⟨o, e, c, d⟩ := st
    exact ⟨o, e, fun v z => by rw [d] at z; cases z⟩
  keep := fun i h h' st k => st.at fun o e => k it (by simp) o e
  item := by
    intro X hP hw hK hc i pins s σ H E I hf st hg
    subst hP hw hK
    obtain ⟨hH, hi⟩ := hg
    obtain ⟨ho, _⟩ := (show ObjOk X.prog X.w H s.heap d (.frz o (.dK kvs)) from I.hok d _ hH)
    obtain ⟨f0, f1, f2, f3, f4, f5⟩ := hf it (by simp)
    have hi' : i < vs.length := by rw [← rel.length]; exact hi
    have hk := congrArg (fun l => l[i]?) rel.keys
    rw [List.getElem?_map, List.getElem?_map, List.getElem?_eq_getElem hi, List.getElem?_eq_getElem hi'] at hk
    have hk' : kvs[i].1 = vs[i].1 := Option.some.inj hk
    refine wpAny_pyNext_dict_item st (hd _ ho) (k := vs[i].1) (v := vs[i].2) (List.getElem?_eq_getElem hi') fun key h' hkey st' sb => ?_
    have I1 : Inv X pins σ H { s with heap := h' } := I.turned (t' := s.toks) (fun b o hb e => (sb.2 b hb).trans e) f0 f1 f3 f4 f5
    obtain ⟨o', e, c, dd⟩ := id st'
    exact ⟨key, rfl, go_of (s := { s with heap := h' }) e c dd (by decide) ⟨kV vs[i].1, H, I1, rel_kV hkey, ⟨rfl, kvs[i], List.getElem?_eq_getElem hi, by rw [hk']⟩, st', fun b hb => (hf b hb).1⟩⟩
  done := by
    intro X hP hw hK hc i pins s σ H E I hf st hg
    subst hP hw hK
    obtain ⟨hH, hi⟩ := hg
    obtain ⟨ho, _⟩ := (show ObjOk X.prog X.w H s.heap d (.frz o (.dK kvs)) from I.hok d _ hH)
    obtain ⟨f0, f1, f2, f3, f4, f5⟩ := hf it (by simp)
    have hl := rel.length
    exact wpAny_pyNext_dict_end (I.ok.hd hc) st (hd _ ho) (List.getElem?_eq_none (by omega)) fun h' eb => ⟨rfl, I.turned (t' := s.toks) (fun b o hb e => eb b o hb e) f0 f1 f3 f4 f5⟩
  self := fun _ _ _ _ _ st h => wpAny_pyIter_keyiter st h
def iDict (tl : TE) : TI := fun σ H R => tl σ H fun x H1 => ∃ (d : Addr) (kvs : List (Key × V)), x = .ref d ∧ H1 d = some (.dK kvs) ∧ ∀ o, R (Itf d o kvs) (upd H1 d (.frz o (.dK kvs)))
theorem pi_dict {tg l : Expr} {tl : TE} (hl : PE X l tl) : PI X tg l (iDict tl) := by
  intro pins s σ H R I h
  refine thn (hl pins s σ H _ I h) fun v s1 h1 => ?_
  obtain ⟨x, H1, I1, r1, q1⟩ := h1
  obtain ⟨d, kvs, e, hq, q⟩ := q1
  subst e
  cases r1
  obtain ⟨z, nd, vs, rel, dd⟩ := dk_of I1.hok hq
  obtain ⟨ep, hm⟩ := dd.dictAt
  obtain ⟨o, es, ho, rest⟩ := id hm
  have I2 : Inv X pins σ (upd H1 d (.frz o (.dK kvs))) s1 := I1.write (x := d) (e := d) (o := .frz o (.dK kvs)) (t' := s1.toks) (by rw [hq]; exact True.intro) (.inl rfl) (fun b u _ e => e) ⟨o, ho⟩ ⟨ho, z, nd, vs, rel, dd⟩
  refine wpAny_pyIter_dict nd hm ?_
  refine ⟨s1.heap.objs.size, [s1.heap.objs.size], _, _, upd H1 d (.frz o (.dK kvs)), rfl, I2.kept (t' := s1.toks) fun b o e => Heap.get?_push_of_some _ e, turn_dict d _ o kvs vs ep (fun h e => ⟨o, es, e, rest⟩) rel, ⟨_, Heap.get?_push_size _ rfl, rfl, rfl⟩, fun b hb => ?_, q o⟩
  have e : b = s1.heap.objs.size := by simpa using hb
  subst e
  exact I2.fpOk (Nat.le_refl _) (I2.hok.fresh (Nat.le_refl _))
/-- and is its own again behind it, if it has come since the call -/
theorem Inv.thaw {pins : List (Addr × Obj)} {σ : St} {H : Hp} {s : Shared} {d : Addr} {o : Obj} {kvs : List (Key × V)} (I : Inv X pins σ H s) (h : H d = some (.frz o (.dK kvs))) (h0 : X.H₀ d = none) : Inv X pins σ (upd H d (.dK kvs)) s := by
  have no : ∀ b, H b = none → upd H d (.dK kvs) b = none := fun b e => by rw [upd_ne (fun z => by rw [z, h] at e; cases e)]; exact e
  have nd : ∀ b u, X.H₀ b = some u → b ≠ d := fun b u e z => by rw [z, h0] at e; cases e
  refine ⟨I.ok, I.os, I.bare, ⟨I.base.keep, I.base.slot, fun b ob e n hx => no b (I.base.free b ob e n hx), I.base.there, fun b xs e => by rw [upd_ne (nd _ _ e)]; exact I.base.tups b xs e, fun b ob u e => by rw [upd_ne (nd _ _ e)]; exact I.base.frzs b ob u e, fun b ps e => by rw [upd_ne (nd _ _ e)]; exact I.base.tbls b ps e⟩,
    I.loc, I.cell, no _ I.free, fun x c e => no _ (I.freeC x c e), fun p hp => ⟨(I.pin p hp).1, no _ (I.pin p hp).2.1, (I.pin p hp).2.2⟩, fun b u e => ?_, I.len⟩
  by_cases hb : b = d
  · subst hb
    rw [upd_same] at e
    cases e
    exact (show ObjOk X.prog X.w H s.heap b (.frz o (.dK kvs)) from I.hok b _ h).2
  · rw [upd_ne hb] at e
    exact (I.hok b u e).stay (fun c w hc qq => qq) (fun c qq => by rw [upd_ne (fun z => by rw [z, h] at qq; cases qq)]; exact qq) fun c xs qq => by rw [upd_ne (fun z => by rw [z, h] at qq; cases qq)]; exact qq
def tThaw (H₀ : Hp) (t : TE) : TE := fun σ H Q => t σ H fun v H' => ∃ (d : Addr) (o : Obj) (kvs : List (Key × V)), H' d = some (.frz o (.dK kvs)) ∧ H₀ d = none ∧ Q v (upd H' d (.dK kvs))
theorem pe_thaw {e : Expr} {t : TE} (he : PE X e t) : PE X e (tThaw X.H₀ t) := by
  intro pins s σ H Q I h
  refine thn (he pins s σ H _ I h) fun v s1 h1 => ?_
  obtain ⟨x, H1, I1, r1, d, o, kvs, e1, e2, q⟩ := h1
  exact ⟨x, _, I1.thaw e1 e2, r1, q⟩
theorem comp_dict {d : Addr} {o : Obj} {kvs : List (Key × V)} {σ : St} {ix : List Nat} {tt : TT} {te : TE} {H : Hp} {Z : List V → Hp → Prop} (hl : kvs.length ≤ sizeLine) (Pv : Nat → List V → Hp → Prop) (h0 : Pv 0 [] H) (hk : ∀ i ys H, Pv i ys H → H d = some (.frz o (.dK kvs)))
    (hs : ∀ i kv ys H (N : List V → Hp → Prop), kvs[i]? = some kv → ys.length ≤ i → Pv i ys H → (∀ ys' H', ys'.length ≤ i + 1 → Pv (i + 1) ys' H' → N ys' H') →
      tt ((cst ix σ).set 0 (some (kV kv.1))) H fun b H4 => if b = true then te ((cst ix σ).set 0 (some (kV kv.1))) H4 fun v H5 => N (ys ++ [v]) H5 else N ys H4)
    (hd : ∀ ys H, ys.length ≤ kvs.length → Pv kvs.length ys H → Z ys H) :
    ∃ W : Nat → Nat → List V → Hp → Prop, (∃ m, W 0 m [] H) ∧ ∀ i m ys H2, W i m ys H2 →
      ((Itf d o kvs).stop i H2 ∧ ys.length ≤ sizeLine ∧ Z ys H2) ∨
      ((Itf d o kvs).go i H2 ∧ ys.length ≤ sizeLine ∧ ∀ x H3, (Itf d o kvs).yld i H2 x H3 → tt ((cst ix σ).set 0 (some x)) H3 fun b H4 =>
        if b = true then te ((cst ix σ).set 0 (some x)) H4 fun v H5 => ∃ m', m' < m ∧ W (i + 1) m' (ys ++ [v]) H5 else ∃ m', m' < m ∧ W (i + 1) m' ys H4) := by
  refine ⟨fun i m ys H => m = kvs.length - i ∧ i ≤ kvs.length ∧ ys.length ≤ i ∧ Pv i ys H, ⟨kvs.length, by simp, Nat.zero_le _, Nat.le_refl _, h0⟩, ?_⟩
  rintro i m ys H ⟨rfl, hi, hy, p⟩
  have q := hk i ys H p
  by_cases hlt : i < kvs.length
  · refine .inr ⟨⟨q, hlt⟩, by omega, fun x H' y => ?_⟩
    obtain ⟨e, kv, y1, y2⟩ := y
    subst e y2
    exact hs i kv ys _ (fun ys' H5 => ∃ m', m' < kvs.length - i ∧ m' = kvs.length - (i + 1) ∧ i + 1 ≤ kvs.length ∧ ys'.length ≤ i + 1 ∧ Pv (i + 1) ys' H5) y1 hy p fun ys' H' h1 h2 => ⟨kvs.length - (i + 1), by omega, rfl, hlt, h1, h2⟩
  · have e : i = kvs.length := by omega
    subst e
    exact .inl ⟨⟨q, Nat.le_refl _⟩, by omega, hd ys H hy p⟩
end
end L2

namespace Mr
open PySem L2
/-! what is due: the first mirrors with how often they stand -/
def dueK (l : List Nat) (j : Nat) : List (Key × V) := ((mirs l l.length).take j).map fun t => (Sum.inr (tx t), V.int ((oftN l t : Nat) : Int))
end Mr

namespace Mr
open PySem L2
/-! how often: at its own turn, and what stands in it -/
theorem hB_nought {l t : List Nat} {c : Nat} (h1 : 1 ≤ c) (hc : c ≤ l.length) : hB l 0 t c = true ↔ t ∈ endT l c := by
  refine ⟨fun z => (hB_iff.mp z).1, fun z => hB_iff.mpr ⟨z, ?_⟩⟩
  rcases from_top h1 hc z with e | ⟨v, v1, v2⟩
  · exact .inl e
  · exact .inr ⟨v, v1, v2, Nat.zero_le _⟩
end Mr

namespace L2
open PySem PySem.Spec PyProof.Rows
section
variable {X : Cx}
end
end L2

namespace L2
open PySem PySem.Spec PyProof.Rows PySem.SeqAt PySem.MeetsSeq
/-! ### xs.count(n) of ints; xs[i] op= e -/
section
variable {X : Cx}
def rCountI : V → List V → Hp → VK → Prop := fun x vs H Q => ∃ (l : Addr) (ns : List Int) (n : Int), x = .ref l ∧ vs = [.int n] ∧ H l = some (.lst (ns.map V.int)) ∧ Q (.int (ns.count n : Nat)) H
end
end L2

namespace Mr
open PySem L2
/-- where a mirror stands -/
def spStrM : Sp := fun vs H Q _ => ∃ (l t : List Nat), vs = [.str (tx l), .str (tx t)] ∧ rowL l = true ∧ rowL t = true ∧ t ≠ [] ∧ t = t.reverse ∧ ∀ (p : Addr) (xs : List V) (H' : Hp), H p = none → H' p = some (.lst xs) → PairV H' xs (occN l t) → Same H H' → Q (.ref p) H'
end Mr

namespace L2
open PySem PySem.Spec PyProof.Rows
section
variable {X : Cx}
/-! a dict walked by a statement -/
def tThawS (H₀ : Hp) (t : TS) : TS := fun D σ H => t { D with nx := fun σ' H' => ∃ (d : Addr) (o : Obj) (kvs : List (Key × V)), H' d = some (.frz o (.dK kvs)) ∧ H₀ d = none ∧ D.nx σ' (upd H' d (.dK kvs)) } σ H
theorem thaw_eq {H : Hp} {d e : Addr} {u v w : HO} (hne : d ≠ e) (hd : H d = some w) : upd (upd (upd H d u) e v) d w = upd H e v := by
  funext b
  by_cases h1 : b = d
  · subst h1
    rw [upd_same, upd_ne hne, hd]
  · rw [upd_ne h1]
    by_cases h2 : b = e
    · subst h2; rw [upd_same, upd_same]
    · rw [upd_ne h2, upd_ne h1, upd_ne h2]
end
end L2

namespace L2
open PySem PySem.Spec PyProof.Rows PySem.W
section
variable {X : Cx}
theorem vals_of : ∀ {xs : List V} {us : List Value}, us.length = xs.length → (∀ (j : Nat) (x : V) (u : Value), xs[j]? = some x → us[j]? = some u → RelV x u) → Vals xs us
  | [], [], _, _ => .nil
  | [], _ :: _, h, _ => by simp at h
  | _ :: _, [], h, _ => by simp at h
  | x :: xs, u :: us, h, hv => .cons (hv 0 x u rfl rfl) (vals_of (by simpa using h) fun j y v a b => hv (j + 1) y v a b)
theorem kv_key : ∀ {kvs : List (Key × V)} {vs : List (Key × Value)} {j : Nat} {p : Key × V} {q : Key × Value}, KV kvs vs → kvs[j]? = some p → vs[j]? = some q → p.1 = q.1
  | _, _, 0, _, _, .cons h _, e1, e2 => by cases e1; cases e2; exact h.1
  | _, _, j + 1, _, _, .cons _ r, e1, e2 => kv_key (j := j) r e1 e2
  | _, _, _, _, _, .nil, e1, _ => by simp at e1
section
variable {pg : Program} {wd : World} {B : Around} {Fx : Value → Shared → Prop} {t : Shared} {ty : String} {src dd : Addr} {n : Nat} {P : Nat → Value → Prop} {Okk : Heap → Prop}
/-- all that a source tells, in an array, and the heap has grown -/
theorem gathered {R : List Value → Shared → Prop} (S : KdlSrc pg wd ty src dd n P Okk) (hB : B.handled = none) (hO : Okk t.heap) (few : n ≤ sizeLine)
    (go : ∀ (g : Heap) (k : Nat) (got : Array Value), t.heap.objs.size < g.objs.size → (∀ b o, t.heap.get? b = some o → g.get? b = some o) → ItemsOf P got n → R got.toList { t with heap := g, toks := k }) :
    wpAny (model pg wd) B (collect (.ref src)) R Fx t := by
  have th := S.there _ hO
  unfold collect
  refine wpAny_bind ?_
  refine wpAny_runValue ?_
  refine codeAny_builtin entry_proto_collect' ?_
  rw [Around.under_plainId PySem.F.plain_proto_collect _]
  show wpAny _ B.in1 (newList [] >>= fun q => again (.builtin "list.__iadd__" ⟨[q, .ref src], []⟩)) _ _ t
  refine wpAny_bind ?_
  refine wpAny_newObj_type ?_
  refine wpAny_pure ⟨plainId_quiet PySem.F.plain_list_iadd _, ?_⟩
  refine codeAny_builtin entry_list_iadd' ?_
  rw [Around.under_plainId PySem.F.plain_list_iadd _]
  have at0 : (t.heap.push { cls := .type "list", data := .seq ([] : List Value).toArray }).get? t.heap.objs.size = some { cls := .type "list", data := .seq #[] } := Heap.get?_push_size _ rfl
  show wpAny _ B.in1 (Builtin.List.listExtendWith (.ref t.heap.objs.size) (.ref src) (.ref t.heap.objs.size)) _ _ _
  have got := kdl_extend (A := B) (s := { t with heap := t.heap.push { cls := .type "list", data := .seq ([] : List Value).toArray } })
    (R := fun (res : Result) (t' : Shared) => ∃ (g : Heap) (k : Nat) (xs : Array Value) (c : Nat), res = .ok (.ret (.ref t.heap.objs.size)) ∧ t' = { t with heap := g, toks := k } ∧
      (∀ b o, t.heap.get? b = some o → g.get? b = some o) ∧ g.get? t.heap.objs.size = some { cls := .type "list", dict := none, data := .seq xs c, slots := #[] } ∧ ItemsOf P xs n)
    S hB (S.keep _ _ hO fun b _ o e => Heap.get?_push_of_some _ e) t.heap.objs.size (Nat.ne_of_gt th.1) (Nat.ne_of_gt th.2) (.ref t.heap.objs.size) 0 at0
    (fun g k xs c kp e its => ⟨g, k, xs, c, rfl, rfl, fun b o y => kp b o (Nat.ne_of_lt (Heap.lt_size y)) (Heap.get?_push_of_some _ y), e, its⟩) few
  refine wpAny_mono got (fun fin t' z => ?_) (fun e t' z => ?_)
  · cases fin with
    | done f =>
      obtain ⟨g, k, xs, c, y, rfl, kp, e, its⟩ := z
      cases y
      show wpAny _ B (load t.heap.objs.size >>= _) _ _ _
      exact wpAny_bind (wpAny_load e (wpAny_pure (go g k xs (Heap.lt_size e) kp its)))
    | again c₁ =>
      refine ⟨z.1, codeAny_mono z.2 fun res t₂ y => ?_⟩
      obtain ⟨g, k, xs, c, rfl, rfl, kp, e, its⟩ := y
      show wpAny _ B (load t.heap.objs.size >>= _) _ _ _
      exact wpAny_bind (wpAny_load e (wpAny_pure (go g k xs (Heap.lt_size e) kp its)))
  · obtain ⟨_, _, _, _, y, _⟩ := z
    cases y
end
/-- sorted(d), a dict of texts -/
theorem call_sortedD (hc : X.calm = true) : CallR X (.builtin "sorted") (fun xs H Q => ∃ (d : Addr) (ts : List (List Nat)) (kvs : List (Key × V)), xs = [.ref d] ∧ H d = some (.dK kvs) ∧ kvs.map (·.1) = ts.map (fun t => (Sum.inr (tx t) : Key)) ∧ ts.length < 64 ∧ ∀ (l : Addr) (ss : List Str), ss.Perm (ts.map tx) → sortedS ss = true → H l = none → Q (.ref l) (upd H l (.lst (ss.map V.str)))) := by
  intro pins s σ H xs us Q I r h
  obtain ⟨d, ts, kvs, rfl, hH, hk, hl, q⟩ := h
  obtain ⟨u, rfl, rx⟩ := vals1 r
  cases rx
  obtain ⟨z, nd, vs, rel, dd⟩ := dk_of I.hok hH
  obtain ⟨ep, hm⟩ := dd.dictAt
  have hlk : kvs.length = ts.length := by have := congrArg List.length hk; rwa [List.length_map, List.length_map] at this
  have hvl : vs.length = ts.length := by rw [← rel.length]; exact hlk
  refine Calls.call_function_entry kind_sorted plain_sorted entry_sorted (args_sorted1 _) ?_
  unfold Builtin.«sorted»
  refine wpAny_bind (m := checkCount "sorted" 1 1 _) (wpAny_pure ?_)
  refine wpAny_bind (gathered (kdl_dict (knd := mixKind X.prog X.w) (kvs := vs) (ep := ep) nd) (I.ok.hd hc) hm (by rw [hvl, sizeLine_eq]; omega) fun h' tk acc hle0 hkp hacc => ?_)
  have hrv : Vals (ts.map fun t => V.str (tx t)) acc.toList := by
    refine vals_of (by rw [Array.length_toList, hacc.1, hvl, List.length_map]) fun j x u hx hu => ?_
    rw [List.getElem?_map] at hx
    cases ht : ts[j]? with
    | none => rw [ht] at hx; cases hx
    | some t =>
      rw [ht] at hx
      cases hx
      obtain ⟨k, y, e1, e2⟩ := hacc.2 j u (by rw [← Array.getElem?_toList]; exact hu)
      have hkj : k = Sum.inr (tx t) := by
        have hj : j < kvs.length := by rw [hlk]; exact (List.getElem?_eq_some_iff.mp ht).1
        have a1 : (kvs.map (·.1))[j]? = some (Sum.inr (tx t)) := by rw [hk, List.getElem?_map, ht]; rfl
        rw [List.getElem?_map, List.getElem?_eq_getElem hj] at a1
        have a2 : kvs[j].1 = Sum.inr (tx t) := Option.some.inj a1
        have a3 := kv_key rel (List.getElem?_eq_getElem hj) e1
        exact a3.symm.trans a2
      subst hkj
      exact rel_kV e2
  have hS := strs_are hrv
  have h64 : acc.toList.length < 64 := by rw [Array.length_toList, hacc.1, hvl]; exact hl
  refine wpAny_bind (wpAny_newList ?_ (by rw [sizeLine_eq]; omega))
  have hoL : (h'.push (seqObj "list" acc.toList.toArray 0)).get? h'.objs.size = some (seqObj "list" acc.toList.toArray 0) := Heap.get?_push_size _ rfl
  have hle : s.heap.objs.size ≤ h'.objs.size := Nat.le_of_lt hle0
  show wpAny _ _ _ _ _ { s with heap := h'.push (seqObj "list" acc.toList.toArray 0), toks := tk }
  refine wpAny_bind (wpAny_holding (wpAny_call_entry slot_list_sort ⟨_, hoL, rfl⟩ entry_list_sort (list_sort_treeK strKind_oneLt hoL hS.keysOf (fun v₁ v₂ rest e => keyKind_strs (by rw [← e]; exact hS)) h64 fun st' a1 a2 => ⟨_, rfl, ?_⟩) (args_list_sort _)))
  obtain ⟨ss, b1, b2, b3⟩ := sorted_out_str hS a1 a2
  obtain ⟨e, he⟩ := sortedHeap_at (out := (arrOf st').map (·.2)) hoL
  have hs : ss.length = ts.length := by rw [b2.length_eq, List.length_map]
  refine wpAny_pure ⟨_, rfl, .ref _, _, I.laid (t' := tk) (o := .lst (ss.map V.str)) (fun b ob qq => ?_) hle ?_, rfl, q _ ss b2 b3 (I.hok.fresh hle)⟩
  · have hb := hkp b ob qq
    have hlt := Heap.lt_size hb
    rw [sortedHeap_old (Nat.ne_of_lt hlt) (by rw [size_push']; exact Nat.lt_succ_of_lt hlt), Heap.get?_push_ne _ _ _ (Nat.ne_of_lt hlt)]
    exact hb
  · exact ⟨by rw [List.length_map, sizeLine_eq]; omega, ((arrOf st').map (·.2)).toList, e, are_vals b1, by rw [he, Array.toArray_toList]⟩
end
end L2

namespace Mr
open PySem L2
/-! all together: how often, how deep, the worthiest -/
theorem sum_ite {α : Type} (p : α → Bool) : ∀ xs : List α, (xs.map fun x => if p x = true then 1 else 0).sum = (xs.filter p).length
  | [] => rfl
  | x :: r => by
    rw [List.map_cons, List.sum_cons, List.filter_cons, sum_ite p r]
    by_cases h : p x = true
    · rw [if_pos h, if_pos h, List.length_cons]; omega
    · rw [if_neg h, if_neg h]; omega
theorem endT_lens {l : List Nat} {c : Nat} (h1 : 1 ≤ c) (hc : c ≤ l.length) : (endT l c).map List.length = endsN (topT l c) := by
  unfold endT
  rw [List.map_map]
  have : ∀ ks : List Nat, (∀ k ∈ ks, k ≤ (topT l c).length) → ks.map (List.length ∘ fun k => (topT l c).take k) = ks := by
    intro ks h
    induction ks with
    | nil => rfl
    | cons k r ih =>
      rw [List.map_cons, ih fun y hy => h y (List.mem_cons_of_mem _ hy)]
      have := h k List.mem_cons_self
      show ((topT l c).take k).length :: r = k :: r
      rw [List.length_take, Nat.min_eq_left this]
  refine this _ fun k hk => ?_
  obtain ⟨i, hi⟩ := List.mem_iff_getElem?.mp hk
  exact (end_text h1 hc hi).2.2
theorem endT_nodup {l : List Nat} {c : Nat} (h1 : 1 ≤ c) (hc : c ≤ l.length) : (endT l c).Nodup := by
  have h := ends_nodup (topT l c)
  rw [← endT_lens h1 hc] at h
  exact (List.pairwise_map.mp h).imp fun h e => h (congrArg _ e)
theorem endT_count {l : List Nat} {c : Nat} (h1 : 1 ≤ c) (hc : c ≤ l.length) : ((mirs l l.length).map fun t => if hB l 0 t c = true then 1 else 0).sum = (endsN (l.take c)).length := by
  rw [sum_ite (fun t => hB l 0 t c)]
  have hp : ((mirs l l.length).filter fun t => hB l 0 t c).Perm (endT l c) := by
    refine (List.perm_ext_iff_of_nodup ((mirs_nodup l l.length).filter _) (endT_nodup h1 hc)).mpr fun t => ?_
    rw [List.mem_filter]
    exact ⟨fun z => (hB_nought h1 hc).mp z.2, fun z => ⟨endT_in h1 hc z, (hB_nought h1 hc).mpr z⟩⟩
  rw [hp.length_eq, ← List.length_map (f := List.length), endT_lens h1 hc, (ends_top h1 hc).1]
theorem sm_range (f : Nat → Nat) : ∀ n, ((List.range n).map f).sum = sm n f
  | 0 => rfl
  | n + 1 => by rw [List.range_succ, List.map_append, List.sum_append, sm_range f n]; show sm n f + (f n + 0) = sm n f + f n; omega
theorem sum_smA {α : Type} {n : Nat} {g : Nat → α → Nat} : ∀ xs : List α, (xs.map fun t => sm n fun i => g i t).sum = sm n fun i => (xs.map (g i)).sum
  | [] => (sm_zero fun _ _ => rfl).symm
  | x :: r => by
    rw [List.map_cons, List.sum_cons, sum_smA r, ← sm_plus]
    exact sm_congr fun i _ => by rw [List.map_cons, List.sum_cons]
/-- how often all mirrors stand, together -/
theorem oft_sum (l : List Nat) : ((mirs l l.length).map (oftN l)).sum = manyN l := by
  rw [← deep_many]
  unfold deepN deepsN
  rw [sm_range]
  have e : (mirs l l.length).map (oftN l) = (mirs l l.length).map fun t => sm l.length fun i => if hB l 0 t (i + 1) = true then 1 else 0 := List.map_congr_left fun t ht => (hS_all ht).symm
  rw [e, sum_smA (g := fun i t => if hB l 0 t (i + 1) = true then 1 else 0)]
  exact sm_congr fun i hi => endT_count (by omega) (by omega)
/-- the way from a place's top is as long as the place is deep -/
theorem way_deep {l : List Nat} {i : Nat} (hi : i < l.length) : (dueW (mirs l l.length) (topT l (i + 1))).length = (endsN (l.take (i + 1))).length := by
  unfold dueW
  rw [List.length_map, (ends_top (l := l) (c := i + 1) (by omega) (by omega)).1]
theorem tops_text {l : List Nat} {i : Nat} (hi : i < l.length) : ∃ k, (topsN l)[i]? = some k ∧ (mirs l l.length)[k]? = some (topT l (i + 1)) := by
  have hm : topT l (i + 1) ∈ mirs l l.length := endT_in (by omega) (by omega) ((endT_iff (by omega) (by omega) _).mpr (top_ends (by omega) (by omega)))
  have hl := List.idxOf_lt_length_of_mem hm
  refine ⟨_, ?_, by rw [List.getElem?_eq_getElem hl, List.getElem_idxOf]⟩
  unfold topsN
  rw [List.getElem?_map, List.getElem?_range hi]; rfl
/-- the worthiest is the first of the greatest -/
theorem best_first {l : List Nat} : ∀ {i : Nat}, 0 < i → i ≤ (mirs l l.length).length → ∃ (j : Nat) (t : List Nat), j < i ∧ (mirs l l.length)[j]? = some t ∧ bestT l i = some (t, wrtN l t) ∧
    (∀ (k : Nat) (u : List Nat), k < i → (mirs l l.length)[k]? = some u → wrtN l u ≤ wrtN l t) ∧ (∀ (k : Nat) (u : List Nat), k < j → (mirs l l.length)[k]? = some u → wrtN l u < wrtN l t)
  | 0, h, _ => absurd h (Nat.lt_irrefl _)
  | i + 1, _, hi => by
    have hu : (mirs l l.length)[i]? = some (mirs l l.length)[i] := List.getElem?_eq_getElem (by omega)
    generalize (mirs l l.length)[i] = u at hu
    by_cases h0 : i = 0
    · subst h0
      refine ⟨0, u, by omega, hu, by rw [bestT_succ hu]; rfl, fun k v hk hv => ?_, fun k v hk _ => absurd hk (Nat.not_lt_zero _)⟩
      have : k = 0 := by omega
      subst this
      rw [hu] at hv
      cases hv
      exact Nat.le_refl _
    · obtain ⟨j, t, hj, ht, hb, h1, h2⟩ := best_first (l := l) (i := i) (by omega) (by omega)
      rw [bestT_succ hu, hb]
      by_cases hw : wrtN l t < wrtN l u
      · refine ⟨i, u, by omega, hu, by show (if wrtN l t < wrtN l u then _ else _) = _; rw [if_pos hw], fun k v hk hv => ?_, fun k v hk hv => ?_⟩
        · by_cases e : k = i
          · subst e; rw [hu] at hv; cases hv; exact Nat.le_refl _
          · have := h1 k v (by omega) hv; omega
        · have := h1 k v hk hv; omega
      · refine ⟨j, t, by omega, ht, by show (if wrtN l t < wrtN l u then _ else _) = _; rw [if_neg hw], fun k v hk hv => ?_, h2⟩
        by_cases e : k = i
        · subst e; rw [hu] at hv; cases hv; omega
        · exact h1 k v (by omega) hv
theorem mirs_some {l : List Nat} (h : l ≠ []) : 0 < (mirs l l.length).length := by
  have hl := List.length_pos_iff.mpr h
  obtain ⟨k, h1, h2⟩ := tops_text (l := l) (i := 0) hl
  have := (List.getElem?_eq_some_iff.mp h2).1
  omega
def wrtsN (l : List Nat) : List Nat := (mirs l l.length).map (wrtN l)
end Mr

namespace Mr
open PySem L2
def top (i : Nat) : Stmt := PySem.Challenge.pw_mirrorruns_k35_whole_all_together.main.body.getD i (.Pass ⟨0, 0, 0, 0⟩)
abbrev s_wall : Stmt := top 0
abbrev sWhole : Stmt := top 9
abbrev sIsRow : Stmt := top 13
abbrev sNeedRow : Stmt := top 14
abbrev sIsMirror : Stmt := top 15
abbrev s_need_mirror : Stmt := top 16
abbrev sBack : Stmt := top 17
abbrev s_reaches : Stmt := top 19
abbrev s_reach_around : Stmt := top 20
abbrev s_mirrors_many : Stmt := top 21
abbrev s_ends_ahead : Stmt := top 23
abbrev s_ends_by_place : Stmt := top 24
abbrev s_tree : Stmt := top 26
abbrev s_longest_entry : Stmt := top 27
abbrev s_way : Stmt := top 28
abbrev s_ends_with : Stmt := top 30
abbrev s_Grower_init : Stmt := inClass (top 31) 0
abbrev s_Grower_add : Stmt := inClass (top 31) 1
abbrev s_Grower_take : Stmt := inClass (top 31) 2
abbrev s_Grower_row : Stmt := inClass (top 31) 3
abbrev s_Grower_many : Stmt := inClass (top 31) 4
abbrev s_Grower_ends : Stmt := inClass (top 31) 5
abbrev s_Grower_tree : Stmt := inClass (top 31) 6
abbrev s_Grower_mirrors_many : Stmt := inClass (top 31) 7
abbrev s_often : Stmt := top 33
abbrev s_stretches : Stmt := top 34
abbrev s_deeps : Stmt := top 35
abbrev s_tops : Stmt := top 36
abbrev s_worthiest : Stmt := top 37
abbrev sCell : Stmt := top 39
abbrev sMix : Stmt := top 40
abbrev sBox : Stmt := top 41
abbrev sTake : Stmt := top 42
abbrev sBehind : Stmt := top 43
abbrev sAlike : Stmt := top 44
abbrev sClosed : Stmt := top 45
abbrev sRow : Stmt := top 46
abbrev sLaw : Stmt := top 47
end Mr

namespace Mr
open PySem L2
section
variable {P : Program} {w : World} {K : PySem.W.Frag} {mg : Str → Option Value} {base : Heap}
theorem scCell : FnScope ["_law_script", "_law_k"] ["_law_script", "_law_k"] (defScope sCell) := ⟨rfl, rfl, rfl, by decide +kernel, rfl, by decide +kernel, by decide +kernel⟩
theorem ok_cell (a : At K mg "_law_cell" sCell ["_law_script", "_law_k"]) (zl : mg "len" = none) : Df P w K mg base 1 "_law_cell" ["_law_script", "_law_k"] (spCell K) := by
  refine a.df fun f fd F => ?_
  refine F.ok scCell (fun vs H Q E h => ?_) (fun cdv A outer s H vs Q E hr h => ?_)
  · obtain ⟨_, _, _, rfl, _⟩ := h
    rfl
  · obtain ⟨a, ns, k, rfl, hS, h0, q⟩ := h
    refine ⟨_, pss_cons (ps_if (pt_cmpR op_lt (pv 1) (pe_callB call_len_seq (by rfl) zl bt_len (pa_cons (pv 0) pa_nil)) (nomark _)) (pss_one (ps_ret (pe_ix ix_list (pv 0) (pv 1) (fun _ _ => rfl)))) pss_nil) (pss_one (ps_ret pe_int)), ?_⟩
    refine ⟨_, rfl, _, rfl, a, _, rfl, .inl hS, _, _, rfl, rfl, _, rfl, ?_⟩
    refine ite2 (fun h1 => ?_) (fun _ => ?_)
    · obtain ⟨z, hz⟩ := int_at (ns := ns) h0 (of_decide_eq_true h1)
      exact ⟨_, rfl, _, rfl, a, _, _, _, rfl, rfl, hS, hz, q z⟩
    · exact q 0
end
end Mr

namespace Mr
open PySem L2
section
variable {P : Program} {w : World} {K : PySem.W.Frag} {mg : Str → Option Value} {base : Heap}
theorem scMix : FnScope ["_law_cell_here", "_law_k", "_law_some", "_law_stir"] ["_law_cell_here", "_law_k"] (defScope sMix) := ⟨rfl, rfl, rfl, by decide +kernel, rfl, by decide +kernel, by decide +kernel⟩
def mixes : List Int := [48271, 69621, 16807, 39373, 30269, 40014, 40692, 50021, 61687, 71993, 83869, 95561, 30307]
theorem ok_mix (a : At K mg "_law_mix" sMix ["_law_cell_here", "_law_k"]) : Df P w K mg base 1 "_law_mix" ["_law_cell_here", "_law_k"] spMix := by
  refine a.df fun f fd F => ?_
  refine F.ok scMix (fun vs H Q E h => ?_) (fun cdv A outer s H vs Q E hr h => ?_)
  · obtain ⟨_, _, rfl, _⟩ := h
    rfl
  · obtain ⟨c, k, rfl, h0, h1, q⟩ := h
    refine ⟨_, @pss_cons _ _ _ _ _ (@ps_set _ _ 2 _ _ _ _ scMix.nd rfl (Or.inl rfl) (@pe_lst _ _ _ _ (@pa_int _ _ _ _ _ _ (@pa_int _ _ _ _ _ _ (@pa_int _ _ _ _ _ _ (@pa_int _ _ _ _ _ _ (@pa_int _ _ _ _ _ _ (@pa_int _ _ _ _ _ _ (@pa_int _ _ _ _ _ _ (@pa_int _ _ _ _ _ _ (@pa_int _ _ _ _ _ _ (@pa_int _ _ _ _ _ _ (@pa_int _ _ _ _ _ _ (@pa_int _ _ _ _ _ _ (@pa_int _ _ _ _ _ _ pa_nil)))))))))))))) rfl (Or.inl rfl))
      (pss_cons (ps_set (i := 3) scMix.nd rfl (Or.inl rfl) (pe_op op_add (pe_op op_add (pe_op op_mul (pe_op op_add (pe_op op_mod (pv 0) pe_int) pe_int) (pe_ix ix_list (pv 2) (pe_op op_mod (pv 1) pe_int) (fun _ _ => rfl))) (pe_op op_mul pe_int (pv 1))) (pe_op op_mul pe_int (pe_op op_fdiv (pv 1) pe_int))))
      (pss_cons (ps_set (i := 3) scMix.nd rfl (Or.inl rfl) (pe_op op_mod (pv 3) pe_int))
      (pss_one (ps_ret (pe_op op_fdiv (pe_op op_mod (pe_op op_add (pe_op op_mul (pv 3) (pv 3)) (pe_op op_mul pe_int (pv 1))) pe_int) pe_int))))), ?_⟩
    refine ⟨by show 13 ≤ sizeLine; decide, fun p hp => ?_⟩
    obtain ⟨z, hz⟩ := int_at (ns := mixes) (k := k % 13) (Int.emod_nonneg _ (by decide)) (by have := Int.emod_lt_of_pos k (show (0 : Int) < 13 by decide); show k % 13 < 13; omega)
    have hc0 := Int.emod_nonneg c (show (2147483647 : Int) ≠ 0 by decide)
    have hc1 := Int.emod_lt_of_pos c (show (0 : Int) < 2147483647 by decide)
    refine ⟨_, rfl, _, _, rfl, rfl, (by show (0 : Int) < 2147483647; decide), _, _, rfl, rfl, _, rfl, _, rfl, _, _, rfl, rfl, (by show (0 : Int) < 13; decide), p, _, _, _, rfl, rfl, SqL.of upd_same, hz, _, _, rfl, rfl, .inl ⟨by omega, by omega⟩, _, rfl, _, _, rfl, rfl, .inl ⟨by decide, by decide⟩, _, _, rfl, rfl,
      _, rfl, _, _, rfl, rfl, ⟨by decide, by decide⟩, _, _, rfl, rfl, .inl ⟨by decide, by decide⟩, _, _, rfl, rfl, ?_⟩
    generalize hstir : (c % 2147483647 + 12345) * z + 977 * k + 7919 * (k / 13) = stir
    have s0 := Int.emod_nonneg stir (show (1000000007 : Int) ≠ 0 by decide)
    have s1 := Int.emod_lt_of_pos stir (show (0 : Int) < 1000000007 by decide)
    refine ⟨_, rfl, _, _, rfl, rfl, (by show (0 : Int) < 1000000007; decide), _, rfl, _, rfl, _, _, rfl, rfl, .inl ⟨by omega, by omega⟩, _, rfl, _, _, rfl, rfl, .inl ⟨by decide, by decide⟩, _, _, rfl, rfl, _, _, rfl, rfl, (by show (0 : Int) < 1000000007; decide), _, _, rfl, rfl, ⟨by decide, by decide⟩, ?_⟩
    exact q _ _ (Int.ediv_nonneg (Int.emod_nonneg _ (by decide)) (by decide)) (Same.upd hp)
end
end Mr

namespace Mr
open PySem L2
section
variable {P : Program} {w : World} {K : PySem.W.Frag} {mg : Str → Option Value} {base : Heap}
theorem scBox : FnScope ["_law_script", "_law_k", "_law_cell_here", "_law_number", "_law_j"] ["_law_script", "_law_k"] (defScope sBox) := ⟨rfl, rfl, rfl, by decide +kernel, rfl, by decide +kernel, by decide +kernel⟩
theorem ok_box (a : At K mg "_law_box" sBox ["_law_script", "_law_k"]) (dC : Df P w K mg base 1 "_law_cell" ["_law_script", "_law_k"] (spCell K)) (dM : Df P w K mg base 1 "_law_mix" ["_law_cell_here", "_law_k"] spMix) (za : mg "abs" = none) (zr : mg "range" = none) :
    Df P w K mg base 2 "_law_box" ["_law_script", "_law_k"] (spBox K) := by
  refine a.df fun f fd F => ?_
  refine F.ok scBox (fun vs H Q E h => ?_) (fun cdv A outer s H vs Q E hr h => ?_)
  · obtain ⟨_, _, _, rfl, _⟩ := h
    rfl
  · obtain ⟨a, ns, k, rfl, hS, h0, q⟩ := h
    refine ⟨_, pss_cons (ps_set (i := 2) scBox.nd rfl (Or.inl rfl) (pe_df dC hr rfl (pa_cons (pv 0) (pa_cons (pv 1) pa_nil))))
      (pss_cons (ps_if (pt_cmpR op_eq (pe_op op_mod (pv 2) pe_int) pe_int (nomark _)) (pss_one (ps_ret (pe_lst (pa_cons (pe_op op_fdiv (pe_callB call_abs (by rfl) za bt_abs (pa_cons (pv 2) pa_nil)) pe_int) pa_nil)))) pss_nil)
      (pss_cons (ps_set (i := 3) scBox.nd rfl (Or.inl rfl) pe_int)
      (pss_cons (ps_for PassesOwn.never rfl (pi_range1 rfl zr (pa_cons pe_int pa_nil)) (pg_name (i := 4) scBox.nd rfl (Or.inl rfl))
        (pss_one (ps_set (i := 3) scBox.nd rfl (Or.inl rfl) (pe_op op_add (pe_op op_mul (pv 3) pe_int) (pe_df dM hr rfl (pa_cons (pv 2) (pa_cons (pv 4) pa_nil)))))))
      (pss_one (ps_ret (pe_lst (pa_cons (pv 3) pa_nil))))))), ?_⟩
    refine ⟨_, rfl, _, rfl, a, ns, k, rfl, hS, h0, fun c => ?_⟩
    refine ⟨_, rfl, _, _, rfl, rfl, (by show (0 : Int) < 2; decide), rfl, _, rfl, ?_⟩
    refine ite2 (fun _ => ?_) (fun _ => ?_)
    · refine ⟨_, rfl, _, rfl, _, _, rfl, rfl, ⟨by decide, by decide⟩, by show 1 ≤ sizeLine; decide, fun p hp => ?_⟩
      refine q p _ _ (Int.ediv_nonneg ?_ (by decide)) hp upd_same (Same.upd hp)
      split <;> omega
    · refine ⟨40, rfl, by decide, by decide, for_range (n := 40) (fun i σ H' => ∃ (n : Int) (j : Option V), 0 ≤ n ∧ σ = [some (.ref a), some (.int k), some (.int c), some (.int n), j] ∧ Same H H') ⟨0, none, Int.le_refl _, rfl, Same.refl _⟩ ?_ ?_⟩
      · rintro i σ H' hi ⟨n, j, hn, rfl, hs⟩
        refine ⟨_, rfl, _, _, rfl, rfl, .inr ⟨by decide, by decide⟩, _, rfl, _, rfl, c, 0 + (i : Int), rfl, by omega, by omega, fun m H'' hm hs' => ⟨_, _, rfl, rfl, ?_⟩⟩
        exact ⟨_, _, Int.add_nonneg (Int.mul_nonneg hn (by decide)) hm, rfl, hs.trans hs'⟩
      · rintro σ H' ⟨n, j, hn, rfl, hs⟩
        exact ⟨_, rfl, by show 1 ≤ sizeLine; decide, fun p hp => q p n _ hn (hs.free hp) upd_same (hs.trans (Same.upd hp))⟩
end
end Mr

namespace Mr
open PySem L2
section
variable {P : Program} {w : World} {K : PySem.W.Frag} {mg : Str → Option Value} {base : Heap}
theorem scTake : FnScope ["_law_box_here", "_law_many", "_law_left", "_law_digit"] ["_law_box_here", "_law_many"] (defScope sTake) := ⟨rfl, rfl, rfl, by decide +kernel, rfl, by decide +kernel, by decide +kernel⟩
theorem ok_take (a : At K mg "_law_take" sTake ["_law_box_here", "_law_many"]) (zd : mg "divmod" = none) : Df P w K mg base 1 "_law_take" ["_law_box_here", "_law_many"] spTake := by
  refine a.df fun f fd F => ?_
  refine F.ok scTake (fun vs H Q E h => ?_) (fun cdv A outer s H vs Q E hr h => ?_)
  · obtain ⟨_, _, _, rfl, _⟩ := h
    rfl
  · obtain ⟨b, n, m, rfl, hb, h0, h1, h2, q⟩ := h
    refine ⟨_, pss_cons (ps_asg (pe_callB call_divmod (by rfl) zd bt_divmod (pa_cons (pe_ix ix_list (pv 0) pe_int (fun _ _ => rfl)) (pa_cons (pv 1) pa_nil)))
        (pg_tup rfl (pgs_cons (pg_name (i := 2) scTake.nd rfl (Or.inl rfl)) (pgs_cons (pg_name (i := 3) scTake.nd rfl (Or.inl rfl)) pgs_nil))))
      (pss_cons (ps_asg (pv 2) (pg_sub (pv 0) pe_int set_list)) (pss_one (ps_ret (pv 3)))), ?_⟩
    refine ⟨_, rfl, b, _, _, _, rfl, rfl, SqL.of hb, atI_nat (j := 0) rfl, _, rfl, _, _, rfl, ⟨h1, by omega⟩, fun p hp => ?_⟩
    have nb : b ≠ p := ne_of_none hb hp
    refine ⟨p, _, rfl, SqT.of upd_same, rfl, _, _, rfl, _, _, rfl, rfl, ?_⟩
    refine ⟨_, rfl, _, rfl, b, _, _, 0, rfl, rfl, (by rw [upd_ne nb]; exact hb), rfl, ?_⟩
    refine ⟨_, rfl, ?_⟩
    refine q _ (n / m) _ (Int.emod_nonneg _ (by omega)) (Int.emod_lt_of_pos _ h1) (Int.ediv_nonneg h0 (by omega)) upd_same fun c o e hc => ?_
    rw [upd_ne hc, upd_ne (ne_of_none e hp)]
    exact e
end
end Mr

namespace Mr
open PySem L2
section
variable {P : Program} {w : World} {K : PySem.W.Frag} {mg : Str → Option Value} {base : Heap}
theorem scBehind : FnScope ["_law_text", "_law_found", "_law_sign"] ["_law_text"] (defScope sBehind) := ⟨rfl, rfl, rfl, by decide +kernel, rfl, by decide +kernel, by decide +kernel⟩
theorem ok_behind (a : At K mg "_law_from_behind" sBehind ["_law_text"]) : Df P w K mg base 1 "_law_from_behind" ["_law_text"] spBehind := by
  refine a.df fun f fd F => ?_
  refine F.ok scBehind (fun vs H Q E h => ?_) (fun cdv A outer s H vs Q E hr h => ?_)
  · obtain ⟨_, rfl, _⟩ := h
    rfl
  · obtain ⟨l, rfl, hl, q⟩ := h
    refine ⟨_, pss_cons (ps_set (i := 1) scBehind.nd rfl (Or.inl rfl) pe_str) (pss_cons (ps_for PassesOwn.never rfl (pi_str (pv 0)) (pg_name (i := 2) scBehind.nd rfl (Or.inl rfl))
      (pss_one (ps_set (i := 1) scBehind.nd rfl (Or.inl rfl) (pe_op op_addS (pv 2) (pv 1))))) (pss_one (ps_ret (pv 1)))), ?_⟩
    refine ⟨_, rfl, l, rfl, for_str (l := l) (fun i σ H' => H' = H ∧ ∃ v, σ = [some (.str (tx l)), some (.str (tx (l.take i).reverse)), v]) ⟨rfl, none, by show _ = [some _, some (V.str (tx [])), none]; rw [← e_nil]; rfl⟩ ?_ ?_⟩
    · rintro i c σ H' hc ⟨rfl, v, rfl⟩
      have hi := (List.getElem?_eq_some_iff.mp hc).1
      refine ⟨_, rfl, _, rfl, [c], (l.take i).reverse, rfl, rfl, by simp; omega, rfl, some (.str (tx [c])), ?_⟩
      have e : [c] ++ (l.take i).reverse = (l.take (i + 1)).reverse := by
        rw [List.take_succ, hc]
        simp
      rw [e]; rfl
    · rintro σ H' ⟨rfl, v, rfl⟩
      refine ⟨_, rfl, ?_⟩
      rw [List.take_of_length_le (Nat.le_refl _)]
      exact q
end
end Mr

namespace Mr
open PySem L2
section
variable {P : Program} {w : World} {K : PySem.W.Frag} {mg : Str → Option Value} {base : Heap}
theorem scAlike : FnScope ["_law_text"] ["_law_text"] (defScope sAlike) := ⟨rfl, rfl, rfl, by decide +kernel, rfl, by decide +kernel, by decide +kernel⟩
theorem ok_alike (a : At K mg "_law_alike" sAlike ["_law_text"]) (zl : mg "len" = none) (zr : mg "range" = none) : Df P w K mg base 1 "_law_alike" ["_law_text"] spAlike := by
  refine a.df fun f fd F => ?_
  refine F.ok scAlike (fun vs H Q E h => ?_) (fun cdv A outer s H vs Q E hr h => ?_)
  · obtain ⟨_, rfl, _⟩ := h
    rfl
  · obtain ⟨l, rfl, hl, q⟩ := h
    have hz : l.length ≤ sizeLine := by rw [sizeLine_eq]; omega
    refine ⟨_, pss_one (ps_ret (pe_cmpR (op_eqL hr.units0)
      (pe_comp (ys := ["_law_text"]) (ix := [0]) ⟨rfl, by decide +kernel, rfl, by decide +kernel, rfl, by decide +kernel, ⟨rfl, trivial⟩, rfl, ⟨⟨rfl, rfl, rfl, rfl⟩, trivial⟩⟩ rfl
        (pi_range1 rfl zr (pa_cons (pe_op op_fdiv (pe_callB call_len_str (by rfl) zl bt_len (pa_cons (pv 0) pa_nil)) pe_int) pa_nil))
        (fun C fp s H => pts_one (pt_cmpR op_ne (pe_ix ix_strS (pv 1) (pv 0) (fun _ _ => rfl)) (pe_ix ix_strS (pv 1) (pe_op op_sub (pe_op op_sub (pe_callB call_len_str (by rfl) zl bt_len (pa_cons (pv 1) pa_nil)) pe_int) (pv 0)) (fun _ _ => rfl)) (nomark _)))
        (fun C fp s H => pe_int)) (pe_lst pa_nil) (nomark _))), ?_⟩
    have e2 : (((tx l).length : Int) / 2).toNat = l.length / 2 := by rw [tx_len]; omega
    refine ⟨_, rfl, tx l, rfl, (by rw [tx_len]; exact hz), _, _, rfl, rfl, ⟨by decide, by decide⟩, _, rfl, by rw [tx_len]; omega, by rw [tx_len]; omega, ?_⟩
    rw [e2]
    refine comp_range (lo := 0) (n := l.length / 2) (by omega) (fun i ys H' => H' = H ∧ (∀ y ∈ ys, y = V.int 1) ∧ (ys = [] ↔ ∀ k, k < i → l[k]? = l[l.length - 1 - k]?)) ⟨rfl, fun _ h => absurd h (by simp), ⟨fun _ k h => absurd h (Nat.not_lt_zero _), fun _ => rfl⟩⟩ ?_ ?_
    · rintro i ys H' N hi hy ⟨rfl, h1, h2⟩ hN
      have hi' : i < l.length := by omega
      have hj' : l.length - 1 - i < l.length := by omega
      have e3 : (((tx l).length : Int) - 1 - (0 + (i : Int))) = ((l.length - 1 - i : Nat) : Int) := by rw [tx_len]; omega
      refine ⟨_, rfl, _, rfl, l, _, l[i], rfl, rfl, hz, (by rw [Int.zero_add]; exact atI_nat (List.getElem?_eq_getElem hi')), _, rfl, _, rfl, tx l, rfl, (by rw [tx_len]; exact hz), _, _, rfl, rfl, _, rfl, _, _, rfl, rfl, l, _, l[l.length - 1 - i], rfl, rfl, hz, (by rw [e3]; exact atI_nat (List.getElem?_eq_getElem hj')), rfl, _, rfl, ?_⟩
      rw [dec_tx]
      by_cases he : l[i] = l[l.length - 1 - i]
      · rw [decide_eq_true (by rw [he] : [l[i]] = [l[l.length - 1 - i]])]
        refine iteF (hN ys _ (by omega) ⟨rfl, h1, ?_⟩)
        rw [h2]
        constructor
        · intro h k hk
          by_cases hki : k = i
          · subst hki
            rw [List.getElem?_eq_getElem hi', List.getElem?_eq_getElem hj', he]
          · exact h k (by omega)
        · intro h k hk
          exact h k (by omega)
      · rw [decide_eq_false (fun z => he (by simpa using z))]
        refine iteT (hN (ys ++ [V.int 1]) _ (by simp; omega) ⟨rfl, fun y hm => (List.mem_append.mp hm).elim (h1 y) fun z => by simpa using z, ?_⟩)
        constructor
        · intro h
          exact absurd h (by simp)
        · intro h
          have := h i (by omega)
          rw [List.getElem?_eq_getElem hi', List.getElem?_eq_getElem hj'] at this
          exact absurd (Option.some.inj this) he
    · rintro ys H' hy ⟨rfl, h1, h2⟩ p hp
      refine ⟨by show 0 ≤ sizeLine; omega, fun p2 hp2 => ?_⟩
      have np : p ≠ p2 := ne_of_none (H := upd H' p (.lst ys)) upd_same hp2
      refine ⟨p, p2, ys, [], rfl, rfl, SqL.of (by rw [upd_ne np]; exact upd_same), SqL.of upd_same, List.all_eq_true.mpr fun y hm => by rw [h1 y hm]; rfl, rfl, ?_⟩
      have e4 : eqVs ys [] = decide (l = l.reverse) := by
        rw [eqVs_nil]
        by_cases hy0 : ys = []
        · rw [decide_eq_true ((alike_iff l).mp (h2.mp hy0))]
          rw [hy0]; rfl
        · rw [decide_eq_false fun z => hy0 (h2.mpr ((alike_iff l).mpr z))]
          cases ys with
          | nil => exact absurd rfl hy0
          | cons _ _ => rfl
      rw [e4]
      exact q _ ((Same.upd hp).trans (Same.upd hp2))
end
end Mr

namespace Mr
open PySem L2
section
variable {P : Program} {w : World} {K : PySem.W.Frag} {mg : Str → Option Value} {base : Heap}
theorem scClosed : FnScope ["_law_text", "_law_at"] ["_law_text"] (defScope sClosed) := ⟨rfl, rfl, rfl, by decide +kernel, rfl, by decide +kernel, by decide +kernel⟩
theorem ok_closed (a : At K mg "_law_closed" sClosed ["_law_text"]) (dA : Df P w K mg base 1 "_law_alike" ["_law_text"] spAlike) (dB : Df P w K mg base 1 "_law_from_behind" ["_law_text"] spBehind) : Df P w K mg base 2 "_law_closed" ["_law_text"] spClosed := by
  refine a.df fun f fd F => ?_
  refine F.ok scClosed (fun vs H Q E h => ?_) (fun cdv A outer s H vs Q E hr h => ?_)
  · obtain ⟨_, rfl, _⟩ := h
    rfl
  · obtain ⟨l, rfl, hL, hl, q⟩ := h
    have hz : l.length ≤ sizeLine := by rw [sizeLine_eq]; omega
    refine ⟨_, pss_cons (ps_set (i := 1) scClosed.nd rfl (Or.inl rfl) pe_int)
      (pss_cons (ps_while PassesOwn.never (pt_not (pt_val (pe_df dA hr rfl (pa_cons (pe_slice sl_strS (pv 0) (po_some (pv 1)) po_none) pa_nil)))) (pss_one (ps_set (i := 1) scClosed.nd rfl (Or.inl rfl) (pe_op op_add (pv 1) pe_int))))
      (pss_one (ps_ret (pe_op op_addS (pv 0) (pe_df dB hr rfl (pa_cons (pe_slice sl_strS (pv 0) po_none (po_some (pv 1))) pa_nil)))))), ?_⟩
    refine ⟨fun m σ H' => ∃ k : Nat, k ≤ l.length ∧ m = l.length - k ∧ σ = [some (.str (tx l)), some (.int (k : Int))] ∧ Same H H', ⟨l.length, 0, Nat.zero_le _, rfl, rfl, Same.refl _⟩, ?_⟩
    rintro m σ H' ⟨k, hk, rfl, rfl, hs⟩
    refine ⟨_, rfl, _, rfl, _, rfl, l, rfl, hz, _, rfl, ?_, fun H'' hs' => ⟨_, rfl, ?_⟩⟩
    · rw [cut_from, List.length_drop]; omega
    · rw [cut_from]
      refine ite2 (fun h1 => ?_) (fun _ => ?_)
      · have hk' : k < l.length := by
          apply Nat.lt_of_not_le
          intro hge
          rw [List.drop_eq_nil_of_le hge] at h1
          exact absurd h1 (by decide)
        refine ⟨fun σ' H3 => ∃ k' : Nat, k' = k + 1 ∧ σ' = [some (.str (tx l)), some (.int (k' : Int))] ∧ Same H H3, fun σ' H3 ⟨k', e1, e2, e3⟩ => ⟨l.length - k', by omega, k', by omega, rfl, e2, e3⟩, ?_⟩
        exact ⟨_, rfl, _, _, rfl, rfl, k + 1, rfl, rfl, hs.trans hs'⟩
      · refine ⟨_, rfl, _, rfl, _, rfl, _, rfl, l, rfl, hz, _, rfl, ?_, l, _, rfl, rfl, ?_, ?_⟩
        · rw [cut_to, List.length_take]; omega
        · rw [cut_to, List.length_reverse, List.length_take, sizeLine_eq]; omega
        · rw [cut_to]
          refine q _ _ (hL.app (hL.take k).rev) ?_ (hs.trans hs')
          rw [List.length_append, List.length_reverse, List.length_take]; omega
end
end Mr

namespace Mr
open PySem L2
section
variable {P : Program} {w : World} {K : PySem.W.Frag} {mg : Str → Option Value} {base : Heap}
theorem scRow : FnScope ["_law_box_here", "_law_most", "_law_sort", "_law_many", "_law_kinds", "_law_signs", "_law_half", "_law_piece", "_law_found", "_law_sign"] ["_law_box_here", "_law_most"] (defScope sRow) := ⟨rfl, rfl, rfl, by decide +kernel, rfl, by decide +kernel, by decide +kernel⟩
set_option maxHeartbeats 4000000 in
theorem ok_row (a : At K mg "_law_row" sRow ["_law_box_here", "_law_most"]) (dT : Df P w K mg base 1 "_law_take" ["_law_box_here", "_law_many"] spTake) (dB : Df P w K mg base 1 "_law_from_behind" ["_law_text"] spBehind)
    (dC : Df P w K mg base 2 "_law_closed" ["_law_text"] spClosed) (zr : mg "range" = none) : Df P w K mg base 3 "_law_row" ["_law_box_here", "_law_most"] spRow := by
  refine a.df fun f fd F => ?_
  refine F.ok scRow (fun vs H Q E h => ?_) (fun cdv A outer s H vs Q E hr h => ?_)
  · obtain ⟨_, _, _, rfl, _⟩ := h
    rfl
  · obtain ⟨b, n, most, rfl, hb, hn, hm0, hm1, q⟩ := h
    refine ⟨_, pss_cons (ps_set (i := 2) scRow.nd rfl (Or.inl rfl) (pe_df dT hr rfl (pa_cons (pv 0) (pa_cons pe_int pa_nil))))
      (pss_cons (ps_set (i := 3) scRow.nd rfl (Or.inl rfl) (pe_df dT hr rfl (pa_cons (pv 0) (pa_cons (pe_op op_add (pv 1) pe_int) pa_nil))))
      (pss_cons (ps_set (i := 4) scRow.nd rfl (Or.inr rfl) (pe_op op_add pe_int (pe_df dT hr rfl (pa_cons (pv 0) (pa_cons pe_int pa_nil)))))
      (pss_cons (ps_set (i := 5) scRow.nd rfl (Or.inl rfl) (pe_bm PySem.F.plainAttrs_str PySem.F.slot_str_join PySem.F.type_str_join mt_joinS pe_str (pa_cons
        (pe_comp (ys := ["_law_box_here", "_law_kinds"]) (ix := [0, 4]) ⟨rfl, by decide +kernel, rfl, by decide +kernel, rfl, by decide +kernel, ⟨rfl, rfl, trivial⟩, rfl, ⟨⟨rfl, rfl, rfl, rfl⟩, ⟨rfl, rfl, rfl, rfl⟩, trivial⟩⟩ rfl
          (pi_range1 rfl zr (pa_cons (pv 3) pa_nil)) (fun C fp s H => pts_nil)
          (fun C fp s H => pe_ix ix_strS pe_str (pe_df (X := cmpCx _ _ _ _ C fp s H) dT hr rfl (pa_cons (pv 1) (pa_cons (pv 2) pa_nil))) (fun _ _ => rfl))) pa_nil)))
      (pss_cons (ps_if (pt_cmpR op_eq (pv 2) pe_int (nomark _))
        (pss_cons (ps_set (i := 6) scRow.nd rfl (Or.inl rfl) (pe_slice sl_strS (pv 5) po_none (po_some (pe_op op_fdiv (pv 3) pe_int))))
        (pss_one (ps_ret (pe_op op_addS (pe_op op_addS (pv 6) (pe_slice sl_strS (pv 5) (po_some (pe_op op_fdiv (pv 3) pe_int)) (po_some (pe_op op_add (pe_op op_fdiv (pv 3) pe_int) (pe_op op_mod (pv 3) pe_int))))) (pe_df dB hr rfl (pa_cons (pv 6) pa_nil)))))) pss_nil)
      (pss_cons (ps_if (pw_and (pt_cmpR op_eq (pv 2) pe_int (nomark _)) (pw_and1 (pt_cmpR op_gt (pv 3) pe_int (nomark _)))).pt
        (pss_cons (ps_set (i := 7) scRow.nd rfl (Or.inl rfl) (pe_slice sl_strS (pv 5) po_none (po_some (pe_op op_add pe_int (pe_df dT hr rfl (pa_cons (pv 0) (pa_cons pe_int pa_nil)))))))
        (pss_one (ps_ret (pe_slice sl_strS (pe_op op_mulS (pv 7) (pv 3)) po_none (po_some (pv 3)))))) pss_nil)
      (pss_cons (ps_if (pt_cmpR op_eq (pv 2) pe_int (nomark _))
        (@pss_cons _ _ _ _ _ (@ps_set _ _ 8 _ _ _ _ scRow.nd rfl (Or.inl rfl) pe_str rfl (Or.inl rfl))
        (pss_cons (ps_for PassesOwn.never rfl (pi_str (pe_slice sl_strS (pv 5) po_none (po_some pe_int))) (pg_name (i := 9) scRow.nd rfl (Or.inl rfl))
          (pss_one (ps_set (i := 8) scRow.nd rfl (Or.inl rfl) (pe_df dC hr rfl (pa_cons (pe_op op_addS (pv 8) (pv 9)) pa_nil)))))
        (pss_one (ps_ret (pe_slice sl_strS (pv 8) po_none (po_some (pv 3))))))) pss_nil)
      (pss_one (ps_ret (pv 5))))))))), ?_⟩
    -- sort, many, kinds
    refine ⟨_, rfl, b, n, 6, rfl, hb, hn, by decide, by decide, fun d1 n1 H1 _ _ hn1 hb1 k1 => ?_⟩
    refine ⟨_, rfl, _, rfl, _, _, rfl, rfl, b, n1, most + 1, rfl, hb1, hn1, by omega, by omega, fun d2 n2 H2 hd2 hd2' hn2 hb2 k2 => ?_⟩
    refine ⟨_, rfl, b, n2, 3, rfl, hb2, hn2, by decide, by decide, fun d3 n3 H3 hd3 hd3' hn3 hb3 k3 => ⟨_, _, rfl, rfl, ?_⟩⟩
    obtain ⟨many, rfl⟩ := Int.eq_ofNat_of_zero_le hd2
    have kk : But b H H3 := (k1.trans k2).trans k3
    -- signs
    refine ⟨rfl, _, rfl, _, rfl, by omega, by omega, ?_⟩
    have e0 : ((many : Int)).toNat = many := by omega
    rw [e0]
    refine comp_range (lo := 0) (n := many) (by rw [sizeLine_eq]; omega) (fun i ys H' => ∃ (cs : List Nat) (n' : Int), ys = cs.map (fun c => V.str (tx [c])) ∧ Let cs ∧ cs.length = i ∧ 0 ≤ n' ∧ H' b = some (.lst [.int n']) ∧ But b H H')
      ⟨[], n3, rfl, Let.nil, rfl, hn3, hb3, kk⟩ ?_ ?_
    · rintro i ys H' N hi hy ⟨cs, n', rfl, hc, hl, hn', hb', k'⟩ hN
      refine yes_ok (iteT ?_)
      refine ⟨_, rfl, _, rfl, b, n', 1 + d3, rfl, hb', hn', by omega, by omega, fun d4 n4 H4 hd4 hd4' hn4 hb4 k4 => ?_⟩
      obtain ⟨c, hc1, hc2⟩ := at_ofInt (xs := [97, 98, 122]) hd4 (by show d4 < 3; omega)
      refine ⟨[97, 98, 122], _, c, congrArg V.str e_abz, rfl, by decide, hc1, ?_⟩
      refine hN _ _ (by simp; omega) ⟨cs ++ [c], n4, by simp, hc.app fun z hz => ?_, by simp; omega, hn4, hb4, k'.trans k4⟩
      have e : z = c := by simpa using hz
      subst e
      simp at hc2
      omega
    · rintro ys H' hy ⟨cs, n', rfl, hc, hl, hn', hb', k'⟩ p hp
      have nb : b ≠ p := ne_of_none hb' hp
      have e1 : cs.map (fun c => V.str (tx [c])) = (cs.map fun c => [c]).map fun z => V.str (tx z) := by rw [List.map_map]; rfl
      refine ⟨p, cs.map fun c => [c], congrArg V.str e_nil, rfl, SqL.of (by rw [upd_same, e1]), by rw [sum_one]; omega, ?_⟩
      rw [flat_one]
      have hb5 : (upd H' p (.lst (cs.map fun c => V.str (tx [c])))) b = some (.lst [.int n']) := by rw [upd_ne nb]; exact hb'
      have k5 : But b H (upd H' p (.lst (cs.map fun c => V.str (tx [c])))) := k'.trans (But.of (Same.upd hp))
      generalize upd H' p (.lst (cs.map fun c => V.str (tx [c]))) = H5 at hb5 k5
      have hz : cs.length ≤ sizeLine := by rw [sizeLine_eq]; omega
      -- sort == 3
      refine ⟨_, rfl, rfl, _, rfl, ite2 (fun _ => ?_) (fun _ => ?_)⟩
      · have e3 : ((many : Int) / 2) = ((many / 2 : Nat) : Int) := by omega
        have e4 : ((many : Int) / 2 + (many : Int) % 2) = ((many / 2 + many % 2 : Nat) : Int) := by omega
        refine ⟨_, rfl, _, rfl, _, _, rfl, rfl, ⟨by decide, by decide⟩, _, rfl, cs, rfl, hz, ?_⟩
        refine ⟨_, rfl, _, rfl, _, rfl, _, _, rfl, rfl, ⟨by decide, by decide⟩, _, rfl, _, rfl, _, _, rfl, rfl, ⟨by decide, by decide⟩, _, rfl, _, _, rfl, rfl, (by show (0 : Int) < 2; decide), _, _, rfl, rfl, _, rfl, cs, rfl, hz, _, _, rfl, rfl, ?_, _, rfl, _, rfl, ?_, _, _, rfl, rfl, ?_, ?_⟩
        all_goals try rw [e4]
        all_goals rw [e3]
        all_goals rw [cut_to]
        · have := cut_mid cs (many / 2) (many / 2 + many % 2)
          rw [List.length_take, sizeLine_eq]; omega
        · rw [List.length_take, sizeLine_eq]; omega
        · have := cut_mid cs (many / 2) (many / 2 + many % 2)
          rw [List.length_append, List.length_reverse, List.length_take, sizeLine_eq]; omega
        · have := cut_mid cs (many / 2) (many / 2 + many % 2)
          refine q _ n' H5 (((hc.take _).app (hc.cut _ _)).app (hc.take _).rev) ?_ hn' hb5 k5
          rw [List.length_append, List.length_append, List.length_reverse, List.length_take]; omega
      -- sort == 4 and many > 0
      refine ⟨_, rfl, rfl, _, rfl, ?_⟩
      refine (fun hR => ite2 (fun _ => ⟨_, rfl, _, _, rfl, rfl, _, rfl, ite2 (fun _ => ?four) (fun _ => hR)⟩) (fun _ => iteF hR)) ?five
      case four =>
        refine ⟨_, rfl, _, rfl, b, n', 4, rfl, hb5, hn', by decide, by decide, fun d6 n6 H6 hd6 hd6' hn6 hb6 k6 => ⟨_, _, rfl, rfl, _, rfl, cs, rfl, hz, ?_⟩⟩
        have hp := cut_le cs none (some (1 + d6))
        have hpl := hc.cut none (some (1 + d6))
        generalize cutL cs none (some (1 + d6)) = piece at hp hpl
        have hpm : piece.length * many ≤ 1000 * 1000 := Nat.mul_le_mul (by omega) (by omega)
        refine ⟨_, rfl, _, rfl, piece, (many : Int), rfl, rfl, by omega, by omega, ?_, _, rfl, _, rfl, _, rfl, ?_, ?_⟩
        all_goals rw [e0]
        · rw [sizeLine_eq]; omega
        · rw [repL_len, Nat.mul_comm, sizeLine_eq]; omega
        · rw [cut_to]
          refine q _ n6 H6 (Let.take (hpl.sub fun _ h => repL_mem h) _) ?_ hn6 hb6 (k5.trans k6)
          rw [List.length_take]; omega
      -- sort == 5
      case five =>
      refine ⟨_, rfl, rfl, _, rfl, ite2 (fun _ => ?_) (fun _ => ?_)⟩
      · have e6 : cutL cs none (some 6) = cs.take 6 := cut_to 6
        refine ⟨_, rfl, _, rfl, cs, rfl, hz, _, rfl, ?_⟩
        rw [e6]
        have h6 : (cs.take 6).length ≤ 6 := by rw [List.length_take]; omega
        have hc6 := hc.take 6
        generalize cs.take 6 = cs6 at h6 hc6
        refine for_str (l := cs6) (fun i σ H' => ∃ (fnd : List Nat) (v : Option V), Let fnd ∧ fnd.length + 2 ≤ 2 ^ (i + 1) ∧ σ = [some (.ref b), some (.int most), some (.int d1), some (.int (many : Int)), some (.int (1 + d3)), some (.str (tx cs)), none, none, some (.str (tx fnd)), v] ∧ H' b = some (.lst [.int n']) ∧ But b H H')
          ⟨[], none, Let.nil, by decide, by rw [← e_nil]; rfl, hb5, k5⟩ ?_ ?_
        · rintro i c σ H' hci ⟨fnd, v, hf, hfl, rfl, hb', k'⟩
          have hi := (List.getElem?_eq_some_iff.mp hci).1
          have hpw : 2 ^ (i + 1) ≤ 2 ^ 6 := Nat.pow_le_pow_right (by decide) (by omega)
          have hcl : Let [c] := fun z hz => by
            have e : z = c := by simpa using hz
            subst e
            exact hc6 z (List.mem_of_getElem? hci)
          refine ⟨_, rfl, _, rfl, fnd, [c], rfl, rfl, by rw [sizeLine_eq]; simp; omega, fnd ++ [c], rfl, hf.app hcl, by simp; omega, fun m H'' hm hml hs => ?_⟩
          refine ⟨m, _, hm, ?_, rfl, hs _ _ hb', k'.trans (But.of hs)⟩
          rw [List.length_append] at hml
          have : ([c] : List Nat).length = 1 := rfl
          have e7 : 2 ^ (i + 1 + 1) = 2 * 2 ^ (i + 1) := by rw [Nat.pow_succ]; omega
          omega
        · rintro σ H' ⟨fnd, v, hf, hfl, rfl, hb', k'⟩
          have hpw : 2 ^ (cs6.length + 1) ≤ 2 ^ 7 := Nat.pow_le_pow_right (by decide) (by omega)
          refine ⟨_, rfl, _, rfl, _, rfl, fnd, rfl, by rw [sizeLine_eq]; omega, ?_⟩
          rw [cut_to]
          refine q _ n' H' (hf.take _) ?_ hn' hb' k'
          rw [List.length_take]; omega
      · exact ⟨_, rfl, q _ n' H5 hc (by omega) hn' hb5 k5⟩
end
end Mr

namespace Mr
open PySem L2
section
variable {P : Program} {w : World} {K : PySem.W.Frag} {mg : Str → Option Value} {base : Heap}
theorem scIsRow : FnScope ["thing"] ["thing"] (defScope sIsRow) := ⟨rfl, rfl, rfl, by decide +kernel, rfl, by decide +kernel, by decide +kernel⟩
theorem ok_isrow (a : At K mg "is_row" sIsRow ["thing"]) (zi : mg "isinstance" = none) (zs : mg "str" = none) (zl : mg "len" = none) (za : mg "all" = none) {tM tL : Tok} (hM : mg "MOST_SIGNS" = some (.int 200 tM)) (hL : mg "LETTERS" = some (.str (tx lets) tL)) :
    Df P w K mg base 1 "is_row" ["thing"] (spIsRow K) := by
  refine a.df fun f fd F => ?_
  refine F.ok scIsRow (fun vs H Q E h => ?_) (fun cdv A outer s H vs Q E hr h => ?_)
  · obtain ⟨_, rfl, _⟩ := h
    rfl
  · obtain ⟨x, rfl, hT, q⟩ := h
    refine ⟨_, pss_cons (ps_if (pw_or (pt_not (pt_val (pe_callB call_isT (by rfl) zi bt_isinstance (pa_cons (pv 0) (pa_cons (pe_bltn (v := .ty "str") (by rfl) zs bt_str rfl) pa_nil)))))
        (pw_or1 (pt_cmpR op_gt (pe_callB call_len_str (by rfl) zl bt_len (pa_cons (pv 0) pa_nil)) (pe_glob (v := .int 200) (by rfl) hM ⟨_, rfl⟩) (nomark _)))).pt (pss_one (ps_ret pe_bl)) pss_nil)
      (pss_one (ps_ret (pe_callB (call_allB rfl) (by rfl) za bt_all (pa_cons (pe_comp (ys := []) (ix := []) ⟨rfl, by decide +kernel, rfl, by decide +kernel, rfl, by decide +kernel, trivial, rfl, trivial⟩ rfl
        (pi_str (pv 0)) (fun C fp s H => pts_nil) (fun C fp s H => pe_cmpR op_inS (pv 0) (pe_glob (X := cmpCx _ _ _ _ C fp s H) (v := .str (tx lets)) (by rfl) hL ⟨_, rfl⟩) (by with_unfolding_all rfl))) pa_nil)))), ?_⟩
    rcases hT with ⟨l, rfl, hl⟩ | ⟨hrow, _, t, ty, hk⟩
    · have hz : l.length ≤ sizeLine := by rw [sizeLine_eq]; omega
      refine ⟨_, rfl, _, "str", _, true, rfl, .str _, by rfl, _, rfl, iteF ?_⟩
      refine ⟨_, rfl, tx l, rfl, by rw [tx_len]; exact hz, _, _, rfl, rfl, _, rfl, ite2 (fun h1 => ?_) (fun h1 => ?_)⟩
      · have h2 : 200 < l.length := by have := of_decide_eq_true h1; rw [tx_len] at this; omega
        have e : rowV (.str (tx l)) = false := by
          show rowL l = false
          unfold rowL
          rw [decide_eq_false (by omega)]; rfl
        have q' := q H (Same.refl _)
        rw [e] at q'
        exact q'
      · have h2 : l.length ≤ 200 := by
          have : ¬ ((200 : Int) < ((tx l).length : Int)) := fun z => h1 (decide_eq_true z)
          rw [tx_len] at this; omega
        refine ⟨_, rfl, l, rfl, comp_str (l := l) hz (fun i ys H' => H' = H ∧ ys = (l.take i).map fun c => V.bl (decide (c ∈ lets))) ⟨rfl, rfl⟩ ?_ ?_⟩
        · rintro i c ys H' N hc hy ⟨rfl, rfl⟩ hN
          refine yes_ok (iteT ⟨_, rfl, c, lets, rfl, rfl, hN _ _ (by simp; omega) ⟨rfl, ?_⟩⟩)
          rw [List.take_succ, hc]
          simp
        · rintro ys H' hy ⟨rfl, rfl⟩ p hp
          refine ⟨p, l.map fun c => decide (c ∈ lets), rfl, SqL.of (by rw [upd_same, List.take_of_length_le (Nat.le_refl _), List.map_map]; rfl), ?_⟩
          have e : rowV (.str (tx l)) = (l.map fun c => decide (c ∈ lets)).all id := by
            show rowL l = _
            unfold rowL
            rw [decide_eq_true h2, Bool.true_and, List.all_map]; rfl
          rw [← e]
          exact q _ (Same.upd hp)
    · refine ⟨_, rfl, _, "str", _, false, rfl, ty, hk, _, rfl, iteT (iteT ?_)⟩
      have q' := q H (Same.refl _)
      rw [hrow] at q'
      exact q'
end
end Mr

namespace Mr
open PySem L2
section
variable {P : Program} {w : World} {K : PySem.W.Frag} {mg : Str → Option Value} {base : Heap}
theorem scNeed : FnScope ["thing"] ["thing"] (defScope sNeedRow) := ⟨rfl, rfl, rfl, by decide +kernel, rfl, by decide +kernel, by decide +kernel⟩
theorem ok_need (a : At K mg "need_row" sNeedRow ["thing"]) (dR : Df P w K mg base 1 "is_row" ["thing"] (spIsRow K)) : Df P w K mg base 2 "need_row" ["thing"] spNeed := by
  refine a.df fun f fd F => ?_
  refine F.ok scNeed (fun vs H Q E h => ?_) (fun cdv A outer s H vs Q E hr h => ?_)
  · obtain ⟨_, rfl, _⟩ := h
    rfl
  · obtain ⟨l, rfl, hrow, q⟩ := h
    refine ⟨_, pss_one (ps_if (pt_not (pt_val (pe_df dR hr rfl (pa_cons (pv 0) pa_nil)))) pss_never pss_nil), ?_⟩
    refine ⟨_, rfl, _, rfl, row_thing hrow, fun H' hs => ⟨_, rfl, ?_⟩⟩
    have e : rowV (.str (tx l)) = true := hrow
    rw [e]
    exact iteF (q H' hs)
end
end Mr

namespace Mr
open PySem L2
section
variable {P : Program} {w : World} {K : PySem.W.Frag} {mg : Str → Option Value} {base : Heap}
theorem scBack : FnScope ["row"] ["row"] (defScope sBack) := ⟨rfl, rfl, rfl, by decide +kernel, rfl, by decide +kernel, by decide +kernel⟩
theorem ok_back (a : At K mg "back" sBack ["row"]) (dN : Df P w K mg base 2 "need_row" ["thing"] spNeed) : Df P w K mg base 3 "back" ["row"] spBack := by
  refine a.df fun f fd F => ?_
  refine F.ok scBack (fun vs H Q E h => ?_) (fun cdv A outer s H vs Q E hr h => ?_)
  · obtain ⟨_, rfl, _⟩ := h
    rfl
  · obtain ⟨l, rfl, hrow, q⟩ := h
    have hz : l.length ≤ sizeLine := by have := (rowL_iff.mp hrow).1; rw [sizeLine_eq]; omega
    refine ⟨_, pss_cons (ps_expr (pe_df dN hr rfl (pa_cons (pv 0) pa_nil))) (pss_one (ps_ret (pe_rev (pv 0) (pe_un un_neg pe_int)))), ?_⟩
    exact ⟨_, rfl, l, rfl, hrow, fun H' hs => ⟨_, rfl, _, rfl, l, rfl, rfl, hz, q H' hs⟩⟩
end
end Mr

namespace Mr
open PySem L2
section
variable {P : Program} {w : World} {K : PySem.W.Frag} {mg : Str → Option Value} {base : Heap}
theorem scMirror : FnScope ["thing"] ["thing"] (defScope sIsMirror) := ⟨rfl, rfl, rfl, by decide +kernel, rfl, by decide +kernel, by decide +kernel⟩
theorem ok_mirror (a : At K mg "is_mirror" sIsMirror ["thing"]) (dR : Df P w K mg base 1 "is_row" ["thing"] (spIsRow K)) (dB : Df P w K mg base 3 "back" ["row"] spBack) : Df P w K mg base 4 "is_mirror" ["thing"] (spIsMirror K) := by
  refine a.df fun f fd F => ?_
  refine F.ok scMirror (fun vs H Q E h => ?_) (fun cdv A outer s H vs Q E hr h => ?_)
  · obtain ⟨_, rfl, _⟩ := h
    rfl
  · obtain ⟨x, rfl, hT, q⟩ := h
    refine ⟨_, pss_one (ps_ret (pe_and (pe_df dR hr rfl (pa_cons (pv 0) pa_nil)) (pe_and (pe_cmpR op_ne (pv 0) pe_str (nomark _)) (pe_one (pe_cmpR op_eq (pv 0) (pe_df dB hr rfl (pa_cons (pv 0) pa_nil)) (nomark _)))))), ?_⟩
    refine ⟨_, rfl, x, rfl, hT, fun H' hs => ⟨_, rfl, ?_⟩⟩
    have no : ∀ B : Prop, rowV x = false → mirV x = false → if rowV x = true then B else Q (.bl false) H' := fun B h1 h2 => by
      rw [h1]
      have q' := q H' hs
      rw [h2] at q'
      exact iteF q'
    rcases hT with ⟨l, rfl, hl⟩ | ⟨hrow, hmir, _⟩
    · by_cases hr' : rowL l = true
      · have e : rowV (.str (tx l)) = true := hr'
        rw [e]
        refine iteT ⟨_, rfl, rfl, _, rfl, ?_⟩
        have em : mirV (.str (tx l)) = (!decide (l = []) && decide (l = l.reverse)) := by
          show (rowL l && _) = _
          rw [hr', Bool.true_and]
        rw [e_nil, dec_tx]
        by_cases hn : l = []
        · rw [decide_eq_true hn]
          have q' := q H' hs
          rw [em, decide_eq_true hn] at q'
          exact iteF q'
        · rw [decide_eq_false hn]
          refine iteT ⟨_, rfl, _, rfl, l, rfl, hr', fun H'' hs' => ⟨rfl, ?_⟩⟩
          rw [dec_tx]
          have q' := q H'' (hs.trans hs')
          rw [em, decide_eq_false hn] at q'
          exact q'
      · have hr2 : rowL l = false := by simpa using hr'
        exact no _ hr2 (by show (rowL l && _) = false; rw [hr2]; rfl)
    · exact no _ hrow hmir
end
end Mr

namespace Mr
open PySem L2
section
variable {P : Program} {w : World} {K : PySem.W.Frag} {mg : Str → Option Value} {base : Heap}
theorem scRA : FnScope ["row", "middle", "first", "behind"] ["row", "middle"] (defScope s_reach_around) := ⟨rfl, rfl, rfl, by decide +kernel, rfl, by decide +kernel, by decide +kernel⟩
set_option maxHeartbeats 4000000 in
theorem ok_reach_around (a : At K mg "reach_around" s_reach_around ["row", "middle"]) (z_len : mg "len" = none) : Df P w K mg base 1 "reach_around" ["row", "middle"] spReachA := by
  refine a.df fun f fd F => ?_
  refine F.ok scRA (fun vs H Q E h => ?_) (fun cdv A outer s H vs Q E hr h => ?_)
  · obtain ⟨_, _, rfl, _⟩ := h
    rfl
  · obtain ⟨l, m, rfl, hrow, hm, q⟩ := h
    have hlen := (rowL_iff.mp hrow).1
    have hz : l.length ≤ sizeLine := by rw [sizeLine_eq]; omega
    refine ⟨_, (pss_cons (ps_set (i := 2) scRA.nd rfl (Or.inl rfl) (pe_op op_fdiv (pe_op op_add (pv 1) pe_int) pe_int))
      (pss_cons (ps_set (i := 3) scRA.nd rfl (Or.inl rfl) (pe_op op_sub (pe_op op_add (pv 1) pe_int) (pv 2)))
      (pss_cons (ps_while PassesOwn.never (PW.pt (pw_and (pt_cmpR op_gt (pv 2) pe_int (nomark _)) (pw_and (pt_cmpR op_lt (pv 3) (pe_callB call_len_str (by rfl) z_len bt_len (pa_cons (pv 0) pa_nil)) (nomark _)) (pw_and1 (pt_cmpR op_eq (pe_ix ix_strS (pv 0) (pe_op op_sub (pv 2) pe_int) (fun _ _ => rfl)) (pe_ix ix_strS (pv 0) (pv 3) (fun _ _ => rfl)) (nomark _)))))) (pss_cons (ps_set (i := 2) scRA.nd rfl (Or.inl rfl) (pe_op op_sub (pv 2) pe_int))
      (pss_one (ps_set (i := 3) scRA.nd rfl (Or.inl rfl) (pe_op op_add (pv 3) pe_int)))))
      (pss_one (ps_ret (pe_op op_sub (pv 3) (pv 2))))))), ?_⟩
    refine ⟨_, rfl, _, _, rfl, rfl, _, _, rfl, rfl, ⟨by decide, by decide⟩, ?_⟩
    refine ⟨_, rfl, _, _, rfl, rfl, _, rfl, _, _, rfl, rfl, ?_⟩
    have e1 : ((m : Int) + 1) / 2 = (((m + 1) / 2 : Nat) : Int) := by omega
    have e2 : (m : Int) + 1 - (((m + 1) / 2 : Nat) : Int) = ((m + 1 - (m + 1) / 2 : Nat) : Int) := by omega
    refine ⟨fun k σ H' => ∃ f b : Nat, k = f ∧ f ≤ b ∧ b ≤ l.length ∧ grow l f b = reachN l m ∧ σ = [some (.str (tx l)), some (.int (m : Int)), some (.int (f : Int)), some (.int (b : Int))] ∧ H' = H, ⟨(m + 1) / 2, (m + 1) / 2, m + 1 - (m + 1) / 2, rfl, by omega, by omega, rfl, ?_, rfl⟩, ?_⟩
    · show [some (V.str (tx l)), some (V.int (m : Int)), some (V.int (((m : Int) + 1) / 2)), some (V.int ((m : Int) + 1 - ((m : Int) + 1) / 2))] = _
      rw [e1, e2]
    rintro k σ H' ⟨x, y, ek, hfb, hb, hg, rfl, rfl⟩
    have out : (∀ y1 x1 : Nat, x = x1 + 1 → ¬ (y < l.length ∧ l[x1]? = l[y]?)) → Q (.int ((y : Int) - (x : Int))) H' := by
      intro h
      have e : reachN l m = y - x := by
        rw [← hg]
        cases x with
        | zero => rfl
        | succ x1 => unfold grow; rw [if_neg (h 0 x1 rfl)]
      have e3 : (y : Int) - (x : Int) = ((reachN l m : Nat) : Int) := by omega
      rw [e3]; exact q
    refine ⟨_, rfl, _, _, rfl, rfl, _, rfl, ite2 (fun h1 => ?_) (fun h1 => iteF ⟨_, rfl, _, rfl, _, _, rfl, rfl, out ?_⟩)⟩
    · have hf : 0 < x := by have := of_decide_eq_true h1; omega
      refine ⟨_, rfl, _, rfl, tx l, rfl, (by rw [tx_len]; exact hz), _, _, rfl, rfl, _, rfl, ite2 (fun h2 => ?_) (fun h2 => iteF ⟨_, rfl, _, rfl, _, _, rfl, rfl, out ?_⟩)⟩
      · have hb2 : y < l.length := by have := of_decide_eq_true h2; rw [tx_len] at this; omega
        have ef : (x : Int) - 1 = ((x - 1 : Nat) : Int) := by omega
        have g1 : l[x - 1]? = some l[x - 1] := List.getElem?_eq_getElem (by omega)
        have g2 : l[y]? = some l[y] := List.getElem?_eq_getElem (by omega)
        refine ⟨_, rfl, _, rfl, _, _, rfl, rfl, l, _, l[x - 1], rfl, rfl, hz, (by rw [ef, atI_nat]; exact g1), _, rfl, _, rfl, l, _, l[y], rfl, rfl, hz, (by rw [atI_nat]; exact g2), rfl, _, rfl, ?_⟩
        rw [dec_tx]
        refine ite2 (fun h3 => ?_) (fun h3 => ⟨_, rfl, _, rfl, _, _, rfl, rfl, out ?_⟩)
        · have h4 : l[x - 1]? = l[y]? := by rw [g1, g2]; have := of_decide_eq_true h3; injection this with h5; rw [h5]
          refine ⟨fun σ' H3 => σ' = [some (.str (tx l)), some (.int (m : Int)), some (.int ((x - 1 : Nat) : Int)), some (.int ((y + 1 : Nat) : Int))] ∧ H3 = H', fun σ' H3 ⟨e1, e2⟩ => ⟨x - 1, by omega, x - 1, y + 1, rfl, by omega, by omega, ?_, e1, e2⟩, ?_⟩
          · rw [← hg]
            obtain ⟨x1, rfl⟩ : ∃ x1, x = x1 + 1 := ⟨x - 1, by omega⟩
            rw [grow, if_pos ⟨hb2, h4⟩]
            rfl
          · refine ⟨_, rfl, _, _, rfl, rfl, _, rfl, _, _, rfl, rfl, ?_, rfl⟩
            show [some (V.str (tx l)), some (V.int (m : Int)), some (V.int ((x : Int) - 1)), some (V.int ((y : Int) + 1))] = _
            rw [ef]; rfl
        · intro _ x1 e ⟨_, h4⟩
          subst e
          apply h3
          rw [decide_eq_true]
          have x : x1 + 1 - 1 = x1 := rfl
          rw [g2] at h4
          have g1' : l[x1]? = some l[x1] := List.getElem?_eq_getElem (by omega)
          rw [g1'] at h4
          injection h4 with h5
          exact congrArg (fun c => [c]) h5
      · intro _ x1 e ⟨h3, _⟩
        apply h2
        apply decide_eq_true
        rw [tx_len]; omega
    · intro _ x1 e _
      apply h1
      apply decide_eq_true
      omega
end
end Mr

namespace Mr
open PySem L2
section
variable {P : Program} {w : World} {K : PySem.W.Frag} {mg : Str → Option Value} {base : Heap}
theorem scReaches : FnScope ["row"] ["row"] (defScope s_reaches) := ⟨rfl, rfl, rfl, by decide +kernel, rfl, by decide +kernel, by decide +kernel⟩
set_option maxHeartbeats 4000000 in
theorem ok_reaches (a : At K mg "reaches" s_reaches ["row"]) (d_need_row : Df P w K mg base 2 "need_row" ["thing"] spNeed) (d_reach_around : Df P w K mg base 1 "reach_around" ["row", "middle"] spReachA) (z_len : mg "len" = none) (z_range : mg "range" = none) : Df P w K mg base 3 "reaches" ["row"] (spLens reachesN) := by
  refine a.df fun f fd F => ?_
  refine F.ok scReaches (fun vs H Q E h => ?_) (fun cdv A outer s H vs Q E hr h => ?_)
  · obtain ⟨_, rfl, _⟩ := h
    rfl
  · obtain ⟨l, rfl, hrow, q⟩ := h
    have hlen := (rowL_iff.mp hrow).1
    have hz : l.length ≤ sizeLine := by rw [sizeLine_eq]; omega
    refine ⟨_, (pss_cons (ps_expr (pe_df d_need_row hr rfl (pa_cons (pv 0) pa_nil)))
      (pss_one (ps_ret (pe_comp (ys := ["row"]) (ix := [0]) ⟨rfl, by decide +kernel, rfl, by decide +kernel, rfl, by decide +kernel, ⟨rfl, trivial⟩, rfl, ⟨⟨rfl, rfl, rfl, rfl⟩, trivial⟩⟩ rfl (pi_range1 rfl z_range (pa_cons (pe_op op_sub (pe_op op_mul pe_int (pe_callB call_len_str (by rfl) z_len bt_len (pa_cons (pv 0) pa_nil))) pe_int) pa_nil)) (fun C fp s H => pts_nil) (fun C fp s H => (pe_df (X := cmpCx _ _ _ _ C fp s H) d_reach_around hr rfl (pa_cons (pv 1) (pa_cons (pv 0) pa_nil)))))))), ?_⟩
    refine ⟨_, rfl, l, rfl, hrow, fun H1 s1 => ?_⟩
    refine ⟨_, rfl, tx l, rfl, (by rw [tx_len]; exact hz), _, _, rfl, rfl, .inl ⟨by decide, by decide⟩, _, _, rfl, rfl, _, rfl, (by rw [tx_len]; omega), (by rw [tx_len]; omega), ?_⟩
    rw [tx_len]
    have en : (2 * (l.length : Int) - 1).toNat = 2 * l.length - 1 := by omega
    rw [en]
    refine comp_range (n := 2 * l.length - 1) (by rw [sizeLine_eq]; omega) (fun i ys H' => H' = H1 ∧ ys = lensV ((List.range i).map (reachN l))) ⟨rfl, rfl⟩ ?_ ?_
    · rintro i ys H' N hi hy ⟨rfl, rfl⟩ hN
      refine yes_ok (iteT ⟨_, rfl, _, rfl, l, i, ?_, hrow, by omega, hN _ _ (by simp [lensV]) ⟨rfl, ?_⟩⟩)
      · show [V.str (tx l), V.int (0 + (i : Int))] = _
        rw [Int.zero_add]
      · rw [List.range_succ, List.map_append, lensV_app]
        rfl
    · rintro ys H' hy ⟨rfl, rfl⟩ p hp
      exact q p _ (s1.free hp) upd_same (s1.trans (Same.upd hp))
end
end Mr

namespace Mr
open PySem L2
section
variable {P : Program} {w : World} {K : PySem.W.Frag} {mg : Str → Option Value} {base : Heap}
theorem scEA : FnScope ["told", "behind"] ["told", "behind"] (defScope s_ends_ahead) := ⟨rfl, rfl, rfl, by decide +kernel, rfl, by decide +kernel, by decide +kernel⟩
set_option maxHeartbeats 4000000 in
theorem ok_ends_ahead (a : At K mg "ends_ahead" s_ends_ahead ["told", "behind"]) (z_range : mg "range" = none) : Df P w K mg base 1 "ends_ahead" ["told", "behind"] spEA := by
  refine a.df fun f fd F => ?_
  refine F.ok scEA (fun vs H Q E h => ?_) (fun cdv A outer s H vs Q E hr h => ?_)
  · obtain ⟨_, _, _, rfl, _⟩ := h
    rfl
  · obtain ⟨p, l, b, rfl, hlen, hb, hp, q⟩ := h
    refine ⟨_, (pss_one (ps_ret (pe_comp (ys := ["behind", "told"]) (ix := [1, 0]) ⟨rfl, by decide +kernel, rfl, by decide +kernel, rfl, by decide +kernel, ⟨rfl, rfl, trivial⟩, rfl, ⟨⟨rfl, rfl, rfl, rfl⟩, ⟨rfl, rfl, rfl, rfl⟩, trivial⟩⟩ rfl (pi_range1 rfl z_range (pa_cons (pv 1) pa_nil)) (fun C fp s H => (pts_one (pt_cmpR op_ge (pe_ix (ix_listK (K := K) rfl) (pv 2) (pe_op op_sub (pe_op op_add (pv 0) (pv 1)) pe_int) (fun _ _ => rfl)) (pe_op op_sub (pv 1) (pv 0)) (nomark _)))) (fun C fp s H => (pe_op op_sub (pv 1) (pv 0)))))), ?_⟩
    refine ⟨_, rfl, _, rfl, by omega, by omega, ?_⟩
    have en : ((b : Int)).toNat = b := by omega
    rw [en]
    refine comp_range (n := b) (by rw [sizeLine_eq]; omega) (fun i ys H' => H' = H ∧ ys = lensV (((downs b).take i).filter fun k => decide (k ≤ reachN l (b - k + b - 1)))) ⟨rfl, rfl⟩ ?_ ?_
    · rintro i ys H' N hi hy ⟨rfl, rfl⟩ hN
      have hfl := filt_take (fun k => decide (k ≤ reachN l (b - k + b - 1))) hi
      have ei : (0 : Int) + (i : Int) + (b : Int) - 1 = ((i + b - 1 : Nat) : Int) := by omega
      refine ⟨_, rfl, _, rfl, _, rfl, _, _, rfl, rfl, _, _, rfl, rfl, p, _, _, .int ((reachN l (i + b - 1) : Nat) : Int), rfl, rfl, SqL.of hp, ?_, _, rfl, _, rfl, _, _, rfl, rfl, _, _, rfl, rfl, _, rfl, ?_⟩
      · rw [ei, atI_nat]
        show (lensV (reachesN l))[i + b - 1]? = _
        unfold lensV
        rw [List.getElem?_map, reachesN_at (by omega)]
        rfl
      have ek : b - (b - i) = i := by omega
      have e0 : (b : Int) - (0 + (i : Int)) = ((b - i : Nat) : Int) := by omega
      rw [e0]
      refine ite2 (fun h1 => ?_) (fun h1 => ?_)
      · have h2 : b - i ≤ reachN l (i + b - 1) := by have := of_decide_eq_true h1; omega
        refine ⟨_, rfl, _, rfl, _, _, rfl, rfl, hN _ _ (by rw [List.length_append]; simp; omega) ⟨rfl, ?_⟩⟩
        show _ ++ [V.int ((b : Int) - (0 + (i : Int)))] = _
        rw [e0, hfl, if_pos (decide_eq_true (by rw [ek]; exact h2)), lensV_app]
        rfl
      · have h2 : ¬ b - i ≤ reachN l (i + b - 1) := fun z => h1 (decide_eq_true (by omega))
        refine hN _ _ (by omega) ⟨rfl, ?_⟩
        rw [hfl, if_neg (by rw [decide_eq_false (by rw [ek]; exact h2)]; decide), List.append_nil]
    · rintro ys H' hy ⟨rfl, rfl⟩ p' hp'
      rw [downs_all, ← ends_ahead_eq hb]
      exact q p' _ hp' upd_same (Same.upd hp')
end
end Mr

namespace Mr
open PySem L2
section
variable {P : Program} {w : World} {K : PySem.W.Frag} {mg : Str → Option Value} {base : Heap}
theorem scMM : FnScope ["row"] ["row"] (defScope s_mirrors_many) := ⟨rfl, rfl, rfl, by decide +kernel, rfl, by decide +kernel, by decide +kernel⟩
set_option maxHeartbeats 4000000 in
theorem ok_mirrors_many (a : At K mg "mirrors_many" s_mirrors_many ["row"]) (d_reaches : Df P w K mg base 3 "reaches" ["row"] (spLens reachesN)) (z_sum : mg "sum" = none) : Df P w K mg base 4 "mirrors_many" ["row"] spMany := by
  refine a.df fun f fd F => ?_
  refine F.ok scMM (fun vs H Q E h => ?_) (fun cdv A outer s H vs Q E hr h => ?_)
  · obtain ⟨_, rfl, _⟩ := h
    rfl
  · obtain ⟨l, rfl, hrow, q⟩ := h
    have hlen := (rowL_iff.mp hrow).1
    have hz : (lensV (reachesN l)).length ≤ sizeLine := by rw [lensV_len, reachesN_len, sizeLine_eq]; omega
    refine ⟨_, (pss_one (ps_ret (pe_callB (call_sumI rfl) (by rfl) z_sum bt_sum (pa_cons (pe_comp (ys := []) (ix := []) ⟨rfl, by decide +kernel, rfl, by decide +kernel, rfl, by decide +kernel, trivial, rfl, trivial⟩ rfl (pi_list (pe_df d_reaches hr rfl (pa_cons (pv 0) pa_nil))) (fun C fp s H => pts_nil) (fun C fp s H => (pe_op op_fdiv (pe_op op_add (pv 0) pe_int) pe_int))) pa_nil)))), ?_⟩
    refine ⟨_, rfl, l, rfl, hrow, fun p H1 hf hp s1 => ⟨p, rfl, ⟨_, SqL.of hp⟩, comp_list (K := K) (a := p) (xs := lensV (reachesN l)) hz (fun i ys H' => H' = H1 ∧ ys = ((reachesN l).take i).map fun (k : Nat) => V.int (((k : Int) + 1) / 2)) ⟨rfl, rfl⟩ (fun i ys H' ⟨e, _⟩ => by rw [e]; exact SqL.of hp) ?_ ?_⟩⟩
    · rintro i x ys H' N hx hy ⟨rfl, rfl⟩ hN
      unfold lensV at hx
      rw [List.getElem?_map] at hx
      cases e : (reachesN l)[i]? with
      | none => rw [e] at hx; cases hx
      | some k =>
        rw [e] at hx
        have hx' : V.int (k : Int) = x := Option.some.inj hx
        subst hx'
        refine yes_ok (iteT ⟨_, rfl, _, _, rfl, rfl, _, _, rfl, rfl, ⟨by decide, by decide⟩, hN _ _ (by rw [List.length_append]; simp at hy ⊢; omega) ⟨rfl, ?_⟩⟩)
        rw [List.take_succ, e, List.map_append]
        rfl
    · rintro ys H' hy ⟨rfl, rfl⟩ p' hp'
      refine ⟨p', (reachesN l).map fun (k : Nat) => ((k : Int) + 1) / 2, rfl, SqL.of ?_, ?_⟩
      · rw [upd_same, List.map_map, lensV_len, List.take_of_length_le (Nat.le_refl _)]
        rfl
      · rw [many_sum]
        exact q _ (s1.trans (Same.upd hp'))
end
end Mr

namespace Mr
open PySem L2
section
variable {P : Program} {w : World} {K : PySem.W.Frag} {mg : Str → Option Value} {base : Heap}
theorem scEBP : FnScope ["row", "told"] ["row"] (defScope s_ends_by_place) := ⟨rfl, rfl, rfl, by decide +kernel, rfl, by decide +kernel, by decide +kernel⟩
set_option maxHeartbeats 4000000 in
theorem ok_ebp (a : At K mg "ends_by_place" s_ends_by_place ["row"]) (d_reaches : Df P w K mg base 3 "reaches" ["row"] (spLens reachesN)) (d_ends_ahead : Df P w K mg base 1 "ends_ahead" ["told", "behind"] spEA) (z_len : mg "len" = none) (z_range : mg "range" = none) : Df P w K mg base 4 "ends_by_place" ["row"] spEBP := by
  refine a.df fun f fd F => ?_
  refine F.ok scEBP (fun vs H Q E h => ?_) (fun cdv A outer s H vs Q E hr h => ?_)
  · obtain ⟨_, rfl, _⟩ := h
    rfl
  · obtain ⟨l, rfl, hrow, q⟩ := h
    have hlen := (rowL_iff.mp hrow).1
    have hz : l.length ≤ sizeLine := by rw [sizeLine_eq]; omega
    refine ⟨_, (pss_cons (ps_set (i := 1) scEBP.nd rfl (Or.inr rfl) (pe_df d_reaches hr rfl (pa_cons (pv 0) pa_nil)))
      (pss_one (ps_ret (pe_comp (ys := ["told"]) (ix := [1]) ⟨rfl, by decide +kernel, rfl, by decide +kernel, rfl, by decide +kernel, ⟨rfl, trivial⟩, rfl, ⟨⟨rfl, rfl, rfl, rfl⟩, trivial⟩⟩ rfl (pi_range1 rfl z_range (pa_cons (pe_op op_add (pe_callB call_len_str (by rfl) z_len bt_len (pa_cons (pv 0) pa_nil)) pe_int) pa_nil)) (fun C fp s H => pts_nil) (fun C fp s H => (pe_df (X := cmpCx _ _ _ _ C fp s H) d_ends_ahead hr rfl (pa_cons (pv 1) (pa_cons (pv 0) pa_nil)))))))), ?_⟩
    refine ⟨_, rfl, l, rfl, hrow, fun pr H1 hfr hpr s1 => ?_⟩
    refine ⟨_, rfl, tx l, rfl, (by rw [tx_len]; exact hz), _, _, rfl, rfl, _, rfl, (by rw [tx_len]; omega), (by rw [tx_len]; omega), ?_⟩
    rw [tx_len]
    have en : ((l.length : Int) + 1).toNat = l.length + 1 := by omega
    rw [en]
    refine comp_range (n := l.length + 1) (by rw [sizeLine_eq]; omega) (fun i ys H' => LenV H' ys ((List.range i).map fun b => endsN (l.take b)) ∧ H' pr = some (.lst (lensV (reachesN l))) ∧ Same H H') ⟨ReV.nil, hpr, s1⟩ ?_ ?_
    · rintro i ys H2 N hi hy ⟨hL, hp2, s2⟩ hN
      refine yes_ok (iteT ⟨_, rfl, _, rfl, pr, l, i, ?_, hlen, by omega, hp2, fun p' H3 hf3 hp3 s3 => hN _ _ (by simp; omega) ⟨?_, s3 _ _ hp2, s2.trans s3⟩⟩)
      · show [V.ref pr, V.int (0 + (i : Int))] = _
        rw [Int.zero_add]
      · rw [List.range_succ, List.map_append]
        exact ReV.push (hL.mono fun p e h => s3 _ _ h) hp3
    · rintro ys H2 hy ⟨hL, hp2, s2⟩ p hp
      exact q p ys _ (s2.free hp) upd_same (hL.mono fun p' e h => (Same.upd hp) _ _ h) (s2.trans (Same.upd hp))
end
end Mr

namespace Mr
open PySem L2
section
variable {P : Program} {w : World} {K : PySem.W.Frag} {mg : Str → Option Value} {base : Heap}
theorem scLE : FnScope ["row", "lengths", "numbers", "text", "less"] ["row", "lengths", "numbers"] (defScope s_longest_entry) := ⟨rfl, rfl, rfl, by decide +kernel, rfl, by decide +kernel, by decide +kernel⟩
set_option maxHeartbeats 4000000 in
theorem ok_lentry (a : At K mg "longest_entry" s_longest_entry ["row", "lengths", "numbers"]) (z_len : mg "len" = none) : Df P w K mg base 1 "longest_entry" ["row", "lengths", "numbers"] spLE := by
  refine a.df fun f fd F => ?_
  refine F.ok scLE (fun vs H Q E h => ?_) (fun cdv A outer s H vs Q E hr h => ?_)
  · obtain ⟨_, _, _, _, rfl, _⟩ := h
    rfl
  · obtain ⟨l, pl, pn, ms, rfl, h1, hlen, hpl, ⟨kvs, hkv, hkl, hkx⟩, q⟩ := h
    have hz : l.length ≤ sizeLine := by rw [sizeLine_eq]; omega
    refine ⟨_, (pss_cons (ps_set (i := 3) scLE.nd rfl (Or.inl rfl) (pe_slice sl_strS (pv 0) (po_some (pe_op op_sub (pe_callB call_len_str (by rfl) z_len bt_len (pa_cons (pv 0) pa_nil)) (pe_ix ix_list (pv 1) pe_int (fun _ _ => rfl)))) po_none))
      (pss_cons (ps_set (i := 4) scLE.nd rfl (Or.inl rfl) (pe_ifExp (pt_cmpR op_gt (pe_callB call_len_seq (by rfl) z_len bt_len (pa_cons (pv 1) pa_nil)) pe_int (nomark _)) (pe_slice sl_strS (pv 3) (po_some (pe_op op_sub (pe_callB call_len_str (by rfl) z_len bt_len (pa_cons (pv 3) pa_nil)) (pe_ix ix_list (pv 1) pe_int (fun _ _ => rfl)))) po_none) pe_str))
      (pss_one (ps_ret (pe_tup (pa_cons (pv 3) (pa_cons (pe_dget1 hr.unitsD (pv 2) (pe_slice sl_strS (pv 3) (po_some pe_int) (po_some (pe_un un_neg pe_int))) ⟨rfl, rfl, rfl, rfl⟩) (pa_cons (pe_dget1 hr.unitsD (pv 2) (pv 4) ⟨rfl, rfl, rfl, rfl⟩) pa_nil)))))))), ?_⟩
    obtain ⟨L, eL, L1, L2, L3, L4⟩ := ends_first h1 (Nat.le_refl l.length)
    obtain ⟨q1, q2, q3, q4⟩ := ends_top (l := l) (c := l.length) h1 (Nat.le_refl _)
    have htn : topT l l.length ≠ [] := ((top_ends h1 (Nat.le_refl _)).len (Nat.le_refl _)).1
    have et : topT l l.length = l.drop (l.length - L) := by unfold topT; rw [eL]; exact sub_end l L
    rw [List.take_of_length_le (Nat.le_refl _)] at eL L4 q1 q2 q3 q4
    have htl : (topT l l.length).length = L := by rw [q4, eL]; rfl
    have htz : (topT l l.length).length ≤ sizeLine := by rw [htl]; omega
    have a0 : atI (lensV (endsN l)) 0 = some (V.int (L : Int)) := atI_nat (j := 0) (lensV_get eL)
    have dD : IsD H pn := .inl ⟨_, .inl hkv⟩
    have ov : ∀ o : Option Nat, (o.map fun i => V.int (i : Int)).getD .non = optV o := fun o => by cases o <;> rfl
    refine ⟨_, rfl, _, rfl, tx l, rfl, (by rw [tx_len]; exact hz), _, rfl, pl, _, _, _, rfl, rfl, SqL.of hpl, a0, _, _, rfl, rfl, _, rfl, l, rfl, hz, ?_⟩
    have x1 : ((tx l).length : Int) - (L : Int) = ((l.length - L : Nat) : Int) := by rw [tx_len]; omega
    rw [x1, cut_from, ← et]
    refine ⟨_, rfl, pl, _, rfl, .inl (SqL.of hpl), _, _, rfl, rfl, _, rfl, ?_⟩
    rw [lensV_len]
    cases e1 : (endsN l)[1]? with
    | none =>
      have hc : (endsN l).length ≤ 1 := List.getElem?_eq_none_iff.mp e1
      rw [decide_eq_false (show ¬ (1 : Int) < ((endsN l).length : Int) by omega)]
      refine iteF ?_
      have el : (("" : Str)) = tx (lessN (topT l l.length)) := by
        rw [e_nil]; congr 1; unfold lessN; rw [q1, e1]; rfl
      dsimp only [gName]
      rw [el]
      refine ⟨_, rfl, _, rfl, pn, rfl, dD, _, rfl, _, rfl, _, rfl, _, rfl, topT l l.length, rfl, htz, _, DGet.k (k := Sum.inr (tx (cutL (topT l l.length) (some 1) (some (-1))))) hkv, _, rfl, pn, rfl, dD, _, rfl, _, DGet.k (k := Sum.inr (tx (lessN (topT l l.length)))) hkv, (by show 3 ≤ sizeLine; decide), fun pq hpq => ?_⟩
      rw [cut_inner htn, hkx, hkx, ov, ov]
      exact q pq _ hpq upd_same (Same.upd hpq)
    | some k =>
      obtain ⟨k1, k2, k3⟩ := q3 k e1
      have hc : 1 < (endsN l).length := (List.getElem?_eq_some_iff.mp e1).1
      have hkL : k ≤ L := L4 k (List.mem_of_getElem? e1)
      rw [decide_eq_true (show (1 : Int) < ((endsN l).length : Int) by omega)]
      refine iteT ⟨_, rfl, _, rfl, tx (topT l l.length), rfl, (by rw [tx_len]; exact htz), _, rfl, pl, _, _, _, rfl, rfl, SqL.of hpl, atI_nat (j := 1) (lensV_get e1), _, _, rfl, rfl, _, rfl, topT l l.length, rfl, htz, ?_⟩
      have x2 : ((tx (topT l l.length)).length : Int) - (k : Int) = (((topT l l.length).length - k : Nat) : Int) := by rw [tx_len]; omega
      have el : (topT l l.length).drop ((topT l l.length).length - k) = lessN (topT l l.length) := by
        rw [q2, e1]
        have := suf_suf L2 hkL
        rw [← et] at this
        rw [this]
        exact (sub_end l k).symm
      rw [x2, cut_from, el]
      refine ⟨_, rfl, _, rfl, pn, rfl, dD, _, rfl, _, rfl, _, rfl, _, rfl, topT l l.length, rfl, htz, _, DGet.k (k := Sum.inr (tx (cutL (topT l l.length) (some 1) (some (-1))))) hkv, _, rfl, pn, rfl, dD, _, rfl, _, DGet.k (k := Sum.inr (tx (lessN (topT l l.length)))) hkv, (by show 3 ≤ sizeLine; decide), fun pq hpq => ?_⟩
      rw [cut_inner htn, hkx, hkx, ov, ov]
      exact q pq _ hpq upd_same (Same.upd hpq)
end
end Mr

namespace Mr
open PySem L2
section
variable {P : Program} {w : World} {K : PySem.W.Frag} {mg : Str → Option Value} {base : Heap}
theorem scTr : FnScope ["row", "lengths", "numbers", "told", "behind", "entry"] ["row"] (defScope s_tree) := ⟨rfl, rfl, rfl, by decide +kernel, rfl, by decide +kernel, by decide +kernel⟩
set_option maxHeartbeats 8000000 in
theorem ok_tree (a : At K mg "tree" s_tree ["row"]) (d_ends_by_place : Df P w K mg base 4 "ends_by_place" ["row"] spEBP) (d_longest_entry : Df P w K mg base 1 "longest_entry" ["row", "lengths", "numbers"] spLE) (z_len : mg "len" = none) (z_range : mg "range" = none) : Df P w K mg base 5 "tree" ["row"] spTree := by
  refine a.df fun f fd F => ?_
  refine F.ok scTr (fun vs H Q E h => ?_) (fun cdv A outer s H vs Q E hr h => ?_)
  · obtain ⟨_, rfl, _⟩ := h
    rfl
  · obtain ⟨l, rfl, hrow, q⟩ := h
    have hlen := (rowL_iff.mp hrow).1
    have hz : l.length ≤ sizeLine := by rw [sizeLine_eq]; omega
    refine ⟨_, (pss_cons (ps_set (i := 1) scTr.nd rfl (Or.inl rfl) (pe_df d_ends_by_place hr rfl (pa_cons (pv 0) pa_nil)))
      (pss_cons (ps_set (i := 2) scTr.nd rfl (Or.inl rfl) pe_dnewK)
      (pss_cons (ps_set (i := 3) scTr.nd rfl (Or.inl rfl) (pe_lst pa_nil))
      (pss_cons (ps_for PassesOwn.never rfl (pi_range2 rfl z_range (pa_cons pe_int (pa_cons (pe_op op_add (pe_callB call_len_str (by rfl) z_len bt_len (pa_cons (pv 0) pa_nil)) pe_int) pa_nil))) (pg_name (i := 4) scTr.nd rfl (Or.inl rfl)) (pss_cons (ps_set (i := 5) scTr.nd rfl (Or.inl rfl) (pe_df d_longest_entry hr rfl (pa_cons (pe_slice sl_strS (pv 0) po_none (po_some (pv 4))) (pa_cons (pe_ix ix_list (pv 1) (pv 4) (fun _ _ => rfl)) (pa_cons (pv 2) pa_nil)))))
      (pss_one (ps_if (pt_cmp (pc_dnotin hr.unitsD (pe_ix ix_tup (pv 5) pe_int (fun _ _ => rfl)) (pv 2))) (pss_cons (ps_dput hr.unitsD (pv 2) (pe_ix ix_tup (pv 5) pe_int (fun _ _ => rfl)) (pe_callB call_len_seq (by rfl) z_len bt_len (pa_cons (pv 3) pa_nil)) rfl)
      (pss_one (ps_expr (pe_bm PySem.F.plainAttrs_list PySem.F.slot_list_append PySem.F.type_list_append mt_append (pv 3) (pa_cons (pv 5) pa_nil))))) pss_nil))))
      (pss_one (ps_ret (pv 3))))))), ?_⟩
    refine ⟨_, rfl, l, rfl, hrow, fun pr x0 H1 hfr hpr hL1 s1 => ?_⟩
    refine fun pn hpn => ⟨(by show 0 ≤ sizeLine; omega), fun pt hpt => ?_⟩
    have n2 : pn ≠ pt := fun z => by rw [← z, upd_same] at hpt; cases hpt
    have frt : H1 pt = none := by rw [upd_ne n2.symm] at hpt; exact hpt
    have s3 : Same H1 (upd (upd H1 pn (.dK [])) pt (.lst [])) := (Same.upd hpn).trans (Same.upd hpt)
    have f2 : NumD (upd (upd H1 pn (.dK [])) pt (.lst [])) pn (mirs l 0) := ⟨[], by rw [upd_ne n2]; exact upd_same, by simp, fun x => rfl⟩
    have f3 : (upd (upd H1 pn (.dK [])) pt (.lst [])) pt = some (.lst []) := upd_same
    generalize upd (upd H1 pn (.dK [])) pt (.lst []) = H3 at s3 f2 f3
    refine ⟨_, rfl, tx l, rfl, (by rw [tx_len]; exact hz), _, _, rfl, rfl, _, _, rfl, ⟨by omega, by omega, by rw [tx_len]; omega, by rw [tx_len]; omega⟩, ?_⟩
    rw [tx_len]
    have en : ((l.length : Int) + 1 - 1).toNat = l.length := by omega
    rw [en]
    refine for_range (fun i σ H' => ∃ (w4 w5 : Option V) (xs : List V), σ = [some (V.str (tx l)), some (V.ref pr), some (V.ref pn), some (V.ref pt), w4, w5] ∧ NumD H' pn (mirs l i) ∧ H' pt = some (.lst xs) ∧ TreeV H' xs ((mirs l i).map (entT (mirs l i))) ∧ Same H1 H') ⟨_, _, [], rfl, f2, f3, ReV.nil, s3⟩ ?_ ?_
    · rintro i σ H4 hi ⟨w4, w5, xs, rfl, hN4, ht4, hT4, s4⟩
      have eb : (1 : Int) + (i : Int) = ((i + 1 : Nat) : Int) := by omega
      rw [eb]
      have hb1 : 1 ≤ i + 1 := by omega
      have hbl : i + 1 ≤ l.length := by omega
      obtain ⟨pe, a1, hpe⟩ := (hL1.mono (H' := H4) fun p e h => s4 _ _ h).at (endsAt_get hbl)
      have etk : topT (l.take (i + 1)) (l.take (i + 1)).length = topT l (i + 1) := by
        have : (l.take (i + 1)).length = i + 1 := by rw [List.length_take]; omega
        rw [this, top_take (Nat.le_refl _)]
      obtain ⟨htn, htp⟩ := (top_ends hb1 hbl).len hbl
      refine ⟨_, rfl, _, rfl, _, rfl, l, rfl, hz, _, rfl, _, rfl, pr, _, _, _, rfl, rfl, SqL.of (s4 _ _ hpr), atI_nat (j := i + 1) a1, _, rfl, l.take (i + 1), pe, pn, mirs l i, (by rw [cut_to]; rfl), (by rw [List.length_take]; omega), (by rw [List.length_take]; omega), hpe, hN4, fun pq H6 hfq hpq s6 => ?_⟩
      rw [etk] at hpq
      obtain ⟨kvs, hkv, hkl, hkx⟩ := hN4
      have hkv6 := s6 _ _ hkv
      have ht6 := s6 _ _ ht4
      have hT6 := hT4.mono (H' := H6) fun p e h => s6 _ _ h
      have t6 := s4.trans s6
      have hml := mirs_len l i
      refine ⟨_, rfl, pq, _, _, _, rfl, rfl, SqT.of hpq, atI_nat (j := 0) rfl, _, rfl, pn, _, rfl, DGet.k (k := Sum.inr (tx (topT l (i + 1)))) hkv6, _, rfl, ?_⟩
      rw [hkx]
      by_cases hm : topT l (i + 1) ∈ mirs l i
      · have e9 : (((idxO (mirs l i) (topT l (i + 1))).map fun i => V.int (i : Int)).isSome) = true := by unfold idxO; rw [if_pos hm]; rfl
        rw [e9]
        have em : mirs l (i + 1) = mirs l i := if_pos hm
        refine iteF ⟨_, _, xs, rfl, ?_, ht6, ?_, t6⟩
        · rw [em]; exact ⟨kvs, hkv6, hkl, hkx⟩
        · rw [em]; exact hT6
      · have e9 : (((idxO (mirs l i) (topT l (i + 1))).map fun i => V.int (i : Int)).isSome) = false := by rw [idxO_none hm]; rfl
        rw [e9]
        have em : mirs l (i + 1) = mirs l i ++ [topT l (i + 1)] := if_neg hm
        have hxl : xs.length = (mirs l i).length := by rw [hT4.1, List.length_map]
        refine iteT ⟨_, rfl, pt, _, rfl, .inl (SqL.of ht6), _, rfl, _, rfl, pq, _, _, _, rfl, rfl, SqT.of hpq, atI_nat (j := 0) rfl, pn, _, rfl, DPut.k (k := Sum.inr (tx (topT l (i + 1)))) hkv6 (by rw [sizeLine_eq]; omega), ?_⟩
        have npt : pt ≠ pn := n2.symm
        have nqn : pq ≠ pn := fun z => by rw [z, hkv] at hfq; cases hfq
        have nqt : pq ≠ pt := fun z => by rw [z, ht4] at hfq; cases hfq
        have g1 : upd H6 pn (.dK (putK kvs (Sum.inr (tx (topT l (i + 1)))) (.int (xs.length : Int)))) pn = some (.dK (putK kvs (Sum.inr (tx (topT l (i + 1)))) (.int (xs.length : Int)))) := upd_same
        have g2 : upd H6 pn (.dK (putK kvs (Sum.inr (tx (topT l (i + 1)))) (.int (xs.length : Int)))) pt = some (.lst xs) := by rw [upd_ne npt]; exact ht6
        have g3 : upd H6 pn (.dK (putK kvs (Sum.inr (tx (topT l (i + 1)))) (.int (xs.length : Int)))) pq = some (entV (entT (mirs l i) (topT l (i + 1)))) := by rw [upd_ne nqn]; exact hpq
        have g4 : Same H1 (upd H6 pn (.dK (putK kvs (Sum.inr (tx (topT l (i + 1)))) (.int (xs.length : Int))))) := same_upd t6 hpn
        have g5 : TreeV (upd H6 pn (.dK (putK kvs (Sum.inr (tx (topT l (i + 1)))) (.int (xs.length : Int))))) xs ((mirs l i).map (entT (mirs l i))) := hT6.mono fun p e h => by
          have : p ≠ pn := fun z => by rw [z, hkv6] at h; cases h
          rw [upd_ne this]; exact h
        generalize upd H6 pn (.dK (putK kvs (Sum.inr (tx (topT l (i + 1)))) (.int (xs.length : Int)))) = H7 at g1 g2 g3 g4 g5
        have vx : ∀ x, valV (putK kvs (Sum.inr (tx (topT l (i + 1)))) (.int (xs.length : Int))) (Sum.inr (tx x)) = (idxO (mirs l (i + 1)) x).map fun i => V.int (i : Int) := by
          intro x
          rw [valV_put, em]
          by_cases hx : x = topT l (i + 1)
          · rw [hx, if_pos rfl, idxO_last hm, hxl]; rfl
          · have nx : ¬ (Sum.inr (tx x) : Key) = Sum.inr (tx (topT l (i + 1))) := fun z => hx (tx_inj (Sum.inr.inj z))
            rw [if_neg nx, hkx, idxO_snoc hx]
        refine ⟨_, rfl, .inl ⟨rfl, _, SqL.of g2⟩, _, rfl, pt, xs, _, rfl, rfl, g2, (by rw [hxl, sizeLine_eq]; omega), ?_⟩
        refine ⟨_, _, xs ++ [.ref pq], rfl, ?_, upd_same, ?_, same_upd g4 frt⟩
        · refine ⟨_, by rw [upd_ne n2]; exact g1, ?_, vx⟩
          have := length_putK kvs (Sum.inr (tx (topT l (i + 1)))) (.int (xs.length : Int))
          rw [em, List.length_append]
          show _ ≤ 1000 + ((mirs l i).length + 1)
          omega
        · have e8 : (mirs l (i + 1)).map (entT (mirs l (i + 1))) = (mirs l i).map (entT (mirs l i)) ++ [entT (mirs l i) (topT l (i + 1))] := by
            rw [em, List.map_append, map_ent (by omega) htn, ← ent_self (ms := mirs l i) htn htp]; rfl
          rw [e8]
          refine ReV.push (g5.mono fun p e h => ?_) (by rw [upd_ne nqt]; exact g3)
          have : p ≠ pt := fun z => by rw [z, g2] at h; cases h
          rw [upd_ne this]
          exact h
    · rintro σ H4 ⟨w4, w5, xs, rfl, hN4, ht4, hT4, s4⟩
      exact ⟨_, rfl, q pt xs H4 (s1.free frt) ht4 hT4 (s1.trans s4)⟩
end
end Mr

namespace Mr
open PySem L2
section
variable {P : Program} {w : World} {K : PySem.W.Frag} {mg : Str → Option Value} {base : Heap}
theorem scEW : FnScope ["row", "lengths", "sign", "longer"] ["row", "lengths", "sign"] (defScope s_ends_with) := ⟨rfl, rfl, rfl, by decide +kernel, rfl, by decide +kernel, by decide +kernel⟩
set_option maxHeartbeats 4000000 in
theorem ok_ew (a : At K mg "ends_with" s_ends_with ["row", "lengths", "sign"]) (z_len : mg "len" = none) : Df P w K mg base 1 "ends_with" ["row", "lengths", "sign"] spEW := by
  refine a.df fun f fd F => ?_
  refine F.ok scEW (fun vs H Q E h => ?_) (fun cdv A outer s H vs Q E hr h => ?_)
  · obtain ⟨_, _, _, rfl, _⟩ := h
    rfl
  · obtain ⟨l, p, c, rfl, hlen, hp, q⟩ := h
    have hz : l.length ≤ sizeLine := by rw [sizeLine_eq]; omega
    have hec := ends_count l
    refine ⟨_, (pss_cons (ps_setc (ys := ["sign", "row"]) (ix := [2, 0]) (i := 3) ⟨rfl, by decide +kernel, rfl, by decide +kernel, rfl, by decide +kernel, ⟨rfl, rfl, trivial⟩, rfl, ⟨⟨rfl, rfl, rfl, rfl⟩, ⟨rfl, rfl, rfl, rfl⟩, trivial⟩⟩ rfl (pi_list (pe_op op_cat (pv 1) (pe_lst (pa_cons pe_int pa_nil)))) (fun C fp s H => (pts_one (PW.pt (pw_and (pt_cmpR op_lt (pv 0) (pe_callB call_len_str (by rfl) z_len bt_len (pa_cons (pv 2) pa_nil)) (nomark _)) (pw_and1 (pt_cmpR op_eq (pe_ix ix_strS (pv 2) (pe_op op_sub (pe_op op_sub (pe_callB call_len_str (by rfl) z_len bt_len (pa_cons (pv 2) pa_nil)) pe_int) (pv 0)) (fun _ _ => rfl)) (pv 1) (nomark _))))))) (fun C fp s H => (pe_op op_add (pv 0) pe_int)) scEW.nd rfl (Or.inl rfl))
      (pss_one (ps_ret (pe_op op_cat (pv 3) (pe_lst (pa_cons pe_int pa_nil)))))), ?_⟩
    refine ⟨_, rfl, (by show 1 ≤ sizeLine; decide), fun p0 hp0 => ?_⟩
    have n0 : p ≠ p0 := ne_of_none hp hp0
    refine ⟨p, p0, _, _, rfl, rfl, (by rw [upd_ne n0]; exact hp), upd_same, (by rw [lensV_len, sizeLine_eq]; show _ + 1 ≤ _; omega), fun p1 hp1 => ?_⟩
    have e0 : lensV (endsN l) ++ [V.int 0] = lensV (endsN l ++ [0]) := by rw [lensV_app]; rfl
    rw [e0]
    have s1 : Same H (upd (upd H p0 (.lst [.int 0])) p1 (.lst (lensV (endsN l ++ [0])))) := (Same.upd hp0).trans (Same.upd hp1)
    have f1 : (upd (upd H p0 (.lst [.int 0])) p1 (.lst (lensV (endsN l ++ [0])))) p1 = some (.lst (lensV (endsN l ++ [0]))) := upd_same
    generalize upd (upd H p0 (.lst [.int 0])) p1 (.lst (lensV (endsN l ++ [0]))) = H1 at s1 f1
    refine ⟨p1, rfl, ⟨_, SqL.of f1⟩, comp_list (K := K) (a := p1) (xs := lensV (endsN l ++ [0])) (by rw [lensV_len, List.length_append, sizeLine_eq]; show _ + 1 ≤ _; omega) (fun j ys H' => H' = H1 ∧ ys = lensV ((((endsN l ++ [0]).take j).filter (moreB l c)).map (· + 2))) ⟨rfl, rfl⟩ (fun j ys H' ⟨e, _⟩ => by rw [e]; exact SqL.of f1) ?_ ?_⟩
    · rintro j x ys H' N hx hy ⟨rfl, rfl⟩ hN
      obtain ⟨k, hk, rfl⟩ := lensV_at hx
      have hst : (((endsN l ++ [0]).take (j + 1)).filter (moreB l c)).map (· + 2) = (((endsN l ++ [0]).take j).filter (moreB l c)).map (· + 2) ++ (if moreB l c k = true then [k + 2] else []) := by
        rw [List.take_succ, hk, List.filter_append, List.map_append]
        congr 1
        show List.map _ (List.filter _ [k]) = _
        rw [List.filter_cons]
        split <;> rfl
      refine ⟨_, rfl, _, rfl, tx l, rfl, (by rw [tx_len]; exact hz), _, _, rfl, rfl, _, rfl, ?_⟩
      rw [tx_len]
      by_cases h1 : k < l.length
      case neg =>
        rw [decide_eq_false (show ¬ ((k : Nat) : Int) < ((l.length : Nat) : Int) by omega)]
        refine iteF (iteF (hN _ _ (by omega) ⟨rfl, ?_⟩))
        rw [hst, if_neg (by unfold moreB; rw [decide_eq_false (fun z => h1 z.1)]; decide), List.append_nil]
      rw [decide_eq_true (show ((k : Nat) : Int) < ((l.length : Nat) : Int) by omega)]
      have hix : l.length - k - 1 < l.length := by omega
      have ei : (l.length : Int) - 1 - (k : Int) = ((l.length - k - 1 : Nat) : Int) := by omega
      refine iteT ⟨_, rfl, _, rfl, tx l, rfl, (by rw [tx_len]; exact hz), _, _, rfl, rfl, _, rfl, _, _, rfl, rfl, l, _, l[l.length - k - 1], rfl, rfl, hz, (by rw [tx_len, ei]; exact atI_nat (List.getElem?_eq_getElem hix)), _, rfl, rfl, _, rfl, ?_⟩
      rw [dec_tx]
      by_cases h2 : l[l.length - k - 1] = c
      · rw [decide_eq_true (by rw [h2])]
        have hm : moreB l c k = true := decide_eq_true ⟨h1, by rw [List.getElem?_eq_getElem hix, h2]⟩
        refine iteT ⟨_, rfl, _, _, rfl, rfl, hN _ _ (by rw [List.length_append]; simp at hy ⊢; try omega) ⟨rfl, ?_⟩⟩
        rw [hst, if_pos hm, lensV_app]
        rfl
      · rw [decide_eq_false (fun z => h2 (by injection z))]
        have hm : ¬ moreB l c k = true := fun z => h2 (by
          have := (of_decide_eq_true z).2
          rw [List.getElem?_eq_getElem hix] at this
          exact Option.some.inj this)
        refine iteF (hN _ _ (by omega) ⟨rfl, ?_⟩)
        rw [hst, if_neg hm, List.append_nil]
    · rintro ys H' hy ⟨rfl, rfl⟩ p2 hp2
      rw [lensV_len, List.take_of_length_le (Nat.le_refl _)]
      have s2 : Same H' (upd H' p2 (.lst (lensV (((endsN l ++ [0]).filter (moreB l c)).map (· + 2))))) := Same.upd hp2
      have f2 : upd H' p2 (.lst (lensV (((endsN l ++ [0]).filter (moreB l c)).map (· + 2)))) p2 = some (.lst (lensV (((endsN l ++ [0]).filter (moreB l c)).map (· + 2)))) := upd_same
      have hfl : (((endsN l ++ [0]).filter (moreB l c)).map (· + 2)).length ≤ 1000 := by
        rw [List.length_map]
        refine Nat.le_trans (List.length_filter_le _ _) ?_
        rw [List.length_append]; show _ + 1 ≤ _; omega
      dsimp only [gName]
      generalize upd H' p2 (.lst (lensV (((endsN l ++ [0]).filter (moreB l c)).map (· + 2)))) = H2 at s2 f2
      refine ⟨_, rfl, (by show 1 ≤ sizeLine; decide), fun p3 hp3 => ?_⟩
      have n3 : p2 ≠ p3 := ne_of_none f2 hp3
      refine ⟨p2, p3, _, _, rfl, rfl, (by rw [upd_ne n3]; exact f2), upd_same, (by rw [lensV_len, sizeLine_eq]; show _ + 1 ≤ _; omega), fun p4 hp4 => ?_⟩
      have s4 : Same H (upd (upd H2 p3 (.lst [.int 1])) p4 (.lst (lensV (((endsN l ++ [0]).filter (moreB l c)).map (· + 2)) ++ [.int 1]))) := s1.trans (s2.trans ((Same.upd hp3).trans (Same.upd hp4)))
      refine q p4 _ ((s1.trans (s2.trans (Same.upd hp3))).free hp4) ?_ s4
      rw [upd_same, ← due_filter, lensV_app]
      rfl
end
end Mr

namespace Mr
open PySem L2
section
variable {P : Program} {w : World} {K : PySem.W.Frag} {mg : Str → Option Value} {base : Heap}
theorem scGI : FnScope ["self"] ["self"] (defScope s_Grower_init) := ⟨rfl, rfl, rfl, by decide +kernel, rfl, by decide +kernel, by decide +kernel⟩
set_option maxHeartbeats 4000000 in
theorem ok_ginit {C : Addr} (a : AtM K C "__init__" "Grower.__init__" s_Grower_init ["self"]) (T : ClG K mg C) (mk : PySem.W.makesIn K C = true) (kc : PySem.W.keepIn K (.ref C) = true) : MkC P w K mg base 1 C (spGInit C) := by
  refine a.mkc mk kc fun f fd F => ?_
  refine F.ok scGI (fun vs H Q E h => ?_) (fun cdv A outer s H vs Q E hr h => ?_)
  · obtain ⟨_, _, _, rfl, _⟩ := h
    rfl
  · obtain ⟨x, dx, B, rfl, hx, hB, q⟩ := h
    refine ⟨_, (pss_cons (ps_fld (pv 0) pe_str rfl)
      (pss_cons (ps_fld (pv 0) (pe_lst pa_nil) rfl)
      (pss_cons (ps_fld (pv 0) (pe_lst pa_nil) rfl)
      (pss_cons (ps_fld (pv 0) (pe_lst pa_nil) rfl)
      (pss_one (ps_fld (pv 0) pe_dnewK rfl)))))), ?_⟩
    refine ⟨_, rfl, x, C, dx, [], rfl, hx, T.cl, T.n1, (by decide), ?_⟩
    refine ⟨(by show 0 ≤ sizeLine; omega), fun pe hpe => ?_⟩
    have ne1 : x ≠ pe := fun z => by rw [z, upd_same] at hpe; cases hpe
    refine ⟨_, rfl, x, C, dx, _, rfl, (by rw [upd_ne ne1]; exact upd_same), T.cl, T.n2, Nat.lt_of_lt_of_le (putF_lt (n := 1) (by decide)) (by decide), ?_⟩
    refine ⟨(by show 0 ≤ sizeLine; omega), fun pb hpb => ?_⟩
    have ne2 : x ≠ pb := fun z => by rw [z, upd_same] at hpb; cases hpb
    refine ⟨_, rfl, x, C, dx, _, rfl, (by rw [upd_ne ne2]; exact upd_same), T.cl, T.n3, Nat.lt_of_lt_of_le (putF_lt (n := 2) (putF_lt (n := 1) (by decide))) (by decide), ?_⟩
    refine ⟨(by show 0 ≤ sizeLine; omega), fun pt hpt => ?_⟩
    have ne3 : x ≠ pt := fun z => by rw [z, upd_same] at hpt; cases hpt
    refine ⟨_, rfl, x, C, dx, _, rfl, (by rw [upd_ne ne3]; exact upd_same), T.cl, T.n4, Nat.lt_of_lt_of_le (putF_lt (n := 3) (putF_lt (n := 2) (putF_lt (n := 1) (by decide)))) (by decide), ?_⟩
    refine fun pn hpn => ?_
    have ne4 : x ≠ pn := fun z => by rw [z, upd_same] at hpn; cases hpn
    refine ⟨_, rfl, x, C, dx, _, rfl, (by rw [upd_ne ne4]; exact upd_same), T.cl, T.n5, Nat.lt_of_lt_of_le (putF_lt (n := 4) (putF_lt (n := 3) (putF_lt (n := 2) (putF_lt (n := 1) (by decide))))) (by decide), ?_⟩
    have d1 : pe ≠ pb := fun z => by rw [← z, upd_ne ne1.symm, upd_same] at hpb; cases hpb
    have d2 : pe ≠ pt := fun z => by rw [← z, upd_ne ne1.symm, upd_ne d1, upd_ne ne1.symm, upd_same] at hpt; cases hpt
    have d3 : pb ≠ pt := fun z => by rw [← z, upd_ne ne2.symm, upd_same] at hpt; cases hpt
    have d4 : pe ≠ pn := fun z => by rw [← z, upd_ne ne1.symm, upd_ne d2, upd_ne ne1.symm, upd_ne d1, upd_ne ne1.symm, upd_same] at hpn; cases hpn
    have d5 : pb ≠ pn := fun z => by rw [← z, upd_ne ne2.symm, upd_ne d3, upd_ne ne2.symm, upd_same] at hpn; cases hpn
    have d6 : pt ≠ pn := fun z => by rw [← z, upd_ne ne3.symm, upd_same] at hpn; cases hpn
    have fe : H pe = none := by rw [upd_ne ne1.symm] at hpe; exact hpe
    have fb : H pb = none := by rw [upd_ne ne2.symm, upd_ne d1.symm, upd_ne ne2.symm] at hpb; exact hpb
    have ft : H pt = none := by rw [upd_ne ne3.symm, upd_ne d3.symm, upd_ne ne3.symm, upd_ne d2.symm, upd_ne ne3.symm] at hpt; exact hpt
    have fn : H pn = none := by rw [upd_ne ne4.symm, upd_ne d6.symm, upd_ne ne4.symm, upd_ne d5.symm, upd_ne ne4.symm, upd_ne d4.symm, upd_ne ne4.symm] at hpn; exact hpn
    have eF := grF_init (A := ⟨x, dx, pe, pb, pt, pn⟩) (l := [])
    rw [← e_nil] at eF
    refine q ⟨x, dx, pe, pb, pt, pn⟩ _ rfl ⟨fun c e => hB c ?dom, by decide, ?_, ⟨[], ?_, ReV.nil, fun p h => by cases h⟩, ?_, ⟨[], ?_, ReV.nil⟩, ⟨[], ?_, by simp, fun y => rfl⟩, d1, d2, d3⟩ fe fb ft fn ?_
    case dom =>
      cases h : H c with
      | none => rfl
      | some o =>
        by_cases hc : c = x
        · rw [hc, upd_same] at e; cases e
        · rw [upd_ne hc, upd_ne (ne_of_none h fn), upd_ne hc, upd_ne (ne_of_none h ft), upd_ne hc, upd_ne (ne_of_none h fb), upd_ne hc, upd_ne (ne_of_none h fe), upd_ne hc, h] at e
          cases e
    · exact Eq.trans upd_same (congrArg (fun l => some (HO.ins C dx l)) eF)
    · rw [upd_ne ne1.symm, upd_ne d4, upd_ne ne1.symm, upd_ne d2, upd_ne ne1.symm, upd_ne d1, upd_ne ne1.symm, upd_same]
    · rw [upd_ne ne2.symm, upd_ne d5, upd_ne ne2.symm, upd_ne d3, upd_ne ne2.symm, upd_same]; rfl
    · rw [upd_ne ne3.symm, upd_ne d6, upd_ne ne3.symm, upd_same]
    · rw [upd_ne ne4.symm, upd_same]
    · intro c o e hc
      rw [upd_ne hc, upd_ne (ne_of_none e fn), upd_ne hc, upd_ne (ne_of_none e ft), upd_ne hc, upd_ne (ne_of_none e fb), upd_ne hc, upd_ne (ne_of_none e fe), upd_ne hc]
      exact e
end
end Mr

namespace Mr
open PySem L2
section
variable {P : Program} {w : World} {K : PySem.W.Frag} {mg : Str → Option Value} {base : Heap}
theorem scGE : FnScope ["self"] ["self"] (defScope s_Grower_ends) := ⟨rfl, rfl, rfl, by decide +kernel, rfl, by decide +kernel, by decide +kernel⟩
set_option maxHeartbeats 4000000 in
theorem ok_gends {C : Addr} (a : AtM K C "ends" "Grower.ends" s_Grower_ends ["self"]) (T : ClG K mg C) (z_list : mg "list" = none) : Mt P w K mg base 1 C "ends" ["self"] (spGEnds C) := by
  refine a.mt fun f fd F => ?_
  refine F.ok scGE (fun vs H Q E h => ?_) (fun cdv A' outer s H vs Q E hr h => ?_)
  · obtain ⟨_, _, rfl, _⟩ := h
    rfl
  · obtain ⟨A, l, rfl, ⟨hlen, hins, xs, hpe, hL⟩, q⟩ := h
    refine ⟨_, (pss_one (ps_ret (pe_ifExp (pt_cmpR (op_neNil hr.units0) (pe_fld (pv 0) rfl) (pe_lst pa_nil) (nomark _)) (pe_callTy call_list_of (by rfl) z_list bt_list (pa_cons (pe_ix ix_list (pe_fld (pv 0) rfl) (pe_un un_neg pe_int) (fun _ _ => rfl)) pa_nil)) (pe_lst pa_nil)))), ?_⟩
    refine ⟨_, rfl, A.g, C, A.dx, _, _, rfl, hins, T.cl, T.n2, grF_endings, (by show 0 ≤ sizeLine; omega), fun pz hpz => ?_⟩
    have s1 : Same H (upd H pz (.lst [])) := Same.upd hpz
    have f1 : upd H pz (.lst []) pz = some (.lst []) := upd_same
    generalize upd H pz (.lst []) = H1 at s1 f1
    refine ⟨A.pe, pz, xs, rfl, rfl, s1 _ _ hpe, f1, _, rfl, ?_⟩
    have hxl : xs.length = l.length := by rw [hL.1, grEnds_len]
    by_cases h0 : l = []
    · have ex : xs = [] := List.eq_nil_of_length_eq_zero (by rw [hxl, h0]; rfl)
      rw [ex, if_pos rfl]
      refine iteF ⟨(by show 0 ≤ sizeLine; omega), fun p hp => ?_⟩
      refine q p _ (s1.free hp) ?_ (s1.trans (Same.upd hp))
      rw [upd_same, h0]; rfl
    · have hl1 : 0 < l.length := List.length_pos_iff.mpr h0
      have ee : (!xs.isEmpty) = true := by
        cases e : xs with
        | nil => rw [e] at hxl; simp at hxl; omega
        | cons x r => rfl
      rw [if_pos rfl, ee]
      have hg : (grEnds l)[l.length - 1]? = some (endsN l) := by
        unfold grEnds
        rw [List.getElem?_map, List.getElem?_range (by omega)]
        show some (endsN (l.take (l.length - 1 + 1))) = _
        rw [show l.length - 1 + 1 = l.length by omega, List.take_of_length_le (Nat.le_refl _)]
      obtain ⟨pw, at1, hpw⟩ := (hL.mono (H' := H1) fun p e h => s1 _ _ h).at hg
      have atl : atI xs (-1) = some (V.ref pw) := by
        have := atI_neg (xs := xs) (d := 1) (Nat.le_refl _) (by omega)
        rw [hxl, at1] at this
        exact this
      refine iteT ⟨_, rfl, A.g, C, A.dx, _, _, rfl, s1 _ _ hins, T.cl, T.n2, grF_endings, _, rfl, A.pe, _, _, _, rfl, rfl, SqL.of (s1 _ _ hpe), atl, pw, _, rfl, .inl (SqL.of hpw), fun p hp => ?_⟩
      exact q p _ (s1.free hp) upd_same (s1.trans (Same.upd hp))
end
end Mr

namespace Mr
open PySem L2
section
variable {P : Program} {w : World} {K : PySem.W.Frag} {mg : Str → Option Value} {base : Heap}
theorem scGA : FnScope ["self", "sign", "entry", "new"] ["self", "sign"] (defScope s_Grower_add) := ⟨rfl, rfl, rfl, by decide +kernel, rfl, by decide +kernel, by decide +kernel⟩
set_option maxHeartbeats 16000000 in
theorem ok_gadd {C : Addr} (a : AtM K C "add" "Grower.add" s_Grower_add ["self", "sign"]) (T : ClG K mg C) (d_is_row : Df P w K mg base 1 "is_row" ["thing"] (spIsRow K)) (d_ends_with : Df P w K mg base 1 "ends_with" ["row", "lengths", "sign"] spEW) (m_ends : Mt P w K mg base 1 C "ends" ["self"] (spGEnds C)) (d_longest_entry : Df P w K mg base 1 "longest_entry" ["row", "lengths", "numbers"] spLE) (z_len : mg "len" = none) {tM : Tok} (hM : mg "MOST_SIGNS" = some (.int 200 tM)) : Mt P w K mg base 2 C "add" ["self", "sign"] (spAdd C) := by
  refine a.mt fun f fd F => ?_
  refine F.ok scGA (fun vs H Q E h => ?_) (fun cdv A' outer s H vs Q E hr h => ?_)
  · obtain ⟨_, _, _, _, rfl, _⟩ := h
    rfl
  · obtain ⟨B, A, l, c, rfl, gv, hc1, hc2, hlen, q⟩ := h
    have hlc : (l ++ [c]).length = l.length + 1 := by rw [List.length_append]; rfl
    have hrc : rowV (.str (tx [c])) = true := rowL_iff.mpr ⟨by show 1 ≤ 200; decide, fun z hz => by rw [List.mem_singleton.mp hz]; exact ⟨hc1, hc2⟩⟩
    have hrow' : rowL (l ++ [c]) = true := rowL_iff.mpr ⟨by omega, fun z hz => by
      rcases List.mem_append.mp hz with hz | hz
      · exact (rowL_iff.mp gv.row).2 z hz
      · rw [List.mem_singleton.mp hz]; exact ⟨hc1, hc2⟩⟩
    have hz : l.length ≤ sizeLine := by rw [sizeLine_eq]; omega
    refine ⟨_, (pss_cons (ps_if (PW.pt (pw_or (pt_not (pt_val (pe_df d_is_row hr rfl (pa_cons (pv 1) pa_nil)))) (pw_or1 (pt_cmpR op_ne (pe_callB call_len_str (by rfl) z_len bt_len (pa_cons (pv 1) pa_nil)) pe_int (nomark _))))) (pss_one ps_never) pss_nil)
      (pss_cons (ps_if (pt_cmpR op_eq (pe_callB call_len_str (by rfl) z_len bt_len (pa_cons (pe_fld (pv 0) rfl) pa_nil)) (pe_glob (v := .int 200) (by rfl) hM ⟨_, rfl⟩) (nomark _)) (pss_one ps_never) pss_nil)
      (pss_cons (ps_expr (pe_bm PySem.F.plainAttrs_list PySem.F.slot_list_append PySem.F.type_list_append mt_append (pe_fld (pv 0) rfl) (pa_cons (pe_df d_ends_with hr rfl (pa_cons (pe_fld (pv 0) rfl) (pa_cons (pe_mt0 m_ends T.cl hr (pv 0)) (pa_cons (pv 1) pa_nil)))) pa_nil)))
      (pss_cons (ps_fld (pv 0) (pe_op op_addS (pe_fld (pv 0) rfl) (pv 1)) rfl)
      (pss_cons (ps_set (i := 2) scGA.nd rfl (Or.inl rfl) (pe_df d_longest_entry hr rfl (pa_cons (pe_fld (pv 0) rfl) (pa_cons (pe_mt0 m_ends T.cl hr (pv 0)) (pa_cons (pe_fld (pv 0) rfl) pa_nil)))))
      (pss_cons (ps_set (i := 3) scGA.nd rfl (Or.inl rfl) (pe_cmp (pc_dnotin hr.unitsD (pe_ix ix_tup (pv 2) pe_int (fun _ _ => rfl)) (pe_fld (pv 0) rfl))))
      (pss_cons (ps_expr (pe_bm PySem.F.plainAttrs_list PySem.F.slot_list_append PySem.F.type_list_append mt_append (pe_fld (pv 0) rfl) (pa_cons (pv 3) pa_nil)))
      (pss_cons (ps_join (ps_if (pt_val (pv 3)) (pss_cons (ps_dput hr.unitsD (pe_fld (pv 0) rfl) (pe_ix ix_tup (pv 2) pe_int (fun _ _ => rfl)) (pe_callB call_len_seq (by rfl) z_len bt_len (pa_cons (pe_fld (pv 0) rfl) pa_nil)) rfl)
      (pss_one (ps_expr (pe_bm PySem.F.plainAttrs_list PySem.F.slot_list_append PySem.F.type_list_append mt_append (pe_fld (pv 0) rfl) (pa_cons (pv 2) pa_nil))))) pss_nil))
      (pss_one (ps_ret (pe_tup (pa_cons (pe_dget hr.unitsD (pe_fld (pv 0) rfl) (pe_ix ix_tup (pv 2) pe_int (fun _ _ => rfl)) (fun _ _ => rfl)) (pa_cons (pv 3) pa_nil))))))))))))), ?_⟩
    refine ⟨_, rfl, _, rfl, .inl ⟨[c], rfl, by show 1 ≤ 100000; decide⟩, fun H1 s1 => ⟨_, rfl, ?_⟩⟩
    rw [hrc]
    refine iteF ⟨_, rfl, tx [c], rfl, (by rw [tx_len, sizeLine_eq]; show 1 ≤ _; decide), rfl, _, rfl, ?_⟩
    rw [tx_len, show (!decide (V.int ((([c] : List Nat).length : Nat) : Int) = V.int 1)) = false by rw [decide_eq_true (show V.int ((([c] : List Nat).length : Nat) : Int) = V.int 1 from rfl)]; rfl]
    have gv1 := gv.same s1
    obtain ⟨hdom, hrow, hins, ⟨xs, hpe, hL, hfre⟩, hpb, ⟨ts, hpt, hT⟩, ⟨kvs, hkv, hkl, hkx⟩, d1, d2, d3⟩ := gv1
    have hxl : xs.length = l.length := by rw [hL.1, grEnds_len]
    have gge : A.g ≠ A.pe := fun z => by rw [z, hpe] at hins; cases hins
    have ggb : A.g ≠ A.pb := fun z => by rw [z, hpb] at hins; cases hins
    have ggt : A.g ≠ A.pt := fun z => by rw [z, hpt] at hins; cases hins
    have ggn : A.g ≠ A.pn := fun z => by rw [z, hkv] at hins; cases hins
    have gen_ : A.pe ≠ A.pn := fun z => by rw [z, hkv] at hpe; cases hpe
    have gbn : A.pb ≠ A.pn := fun z => by rw [z, hkv] at hpb; cases hpb
    have gtn : A.pt ≠ A.pn := fun z => by rw [z, hkv] at hpt; cases hpt
    refine iteF ⟨_, rfl, A.g, C, A.dx, _, _, rfl, hins, T.cl, T.n1, grF_signs, tx l, rfl, (by rw [tx_len]; exact hz), rfl, _, rfl, ?_⟩
    rw [tx_len, decide_eq_false (show ¬ V.int ((l.length : Nat) : Int) = V.int 200 from fun z => by injection z with z; omega)]
    -- the ends with the new sign
    refine iteF ⟨_, rfl, A.g, C, A.dx, _, _, rfl, hins, T.cl, T.n2, grF_endings, .inl ⟨rfl, _, SqL.of hpe⟩, _, rfl, A.g, C, A.dx, _, _, rfl, hins, T.cl, T.n1, grF_signs, _, rfl, A.g, A.dx, _, rfl, hins, grF_no (by decide +kernel), A, l, rfl, ⟨by omega, hins, xs, hpe, hL⟩, fun p2 H2 hf2 hp2 s2 => ⟨_, rfl, l, p2, c, rfl, by omega, hp2, fun pw H3 hf3 hpw s3 => ?_⟩⟩
    have t3 := s2.trans s3
    refine ⟨A.pe, xs, _, rfl, rfl, t3 _ _ hpe, (by rw [hxl, sizeLine_eq]; omega), ?_⟩
    have nwe : pw ≠ A.pe := fun z => by rw [z, s2 _ _ hpe] at hf3; cases hf3
    have nwb : pw ≠ A.pb := fun z => by rw [z, s2 _ _ hpb] at hf3; cases hf3
    have nwt : pw ≠ A.pt := fun z => by rw [z, s2 _ _ hpt] at hf3; cases hf3
    have nwg : pw ≠ A.g := fun z => by rw [z, s2 _ _ hins] at hf3; cases hf3
    have i4 : upd H3 A.pe (.lst (xs ++ [.ref pw])) A.g = some (.ins C A.dx (grF A l)) := by rw [upd_ne gge]; exact t3 _ _ hins
    refine ⟨_, rfl, A.g, C, A.dx, _, _, rfl, i4, T.cl, T.n1, grF_signs, _, rfl, l, [c], rfl, rfl, (by rw [sizeLine_eq]; show _ + 1 ≤ _; omega), _, rfl, A.g, C, A.dx, _, rfl, i4, T.cl, T.n1, (by rw [grF_len]; decide), ?_⟩
    rw [grF_put]
    -- the heap as it stands now
    have b5 : ∀ x o, H1 x = some o → x ≠ A.g → x ≠ A.pe → upd (upd H3 A.pe (.lst (xs ++ [.ref pw]))) A.g (.ins C A.dx (grF A (l ++ [c]))) x = some o := fun x o e n1 n2 => by rw [upd_ne n1, upd_ne n2]; exact t3 _ _ e
    have i5 : upd (upd H3 A.pe (.lst (xs ++ [.ref pw]))) A.g (.ins C A.dx (grF A (l ++ [c]))) A.g = some (.ins C A.dx (grF A (l ++ [c]))) := upd_same
    have e5 : upd (upd H3 A.pe (.lst (xs ++ [.ref pw]))) A.g (.ins C A.dx (grF A (l ++ [c]))) A.pe = some (.lst (xs ++ [.ref pw])) := by rw [upd_ne gge.symm, upd_same]
    have L5 : LenV (upd (upd H3 A.pe (.lst (xs ++ [.ref pw]))) A.g (.ins C A.dx (grF A (l ++ [c])))) (xs ++ [.ref pw]) (grEnds (l ++ [c])) := by
      rw [grEnds_snoc]
      refine ReV.push ⟨hL.1, fun j x e h1 h2 => ?_⟩ (by rw [upd_ne nwg, upd_ne nwe]; exact hpw)
      obtain ⟨p, rfl, hp⟩ := hL.2 j x e h1 h2
      obtain ⟨f1, f2, f3, _⟩ := hfre p (List.mem_of_getElem? h1)
      have f4 : p ≠ A.g := fun z => by rw [z, hins] at hp; cases hp
      exact ⟨p, rfl, b5 _ _ hp f4 f1⟩
    generalize upd (upd H3 A.pe (.lst (xs ++ [.ref pw]))) A.g (.ins C A.dx (grF A (l ++ [c]))) = H5 at b5 i5 e5 L5
    have pb5 := b5 _ _ hpb ggb.symm d1.symm
    have pt5 := b5 _ _ hpt ggt.symm d2.symm
    have pn5 := b5 _ _ hkv ggn.symm gen_.symm
    refine ⟨_, rfl, A.g, C, A.dx, _, _, rfl, i5, T.cl, T.n1, grF_signs, _, rfl, A.g, A.dx, _, rfl, i5, grF_no (by decide +kernel), A, l ++ [c], rfl, ⟨by omega, i5, _, e5, L5⟩, fun p6 H6 hf6 hp6 s6 => ?_⟩
    refine ⟨_, rfl, A.g, C, A.dx, _, _, rfl, s6 _ _ i5, T.cl, T.n5, grF_numbers, l ++ [c], p6, A.pn, mirs l l.length, rfl, by omega, by omega, hp6, ⟨kvs, s6 _ _ pn5, hkl, hkx⟩, fun pq H7 hfq hpq s7 => ?_⟩
    have t7 := s6.trans s7
    have nq : ∀ x o, H5 x = some o → pq ≠ x := fun x o e z => by rw [z, s6 _ _ e] at hfq; cases hfq
    have hpq' : H7 pq = some (.tup [.str (tx (topL (l ++ [c]))), optV (idxO (mirs l l.length) (inner (topL (l ++ [c])))), optV (idxO (mirs l l.length) (lessN (topL (l ++ [c]))))]) := hpq
    have at0 : atI [V.str (tx (topL (l ++ [c]))), optV (idxO (mirs l l.length) (inner (topL (l ++ [c])))), optV (idxO (mirs l l.length) (lessN (topL (l ++ [c]))))] 0 = some (V.str (tx (topL (l ++ [c])))) := atI_nat (j := 0) rfl
    -- new
    refine ⟨_, rfl, pq, _, _, _, rfl, rfl, SqT.of hpq', at0, _, rfl, A.g, C, A.dx, _, _, rfl, t7 _ _ i5, T.cl, T.n5, grF_numbers, A.pn, _, rfl, DGet.k (k := Sum.inr (tx (topL (l ++ [c])))) (t7 _ _ pn5), ?_⟩
    rw [hkx]
    have enew : (!(((idxO (mirs l l.length) (topL (l ++ [c]))).map fun i => V.int (i : Int)).isSome)) = decide (topL (l ++ [c]) ∉ mirs l l.length) := by
      by_cases hm : topL (l ++ [c]) ∈ mirs l l.length
      · rw [decide_eq_false (fun z => z hm)]; unfold idxO; rw [if_pos hm]; rfl
      · rw [decide_eq_true hm, idxO_none hm]; rfl
    rw [enew]
    refine ⟨_, rfl, A.g, C, A.dx, _, _, rfl, t7 _ _ i5, T.cl, T.n3, grF_brought, .inl ⟨rfl, _, SqL.of (t7 _ _ pb5)⟩, _, rfl, A.pb, _, _, rfl, rfl, t7 _ _ pb5, (by rw [List.length_map, newsN_len, sizeLine_eq]; omega), ?_⟩
    have B8 : ∀ x o, H7 x = some o → x ≠ A.pb → upd H7 A.pb (.lst ((newsN l).map V.bl ++ [.bl (decide (topL (l ++ [c]) ∉ mirs l l.length))])) x = some o := fun x o e n => by rw [upd_ne n]; exact e
    have n8 : upd H7 A.pb (.lst ((newsN l).map V.bl ++ [.bl (decide (topL (l ++ [c]) ∉ mirs l l.length))])) A.pb = some (.lst ((newsN (l ++ [c])).map V.bl)) := by rw [upd_same, newsN_snoc, List.map_append]; rfl
    generalize upd H7 A.pb (.lst ((newsN l).map V.bl ++ [.bl (decide (topL (l ++ [c]) ∉ mirs l l.length))])) = H8 at B8 n8
    have q8 := B8 _ _ hpq' (nq _ _ pb5)
    have i8 := B8 _ _ (t7 _ _ i5) ggb
    have e8 := B8 _ _ (t7 _ _ e5) d1
    have t8 := B8 _ _ (t7 _ _ pt5) d3.symm
    have k8 := B8 _ _ (t7 _ _ pn5) gbn.symm
    have L8 : LenV H8 (xs ++ [.ref pw]) (grEnds (l ++ [c])) := ⟨L5.1, fun j x e h1 h2 => by
      obtain ⟨p, rfl, hp⟩ := L5.2 j x e h1 h2
      refine ⟨p, rfl, B8 _ _ (t7 _ _ hp) ?_⟩
      rcases List.mem_append.mp (List.mem_of_getElem? h1) with z | z
      · exact (hfre p z).2.1
      · have : V.ref p = V.ref pw := List.mem_singleton.mp z
        injection this with this
        rw [this]; exact nwb⟩
    have T8 : TreeV H8 ts (treeN l) := hT.mono fun p e h => B8 _ _ (t7 _ _ (b5 _ _ h (fun z => by rw [z, hins] at h; cases h) (fun z => by rw [z, hpe] at h; cases h))) (fun z => by rw [z, hpb] at h; cases h)
    have fr8 : ∀ p, V.ref p ∈ xs ++ [V.ref pw] → p ≠ A.pe ∧ p ≠ A.pb ∧ p ≠ A.pt ∧ B p = none := fun p hp => by
      rcases List.mem_append.mp hp with z | z
      · exact hfre p z
      · have : V.ref p = V.ref pw := List.mem_singleton.mp z
        injection this with this
        rw [this]; exact ⟨nwe, nwb, nwt, hdom _ (s2.free hf3)⟩
    have BG8 : ButG A H H8 := fun x o e n1 n2 n3 n4 n5 => B8 _ _ (t7 _ _ (b5 _ _ (s1 _ _ e) n1 n2)) n3
    have frq : H pq = none := by
      cases z : H pq with
      | none => rfl
      | some o =>
        exfalso
        by_cases y1 : pq = A.g
        · rw [y1, s6 _ _ i5] at hfq; cases hfq
        · by_cases y2 : pq = A.pe
          · rw [y2, s6 _ _ e5] at hfq; cases hfq
          · rw [s6 _ _ (b5 _ _ (s1 _ _ z) y1 y2)] at hfq; cases hfq
    have DM : ∀ H9 : Hp, ButG A H H9 → H9 A.g ≠ none → H9 A.pe ≠ none → H9 A.pb ≠ none → H9 A.pt ≠ none → H9 A.pn ≠ none → ∀ x, H9 x = none → B x = none := fun H9 bg y1 y2 y3 y4 y5 x e => by
      apply gv.dom
      cases z : H x with
      | none => rfl
      | some o =>
        rw [bg _ _ z (fun w => y1 (w ▸ e)) (fun w => y2 (w ▸ e)) (fun w => y3 (w ▸ e)) (fun w => y4 (w ▸ e)) (fun w => y5 (w ▸ e))] at e
        cases e
    have hml := mirs_len l l.length
    have htl : ts.length = (mirs l l.length).length := by rw [hT.1]; unfold treeN; rw [List.length_map]
    refine ⟨fun σ H' => σ = [some (.ref A.g), some (.str (tx [c])), some (.ref pq), some (.bl (decide (topL (l ++ [c]) ∉ mirs l l.length)))] ∧ H' pq = some (.tup [.str (tx (topL (l ++ [c]))), optV (idxO (mirs l l.length) (inner (topL (l ++ [c])))), optV (idxO (mirs l l.length) (lessN (topL (l ++ [c]))))]) ∧ GrV B C H' A (l ++ [c]) ∧ ButG A H H', ?_, ?_⟩
    · rintro σ H9 ⟨rfl, q9, g9, b9⟩
      obtain ⟨kv9, k9, kl9, kx9⟩ := g9.nums
      have hv : valV kv9 (Sum.inr (tx (topL (l ++ [c])))) = some (V.int (((mirs (l ++ [c]) (l ++ [c]).length).idxOf (topL (l ++ [c])) : Nat) : Int)) := by
        rw [kx9]; unfold idxO; rw [if_pos (topL_in l c)]; rfl
      have dg := DGet.k (k := Sum.inr (tx (topL (l ++ [c])))) k9
      rw [hv] at dg
      refine ⟨_, rfl, A.g, C, A.dx, _, _, rfl, g9.ins, T.cl, T.n5, grF_numbers, _, rfl, pq, _, _, _, rfl, rfl, SqT.of q9, at0, A.pn, _, rfl, dg, _, rfl, (by show 2 ≤ sizeLine; decide), fun pr hpr => ?_⟩
      have frr : H pr = none := by
        cases z : H pr with
        | none => rfl
        | some o =>
          exfalso
          have : H9 pr = none := hpr
          by_cases y1 : pr = A.g
          · rw [y1, g9.ins] at this; cases this
          by_cases y2 : pr = A.pe
          · obtain ⟨_, y, _⟩ := g9.ends; rw [y2, y] at this; cases this
          by_cases y3 : pr = A.pb
          · rw [y3, g9.news] at this; cases this
          by_cases y4 : pr = A.pt
          · obtain ⟨_, y, _⟩ := g9.tree; rw [y4, y] at this; cases this
          by_cases y5 : pr = A.pn
          · rw [y5, k9] at this; cases this
          rw [b9 _ _ z y1 y2 y3 y4 y5] at this; cases this
      exact q pr _ frr upd_same (g9.same (Same.upd hpr)) (b9.trans (ButG.of (Same.upd hpr)))
    · refine ⟨_, rfl, _, rfl, ?_⟩
      by_cases hm : topL (l ++ [c]) ∈ mirs l l.length
      · rw [decide_eq_false (fun z => z hm)]
        refine iteF ⟨rfl, q8, ⟨DM H8 BG8 (by rw [i8]; simp) (by rw [e8]; simp) (by rw [n8]; simp) (by rw [t8]; simp) (by rw [k8]; simp), hrow', i8, ⟨_, e8, L8, fr8⟩, n8, ⟨ts, t8, ?_⟩, ⟨kvs, k8, ?_, ?_⟩, d1, d2, d3⟩, BG8⟩
        · rw [treeN_snoc, if_pos hm]; exact T8
        · rw [mirs_all_snoc, if_pos hm]; exact hkl
        · rw [mirs_all_snoc, if_pos hm]; exact hkx
      · rw [decide_eq_true hm]
        refine iteT ⟨_, rfl, A.g, C, A.dx, _, _, rfl, i8, T.cl, T.n4, grF_entries, A.pt, _, rfl, .inl (SqL.of t8), _, rfl, A.g, C, A.dx, _, _, rfl, i8, T.cl, T.n5, grF_numbers, _, rfl, pq, _, _, _, rfl, rfl, SqT.of q8, at0, A.pn, _, rfl, DPut.k (k := Sum.inr (tx (topL (l ++ [c])))) k8 (by rw [sizeLine_eq]; omega), ?_⟩
        have B9 : ∀ x o, H8 x = some o → x ≠ A.pn → upd H8 A.pn (.dK (putK kvs (Sum.inr (tx (topL (l ++ [c])))) (.int (ts.length : Int)))) x = some o := fun x o e n => by rw [upd_ne n]; exact e
        have n9 : upd H8 A.pn (.dK (putK kvs (Sum.inr (tx (topL (l ++ [c])))) (.int (ts.length : Int)))) A.pn = some (.dK (putK kvs (Sum.inr (tx (topL (l ++ [c])))) (.int (ts.length : Int)))) := upd_same
        generalize upd H8 A.pn (.dK (putK kvs (Sum.inr (tx (topL (l ++ [c])))) (.int (ts.length : Int)))) = H9 at B9 n9
        have i9 := B9 _ _ i8 ggn
        have t9 := B9 _ _ t8 gtn
        refine ⟨_, rfl, A.g, C, A.dx, _, _, rfl, i9, T.cl, T.n4, grF_entries, .inl ⟨rfl, _, SqL.of t9⟩, _, rfl, A.pt, ts, _, rfl, rfl, t9, (by rw [htl, sizeLine_eq]; omega), ?_⟩
        have nqt : pq ≠ A.pt := nq _ _ pt5
        have nqn : pq ≠ A.pn := nq _ _ pn5
        have q9 := B9 _ _ q8 nqn
        have B10 : ∀ x o, H9 x = some o → x ≠ A.pt → upd H9 A.pt (.lst (ts ++ [.ref pq])) x = some o := fun x o e n => by rw [upd_ne n]; exact e
        have BG10 : ButG A H (upd H9 A.pt (.lst (ts ++ [.ref pq]))) := fun x o e n1 n2 n3 n4 n5 => B10 _ _ (B9 _ _ (BG8 _ _ e n1 n2 n3 n4 n5) n5) n4
        refine ⟨rfl, B10 _ _ q9 nqt, ⟨DM _ BG10 (by rw [B10 _ _ i9 ggt]; simp) (by rw [B10 _ _ (B9 _ _ e8 gen_) d2]; simp) (by rw [B10 _ _ (B9 _ _ n8 gbn) d3]; simp) (by rw [upd_same]; simp) (by rw [B10 _ _ n9 gtn.symm]; simp), hrow', B10 _ _ i9 ggt, ⟨_, B10 _ _ (B9 _ _ e8 gen_) d2, ⟨L8.1, fun j x e h1 h2 => ?_⟩, fr8⟩, B10 _ _ (B9 _ _ n8 gbn) d3, ⟨ts ++ [.ref pq], upd_same, ?_⟩, ⟨_, B10 _ _ n9 gtn.symm, ?_, ?_⟩, d1, d2, d3⟩, BG10⟩
        · obtain ⟨p, rfl, hp⟩ := L8.2 j x e h1 h2
          exact ⟨p, rfl, B10 _ _ (B9 _ _ hp (fun z => by rw [z, k8] at hp; cases hp)) (fr8 p (List.mem_of_getElem? h1)).2.2.1⟩
        · rw [treeN_snoc, if_neg hm]
          refine ReV.push (T8.mono fun p e h => B10 _ _ (B9 _ _ h (fun z => by rw [z, k8] at h; cases h)) (fun z => by rw [z, t8] at h; cases h)) ?_
          exact B10 _ _ q9 nqt
        · have := length_putK kvs (Sum.inr (tx (topL (l ++ [c])))) (.int (ts.length : Int))
          rw [mirs_all_snoc, if_neg hm, List.length_append]
          show _ ≤ 1000 + ((mirs l l.length).length + 1)
          omega
        · intro x
          rw [valV_put, mirs_all_snoc, if_neg hm]
          by_cases hx : x = topL (l ++ [c])
          · rw [hx, if_pos rfl, idxO_last hm, htl]; rfl
          · have nx : ¬ (Sum.inr (tx x) : Key) = Sum.inr (tx (topL (l ++ [c]))) := fun z => hx (tx_inj (Sum.inr.inj z))
            rw [if_neg nx, hkx, idxO_snoc hx]
end
end Mr

namespace Mr
open PySem L2
section
variable {P : Program} {w : World} {K : PySem.W.Frag} {mg : Str → Option Value} {base : Heap}
theorem scok_wholeg : FnScope ["thing"] ["thing"] (defScope sWhole) := ⟨rfl, rfl, rfl, by decide +kernel, rfl, by decide +kernel, by decide +kernel⟩
theorem ok_wholeg (a : At K mg "is_whole" sWhole ["thing"]) (z_isinstance : mg "isinstance" = none) (z_int : mg "int" = none) (z_bool : mg "bool" = none) : Df P w K mg base 1 "is_whole" ["thing"] (spWholeG K) := by
  refine a.df fun f fd F => ?_
  refine F.ok scok_wholeg (fun vs H Q E h => ?_) (fun cdv A outer s H vs Q E hr h => ?_)
  · obtain ⟨_, rfl, _⟩ := h
    rfl
  · obtain ⟨x, rfl, hS, q⟩ := h
    refine ⟨_, (pss_one (ps_ret (pe_and (pe_callB call_isT (by rfl) z_isinstance bt_isinstance (pa_cons (pv 0) (pa_cons (pe_bltn (v := .ty "int") (by rfl) z_int bt_int rfl) pa_nil))) (pe_one (pe_not (pe_callB call_isT (by rfl) z_isinstance bt_isinstance (pa_cons (pv 0) (pa_cons (pe_bltn (v := .ty "bool") (by rfl) z_bool bt_bool rfl) pa_nil)))))))), ?_⟩
    rcases hS with hS | ⟨hw, t, ty, hk⟩
    · cases x with
      | non => exact ⟨_, rfl, _, "int", _, false, rfl, .non, rfl, _, rfl, iteF q⟩
      | str z => exact ⟨_, rfl, _, "int", _, false, rfl, .str _, rfl, _, rfl, iteF q⟩
      | int i => exact ⟨_, rfl, _, "int", _, true, rfl, .int _, rfl, _, rfl, iteT ⟨_, rfl, _, "bool", _, false, rfl, .int _, rfl, _, rfl, q⟩⟩
      | bl b => exact ⟨_, rfl, _, "int", _, true, rfl, .bl _, rfl, _, rfl, iteT ⟨_, rfl, _, "bool", _, true, rfl, .bl _, rfl, _, rfl, q⟩⟩
      | _ => exact hS.elim
    · rw [hw] at q
      exact ⟨_, rfl, _, "int", _, false, rfl, ty, hk, _, rfl, iteF q⟩
end
end Mr

namespace Mr
open PySem L2
section
variable {P : Program} {w : World} {K : PySem.W.Frag} {mg : Str → Option Value} {base : Heap}
theorem scNM : FnScope ["thing"] ["thing"] (defScope s_need_mirror) := ⟨rfl, rfl, rfl, by decide +kernel, rfl, by decide +kernel, by decide +kernel⟩
theorem ok_need_mirror {C : Addr} (a : At K mg "need_mirror" s_need_mirror ["thing"]) (er : Er K mg "NoMirror" C) (d_is_mirror : Df P w K mg base 4 "is_mirror" ["thing"] (spIsMirror K)) : DfX P w K mg base 5 "need_mirror" ["thing"] (spNM K C) := by
  refine a.dfx fun f fd F => ?_
  refine F.okx scNM (fun vs H Q E h => ?_) (fun cdv A outer s H vs Q E hr h => ?_)
  · obtain ⟨_, rfl, _⟩ := h
    rfl
  · obtain ⟨x, rfl, hc⟩ := h
    have one : 1 ≤ sizeLine := by decide
    refine ⟨_, (pss_one (ps_if (pt_not (pt_val (pe_df d_is_mirror hr rfl (pa_cons (pv 0) pa_nil)))) (pss_one (ps_raiseV lv_cx rfl er (by rfl) (pa_str pa_nil))) pss_nil)), ?_⟩
    rcases hc with ⟨t, rfl, hm, hl, q⟩ | ⟨hT, hm, q⟩
    · refine ⟨_, rfl, _, rfl, .inl ⟨t, rfl, hl⟩, fun H2 s2 => ⟨_, rfl, ?_⟩⟩
      rw [hm]
      exact iteF (q H2 s2)
    · refine ⟨_, rfl, _, rfl, hT, fun H2 s2 => ⟨_, rfl, ?_⟩⟩
      rw [hm]
      exact iteT ⟨one, q H2 s2⟩
end
end Mr

namespace Mr
open PySem L2
section
variable {P : Program} {w : World} {K : PySem.W.Frag} {mg : Str → Option Value} {base : Heap}
theorem scSt : FnScope ["row", "text", "length"] ["row", "text"] (defScope s_stretches) := ⟨rfl, rfl, rfl, by decide +kernel, rfl, by decide +kernel, by decide +kernel⟩
set_option maxHeartbeats 4000000 in
theorem ok_stretches {C : Addr} (a : At K mg "stretches" s_stretches ["row", "text"]) (d_need_row : Df P w K mg base 2 "need_row" ["thing"] spNeed) (d_need_mirror : DfX P w K mg base 5 "need_mirror" ["thing"] (spNM K C)) (z_len : mg "len" = none) (z_range : mg "range" = none) : DfX P w K mg base 6 "stretches" ["row", "text"] (spStrX K C) := by
  refine a.dfx fun f fd F => ?_
  refine F.okx scSt (fun vs H Q E h => ?_) (fun cdv A outer s H vs Q E hr h => ?_)
  · obtain ⟨_, _, rfl, _⟩ := h
    rfl
  · obtain ⟨l, x, rfl, hrow, hc⟩ := h
    have hlen := (rowL_iff.mp hrow).1
    have hz : l.length ≤ sizeLine := by rw [sizeLine_eq]; omega
    refine ⟨_, (pss_cons (ps_expr (pe_df d_need_row hr rfl (pa_cons (pv 0) pa_nil)))
      (pss_cons (ps_expr (pe_dfx d_need_mirror hr rfl lv_cx.px (pa_cons (pv 1) pa_nil)))
      (pss_cons (ps_set (i := 2) scSt.nd rfl (Or.inr rfl) (pe_callB call_len_str (by rfl) z_len bt_len (pa_cons (pv 1) pa_nil)))
      (pss_one (ps_ret (pe_comp (ys := ["length", "text", "row"]) (ix := [2, 1, 0]) ⟨rfl, by decide +kernel, rfl, by decide +kernel, rfl, by decide +kernel, ⟨rfl, rfl, rfl, trivial⟩, rfl, ⟨⟨rfl, rfl, rfl, rfl⟩, ⟨rfl, rfl, rfl, rfl⟩, ⟨rfl, rfl, rfl, rfl⟩, trivial⟩⟩ rfl (pi_range1 rfl z_range (pa_cons (pe_callB call_len_str (by rfl) z_len bt_len (pa_cons (pv 0) pa_nil)) pa_nil)) (fun C fp s H => (pts_one (pt_cmpR op_eq (pe_slice sl_strS (pv 3) (po_some (pv 0)) (po_some (pe_op op_add (pv 0) (pv 1)))) (pv 2) (nomark _)))) (fun C fp s H => (pe_tup (pa_cons (pv 0) (pa_cons (pe_op op_add (pv 0) (pv 1)) pa_nil)))))))))), ?_⟩
    refine ⟨_, rfl, l, rfl, hrow, fun H1 s1 => ?_⟩
    rcases hc with ⟨t, rfl, hm, hl, q⟩ | ⟨hT, hm, q⟩
    · refine ⟨_, rfl, _, rfl, .inl ⟨t, rfl, hm, by omega, fun H2 s2 => ?_⟩⟩
      refine ⟨_, rfl, tx t, rfl, (by rw [tx_len, sizeLine_eq]; omega), ?_⟩
      refine ⟨_, rfl, tx l, rfl, (by rw [tx_len]; exact hz), _, rfl, (by rw [tx_len]; omega), (by rw [tx_len]; omega), ?_⟩
      rw [tx_len, tx_len]
      have en : ((l.length : Int)).toNat = l.length := by omega
      rw [en]
      have t2 := s1.trans s2
      refine comp_range (n := l.length) hz (fun i ys H' => PairV H' ys (occTo l t i) ∧ Same H2 H') ⟨ReV.nil, Same.refl _⟩ ?_ ?_
      · rintro i ys H3 N hi hy ⟨hP, s3⟩ hN
        have ei : (0 : Int) + (i : Int) = (i : Int) := by omega
        have ea : (i : Int) + (t.length : Int) = ((i + t.length : Nat) : Int) := by omega
        refine ⟨_, rfl, _, rfl, _, rfl, _, rfl, _, rfl, _, _, rfl, rfl, _, rfl, l, rfl, hz, _, rfl, rfl, _, rfl, ?_⟩
        rw [ei, ea, cut_any (by omega) (by omega), show i + t.length - i = t.length by omega, dec_tx]
        have hst := occTo_succ l t i
        by_cases hb : (l.drop i).take t.length = t
        · rw [decide_eq_true hb]
          rw [if_pos hb] at hst
          refine iteT ⟨_, rfl, _, rfl, _, rfl, _, _, rfl, rfl, (by show 2 ≤ sizeLine; decide), fun pq hpq => hN _ _ (by rw [List.length_append]; simp; omega) ⟨?_, s3.trans (Same.upd hpq)⟩⟩
          rw [hst]
          refine ReV.push (hP.mono fun p e h => (Same.upd hpq) _ _ h) ?_
          rw [upd_same]
          show some (HO.tup [V.int (i : Int), V.int ((i : Int) + (t.length : Int))]) = some (pairV (i, i + t.length))
          rw [ea]; rfl
        · rw [decide_eq_false hb]
          rw [if_neg hb, List.append_nil] at hst
          exact iteF (hN _ _ (by omega) ⟨by rw [hst]; exact hP, s3⟩)
      · rintro ys H3 hy ⟨hP, s3⟩ p hp
        exact q p ys _ ((t2.trans s3).free hp) upd_same (hP.mono fun p' e h => (Same.upd hp) _ _ h) (t2.trans (s3.trans (Same.upd hp)))
    · exact ⟨_, rfl, _, rfl, .inr ⟨hT.same s1, hm, fun H2 s2 => q H2 (s1.trans s2)⟩⟩
end
end Mr

namespace Mr
open PySem L2
section
variable {P : Program} {w : World} {K : PySem.W.Frag} {mg : Str → Option Value} {base : Heap}
theorem scWy : FnScope ["row", "number", "told", "passed", "step"] ["row", "number"] (defScope s_way) := ⟨rfl, rfl, rfl, by decide +kernel, rfl, by decide +kernel, by decide +kernel⟩
set_option maxHeartbeats 4000000 in
theorem ok_way {C : Addr} (a : At K mg "way" s_way ["row", "number"]) (er : Er K mg "NoNumber" C) (d_tree : Df P w K mg base 5 "tree" ["row"] spTree) (d_is_whole : Df P w K mg base 1 "is_whole" ["thing"] (spWholeG K)) (z_len : mg "len" = none) : DfX P w K mg base 6 "way" ["row", "number"] (spWayX K C) := by
  refine a.dfx fun f fd F => ?_
  refine F.okx scWy (fun vs H Q E h => ?_) (fun cdv A outer s H vs Q E hr h => ?_)
  · obtain ⟨_, _, rfl, _⟩ := h
    rfl
  · obtain ⟨l, x, rfl, hrow, hc⟩ := h
    have one : 1 ≤ sizeLine := by decide
    have hlen := (rowL_iff.mp hrow).1
    have hml := mirs_len l l.length
    refine ⟨_, (pss_cons (ps_set (i := 2) scWy.nd rfl (Or.inl rfl) (pe_df d_tree hr rfl (pa_cons (pv 0) pa_nil)))
      (pss_cons (ps_if (PW.pt (pw_or (pt_not (pt_val (pe_df d_is_whole hr rfl (pa_cons (pv 1) pa_nil)))) (pw_or1 (pt_not (pt_chain op_le op_lt pe_int (pv 1) (pe_callB call_len_seq (by rfl) z_len bt_len (pa_cons (pv 2) pa_nil))))))) (pss_one (ps_raiseV lv_cx rfl er (by rfl) (pa_str pa_nil))) pss_nil)
      (pss_cons (ps_set (i := 3) scWy.nd rfl (Or.inl rfl) (pe_lst pa_nil))
      (pss_cons (ps_set (i := 4) scWy.nd rfl (Or.inl rfl) (pv 1))
      (pss_cons (ps_while PassesOwn.leaving (pt_cmpR op_notN (pv 4) pe_non (nomark _)) (pss_cons (ps_expr (pe_bm PySem.F.plainAttrs_list PySem.F.slot_list_append PySem.F.type_list_append mt_append (pv 3) (pa_cons (pv 4) pa_nil)))
      (pss_one (ps_set (i := 4) scWy.nd rfl (Or.inl rfl) (pe_ix ix_tup (pe_ix ix_list (pv 2) (pv 4) (fun _ _ => rfl)) pe_int (fun _ _ => rfl))))))
      (pss_one (ps_ret (pv 3)))))))), ?_⟩
    refine ⟨_, rfl, l, rfl, hrow, fun pd xs H1 hfd hpd hTd s1 => ?_⟩
    have hxl : xs.length = (mirs l l.length).length := by rw [hTd.1]; unfold treeN; rw [List.length_map]
    rcases hc with ⟨j, t, rfl, hj, q⟩ | ⟨⟨hk, hno⟩, q⟩
    · have hjl := (List.getElem?_eq_some_iff.mp hj).1
      obtain ⟨r1, r2, r3, r4⟩ := mirs_row (Nat.le_refl _) hrow (List.mem_of_getElem? hj)
      have hte := List.mem_of_getElem? hj
      refine ⟨_, rfl, _, rfl, .inl trivial, _, rfl, iteF ⟨_, rfl, _, _, rfl, rfl, _, rfl, ?_⟩⟩
      rw [decide_eq_true (show (0 : Int) ≤ (j : Int) by omega)]
      refine iteT ⟨_, rfl, pd, _, rfl, .inl (SqL.of hpd), _, _, rfl, rfl, _, rfl, ?_⟩
      rw [hxl, decide_eq_true (show (j : Int) < (((mirs l l.length).length : Nat) : Int) by omega)]
      refine iteF ⟨(by show 0 ≤ sizeLine; omega), fun pp hpp => ?_⟩
      have npd : pd ≠ pp := ne_of_none hpd hpp
      have frp : H pp = none := s1.free hpp
      have f1 : upd H1 pp (.lst []) pd = some (.lst xs) := by rw [upd_ne npd]; exact hpd
      have f2 : upd H1 pp (.lst []) pp = some (.lst (lensV ((dueW (mirs l l.length) t).take 0))) := upd_same
      have f3 : TreeV (upd H1 pp (.lst [])) xs (treeN l) := hTd.mono fun p e h => (Same.upd hpp) _ _ h
      have f4 : Same H (upd H1 pp (.lst [])) := s1.trans (Same.upd hpp)
      generalize upd H1 pp (.lst []) = H2 at f1 f2 f3 f4
      have e0 : optV (stepW (mirs l l.length) t 0) = V.int (j : Int) := by
        unfold stepW
        rw [ends_zero r3 r2]
        show V.int (((mirs l l.length).idxOf (t.take t.length) : Nat) : Int) = _
        rw [List.take_of_length_le (Nat.le_refl _)]
        have hu : (mirs l l.length).idxOf t = j := by
          obtain ⟨i1, i2⟩ := idx_first hte
          exact (List.getElem?_inj (List.getElem?_eq_some_iff.mp i1).1 (mirs_nodup l l.length)).mp (i1.trans hj.symm)
        rw [hu]
      refine ⟨_, rfl, ?_⟩
      refine ⟨fun n σ H' => ∃ i : Nat, n = (endsN t).length - i ∧ i ≤ (endsN t).length ∧ σ = [some (V.str (tx l)), some (V.int (j : Int)), some (V.ref pd), some (V.ref pp), some (optV (stepW (mirs l l.length) t i))] ∧ H' pd = some (.lst xs) ∧ H' pp = some (.lst (lensV ((dueW (mirs l l.length) t).take i))) ∧ TreeV H' xs (treeN l) ∧ Same H H', ⟨_, 0, rfl, Nat.zero_le _, by rw [e0]; rfl, f1, f2, f3, f4⟩, ?_⟩
      rintro n σ H3 ⟨i, rfl, hi, rfl, hp3, hq3, hT3, s3⟩
      cases hk : (endsN t)[i]? with
      | none =>
        have e1 : stepW (mirs l l.length) t i = none := by unfold stepW; rw [hk]; rfl
        rw [e1]
        refine ⟨_, rfl, rfl, _, rfl, ?_⟩
        rw [decide_eq_true (show optV none = V.non from rfl)]
        have hd : (dueW (mirs l l.length) t).take i = dueW (mirs l l.length) t := by
          apply List.take_of_length_le
          unfold dueW
          rw [List.length_map]
          exact List.getElem?_eq_none_iff.mp hk
        rw [hd] at hq3
        refine iteF ⟨_, rfl, ?_⟩
        exact q pp H3 frp hq3 s3
      | some k =>
        have e1 : stepW (mirs l l.length) t i = some ((mirs l l.length).idxOf (t.take k)) := by unfold stepW; rw [hk]; rfl
        have hin := way_in (Nat.le_refl _) hte r3 r2 hk
        obtain ⟨i1, i2⟩ := idx_first hin
        have hil := (List.getElem?_eq_some_iff.mp i1).1
        have hie : i < (endsN t).length := (List.getElem?_eq_some_iff.mp hk).1
        have hdl := dueW_len (mirs l l.length) t
        have hne : (endsN t).length ≤ t.length := filt_le _ _
        rw [e1]
        have hej : (treeN l)[(mirs l l.length).idxOf (t.take k)]? = some (entT (mirs l l.length) (t.take k)) := by unfold treeN; rw [List.getElem?_map, i1]; rfl
        have hxj : xs[(mirs l l.length).idxOf (t.take k)]? = some xs[(mirs l l.length).idxOf (t.take k)] := List.getElem?_eq_getElem (by rw [hxl]; exact hil)
        obtain ⟨pe, hpx, hpe⟩ := hT3.2 _ _ _ hxj hej
        rw [hpx] at hxj
        have npe : pe ≠ pp := fun z => by rw [z, hq3] at hpe; cases hpe
        have npd' : pd ≠ pp := npd
        refine ⟨_, rfl, rfl, _, rfl, ?_⟩
        rw [decide_eq_false (show ¬ optV (some ((mirs l l.length).idxOf (t.take k))) = V.non from fun z => by cases z)]
        refine iteT ?_
        refine ⟨fun σ' H' => σ' = [some (V.str (tx l)), some (V.int (j : Int)), some (V.ref pd), some (V.ref pp), some (optV (stepW (mirs l l.length) t (i + 1)))] ∧ H' pd = some (.lst xs) ∧ H' pp = some (.lst (lensV ((dueW (mirs l l.length) t).take (i + 1)))) ∧ TreeV H' xs (treeN l) ∧ Same H H', fun σ' H' ⟨e1, e2, e3, e4, e5⟩ => ⟨(endsN t).length - (i + 1), by omega, i + 1, rfl, hie, e1, e2, e3, e4, e5⟩, ?_⟩
        refine ⟨_, rfl, .inl ⟨rfl, _, SqL.of hq3⟩, _, rfl, pp, _, _, rfl, rfl, hq3, (by rw [lensV_len, List.length_take, sizeLine_eq]; omega), ?_⟩
        have g1 : upd H3 pp (.lst (lensV ((dueW (mirs l l.length) t).take i) ++ [.int (((mirs l l.length).idxOf (t.take k) : Nat) : Int)])) pd = some (.lst xs) := by rw [upd_ne npd']; exact hp3
        have g2 : upd H3 pp (.lst (lensV ((dueW (mirs l l.length) t).take i) ++ [.int (((mirs l l.length).idxOf (t.take k) : Nat) : Int)])) pe = some (.tup [.str (tx (t.take k)), optV (idxO (mirs l l.length) (inner (t.take k))), optV (idxO (mirs l l.length) (lessN (t.take k)))]) := by rw [upd_ne npe]; exact hpe
        refine ⟨_, rfl, _, rfl, pd, _, _, _, rfl, rfl, SqL.of g1, atI_nat hxj, pe, _, _, _, rfl, rfl, SqT.of g2, atI_nat (j := 2) rfl, ?_⟩
        refine ⟨by rw [step_next (Nat.le_refl _) hte r3 r2 hk]; rfl, g1, ?_, hT3.mono fun p e h => ?_, same_upd s3 frp⟩
        · rw [upd_same]
          have hd : (dueW (mirs l l.length) t)[i]? = some ((mirs l l.length).idxOf (t.take k)) := by unfold dueW; rw [List.getElem?_map, hk]; rfl
          rw [List.take_succ, hd, lensV_app]
          rfl
        · have : p ≠ pp := fun z => by rw [z, hq3] at h; cases h
          rw [upd_ne this]; exact h
    · refine ⟨_, rfl, _, rfl, hk.imp id (NoInt.same s1), _, rfl, ?_⟩
      by_cases hw : wholeV x = true
      · rw [hw]
        cases x with
        | int i =>
          refine iteF ⟨_, rfl, _, _, rfl, rfl, _, rfl, ?_⟩
          refine ite2 (fun h1 => ?_) (fun h1 => ⟨_, rfl, iteT ⟨one, q H1 s1⟩⟩)
          have h0 : (0 : Int) ≤ i := of_decide_eq_true h1
          refine ⟨_, rfl, pd, _, rfl, .inl (SqL.of hpd), _, _, rfl, rfl, _, rfl, ?_⟩
          rw [hxl, decide_eq_false (show ¬ i < (((mirs l l.length).length : Nat) : Int) from fun z => hno i.toNat (by rw [Int.toNat_of_nonneg h0]) (by omega))]
          exact iteT ⟨one, q H1 s1⟩
        | _ => cases hw
      · have hw' : wholeV x = false := by simpa using hw
        rw [hw']
        exact iteT (iteT ⟨one, q H1 s1⟩)
end
end Mr

namespace Mr
open PySem L2
section
variable {P : Program} {w : World} {K : PySem.W.Frag} {mg : Str → Option Value} {base : Heap}
theorem scTo : FnScope ["row", "grower"] ["row"] (defScope s_tops) := ⟨rfl, rfl, rfl, by decide +kernel, rfl, by decide +kernel, by decide +kernel⟩
set_option maxHeartbeats 4000000 in
theorem ok_tops {C : Addr} (a : At K mg "tops" s_tops ["row"]) (T : ClG K mg C) (d_need_row : Df P w K mg base 2 "need_row" ["thing"] spNeed) (m_add : Mt P w K mg base 2 C "add" ["self", "sign"] (spAdd C)) (d_Grower : MkC P w K mg base 1 C (spGInit C))  : Df P w K mg base 3 "tops" ["row"] (spLens topsN) := by
  refine a.df fun f fd F => ?_
  refine F.ok scTo (fun vs H Q E h => ?_) (fun cdv A outer s H vs Q E hr h => ?_)
  · obtain ⟨_, rfl, _⟩ := h
    rfl
  · obtain ⟨l, rfl, hrow, q⟩ := h
    obtain ⟨hlen, hlets⟩ := rowL_iff.mp hrow
    have hz : l.length ≤ sizeLine := by rw [sizeLine_eq]; omega
    refine ⟨_, (pss_cons (ps_expr (pe_df d_need_row hr rfl (pa_cons (pv 0) pa_nil)))
      (pss_cons (ps_set (i := 1) scTo.nd rfl (Or.inr rfl) (pe_mk0 d_Grower hr rfl T.mgC))
      (pss_one (ps_ret (pe_comp (ys := ["grower"]) (ix := [1]) ⟨rfl, by decide +kernel, rfl, by decide +kernel, rfl, by decide +kernel, ⟨rfl, trivial⟩, rfl, ⟨⟨rfl, rfl, rfl, rfl⟩, trivial⟩⟩ rfl (pi_str (pv 0)) (fun C fp s H => pts_nil) (fun C fp s H => (pe_ix (ix_tupK (K := K) rfl) (pe_mt (X := cmpCx _ _ _ _ C fp s H) m_add T.cl hr (pv 1) (pa_cons (pv 0) pa_nil)) pe_int (fun _ _ => rfl)))))))), ?_⟩
    refine ⟨_, rfl, l, rfl, hrow, fun HB s1 => ?_⟩
    intro x dx nx ndx nex
    refine ⟨x, dx, HB, rfl, upd_same, (fun c e => by
      have h1 : c ≠ x := fun z => by rw [z, upd_same] at e; cases e
      rw [upd_ne h1] at e
      have h2 : c ≠ dx := fun z => by rw [z, upd_same] at e; cases e
      rw [upd_ne h2] at e
      exact e), fun A HM hA gv fe fb ft fn kp => ⟨rfl, ?_⟩⟩
    have sM0 : Same HB (upd (upd HB dx (.own x)) x (.ins C dx [])) := fun b o e => by
      rw [upd_ne (ne_of_none e nx), upd_ne (ne_of_none e ndx)]
      exact e
    have sM : Same HB HM := fun b o e => kp b o (sM0 b o e) (ne_of_none e nx)
    have fM : GrFree A HB := ⟨by rw [hA]; exact nx, sM0.free fe, sM0.free fb, sM0.free ft, sM0.free fn⟩
    subst hA
    refine ⟨_, rfl, l, rfl, comp_str (l := l) hz (fun i ys H' => ys = lensV ((topsN l).take i) ∧ GrV HB C H' A (l.take i) ∧ Same HB H') ⟨rfl, by rw [List.take_zero]; exact gv, sM⟩ ?_ ?_⟩
    · rintro i c ys H2 N hc hy ⟨rfl, gv2, s2⟩ hN
      have hi : i < l.length := (List.getElem?_eq_some_iff.mp hc).1
      obtain ⟨hc1, hc2⟩ := hlets c (List.mem_of_getElem? hc)
      refine yes_ok (iteT ⟨_, rfl, A.g, A.dx, _, rfl, gv2.ins, grF_no (by decide +kernel), _, rfl, HB, A, l.take i, c, rfl, gv2, hc1, hc2, (by rw [List.length_take]; omega), fun p H3 hfp hp gv3 bg => ?_⟩)
      rw [take_succ_at hc, topL_take (by omega), mirs_take_all (by omega)] at hp
      rw [take_succ_at hc] at gv3
      refine ⟨p, _, _, _, rfl, rfl, SqT.of hp, atI_nat (j := 0) rfl, hN _ _ (by rw [List.length_append]; simp at hy ⊢; try omega) ⟨?_, gv3, bg.same fM s2⟩⟩
      rw [List.take_succ, topsN_at hi, lensV_app]
      rfl
    · rintro ys H2 hy ⟨rfl, gv2, s2⟩ p hp
      rw [List.take_of_length_le (by rw [topsN_len]; exact Nat.le_refl _)]
      exact q p _ ((s1.trans s2).free hp) upd_same (s1.trans (s2.trans (Same.upd hp)))
end
end Mr

namespace Mr
open PySem L2
section
variable {P : Program} {w : World} {K : PySem.W.Frag} {mg : Str → Option Value} {base : Heap}
theorem scDe : FnScope ["row"] ["row"] (defScope s_deeps) := ⟨rfl, rfl, rfl, by decide +kernel, rfl, by decide +kernel, by decide +kernel⟩
set_option maxHeartbeats 4000000 in
theorem ok_deeps (a : At K mg "deeps" s_deeps ["row"]) (d_ends_by_place : Df P w K mg base 4 "ends_by_place" ["row"] spEBP) (z_len : mg "len" = none) : Df P w K mg base 5 "deeps" ["row"] (spLens deepsN) := by
  refine a.df fun f fd F => ?_
  refine F.ok scDe (fun vs H Q E h => ?_) (fun cdv A outer s H vs Q E hr h => ?_)
  · obtain ⟨_, rfl, _⟩ := h
    rfl
  · obtain ⟨l, rfl, hrow, q⟩ := h
    have hlen := (rowL_iff.mp hrow).1
    have hz : l.length ≤ sizeLine := by rw [sizeLine_eq]; omega
    refine ⟨_, (pss_one (ps_ret (pe_comp (ys := []) (ix := []) ⟨rfl, by decide +kernel, rfl, by decide +kernel, rfl, by decide +kernel, trivial, rfl, trivial⟩ rfl (pi_list (pe_slice sl_list (pe_df d_ends_by_place hr rfl (pa_cons (pv 0) pa_nil)) (po_some pe_int) po_none)) (fun C fp s H => pts_nil) (fun C fp s H => (pe_callB (call_len_seqK (K := K) rfl) (by rfl) z_len bt_len (pa_cons (pv 0) pa_nil)))))), ?_⟩
    refine ⟨_, rfl, l, rfl, hrow, fun pr xs H1 hfr hpr hL s1 => ⟨_, rfl, pr, xs, rfl, SqL.of hpr, fun ps hps => ?_⟩⟩
    have hxl : xs.length = l.length + 1 := by rw [hL.1, endsAt_len]
    have ec : cutV xs (some 1) none = xs.drop 1 := cutV_from xs 1
    rw [ec]
    have s2 : Same H1 (upd H1 ps (.lst (xs.drop 1))) := Same.upd hps
    have f2 : upd H1 ps (.lst (xs.drop 1)) ps = some (.lst (xs.drop 1)) := upd_same
    generalize upd H1 ps (.lst (xs.drop 1)) = H2 at s2 f2
    refine ⟨ps, rfl, ⟨_, SqL.of f2⟩, comp_list (K := K) (a := ps) (xs := xs.drop 1) (by rw [List.length_drop, sizeLine_eq]; omega) (fun j ys H' => H' = H2 ∧ ys = lensV ((deepsN l).take j)) ⟨rfl, rfl⟩ (fun j ys H' ⟨e, _⟩ => by rw [e]; exact SqL.of f2) ?_ ?_⟩
    · rintro j x ys H' N hx hy ⟨rfl, rfl⟩ hN
      have hj : j < l.length := by have := (List.getElem?_eq_some_iff.mp hx).1; rw [List.length_drop] at this; omega
      rw [List.getElem?_drop] at hx
      obtain ⟨p, rfl, hp⟩ := hL.2 (1 + j) x _ hx (by rw [Nat.add_comm]; exact endsAt_get (by omega))
      have hp2 : H' p = some (.lst (lensV (endsN (l.take (j + 1))))) := s2 _ _ hp
      refine yes_ok (iteT ⟨_, rfl, p, _, rfl, .inl (SqL.of hp2), hN _ _ (by rw [List.length_append]; simp at hy ⊢; try omega) ⟨rfl, ?_⟩⟩)
      rw [lensV_len, List.take_succ (l := deepsN l), deepsN_at hj, lensV_app]
      rfl
    · rintro ys H' hy ⟨rfl, rfl⟩ p hp
      rw [List.take_of_length_le (by rw [deepsN_len, List.length_drop, hxl]; omega)]
      exact q p _ ((s1.trans s2).free hp) upd_same (s1.trans (s2.trans (Same.upd hp)))
end
end Mr

namespace Mr
open PySem L2
section
variable {P : Program} {w : World} {K : PySem.W.Frag} {mg : Str → Option Value} {base : Heap}
theorem scOf : FnScope ["row", "entries", "many", "number", "less"] ["row"] (defScope s_often) := ⟨rfl, rfl, rfl, by decide +kernel, rfl, by decide +kernel, by decide +kernel⟩
set_option maxHeartbeats 8000000 in
theorem ok_often (a : At K mg "often" s_often ["row"]) (d_tree : Df P w K mg base 5 "tree" ["row"] spTree) (d_tops : Df P w K mg base 3 "tops" ["row"] (spLens topsN)) (z_dict : mg "dict" = none) (z_len : mg "len" = none) (z_range : mg "range" = none) (z_zip : mg "zip" = none) : Df P w K mg base 7 "often" ["row"] spOften := by
  refine a.df fun f fd F => ?_
  refine F.ok scOf (fun vs H Q E h => ?_) (fun cdv A outer s H vs Q E hr h => ?_)
  · obtain ⟨_, rfl, _⟩ := h
    rfl
  · obtain ⟨l, rfl, hrow, q⟩ := h
    have hlen := (rowL_iff.mp hrow).1
    have hml := mirs_len l l.length
    have hz : l.length ≤ sizeLine := by rw [sizeLine_eq]; omega
    refine ⟨_, (pss_cons (ps_set (i := 1) scOf.nd rfl (Or.inl rfl) (pe_df d_tree hr rfl (pa_cons (pv 0) pa_nil)))
      (pss_cons (ps_setc (ys := []) (ix := []) (i := 2) ⟨rfl, by decide +kernel, rfl, by decide +kernel, rfl, by decide +kernel, trivial, rfl, trivial⟩ rfl (pi_list (pv 1)) (fun C fp s H => pts_nil) (fun C fp s H => pe_int) scOf.nd rfl (Or.inl rfl))
      (pss_cons (ps_for PassesOwn.never rfl (pi_list (pe_df d_tops hr rfl (pa_cons (pv 0) pa_nil))) (pg_name (i := 3) scOf.nd rfl (Or.inl rfl)) (pss_one (ps_asg (pe_op op_add (pe_ix ix_list (pv 2) (pv 3) (fun _ _ => rfl)) pe_int) (pg_sub (pv 2) (pv 3) set_list))))
      (pss_cons (ps_for PassesOwn.never rfl (pi_rangeD rfl z_range (pa_cons (pe_op op_sub (pe_callB call_len_seq (by rfl) z_len bt_len (pa_cons (pv 1) pa_nil)) pe_int) (pa_cons (pe_un un_neg pe_int) (pa_cons (pe_un un_neg pe_int) pa_nil)))) (pg_name (i := 3) scOf.nd rfl (Or.inl rfl)) (pss_cons (ps_set (i := 4) scOf.nd rfl (Or.inl rfl) (pe_ix ix_tup (pe_ix ix_list (pv 1) (pv 3) (fun _ _ => rfl)) pe_int (fun _ _ => rfl)))
      (pss_one (ps_if (pt_cmpR op_notN (pv 4) pe_non (nomark _)) (pss_one (ps_asg (pe_op op_add (pe_ix ix_list (pv 2) (pv 4) (fun _ _ => rfl)) (pe_ix ix_list (pv 2) (pv 3) (fun _ _ => rfl))) (pg_sub (pv 2) (pv 4) set_list))) pss_nil))))
      (pss_one (ps_ret (pe_callTy (call_dictP rfl) (by rfl) z_dict bt_dict (pa_cons (pe_compL (xs := ["entry", "count"]) (ys := []) (ix := []) ⟨rfl, by decide +kernel, rfl, by decide +kernel, by decide +kernel, trivial, rfl, trivial⟩ rfl (pi_zip rfl z_zip (pa_cons (pv 1) (pa_cons (pv 2) pa_nil))) (fun C fp s H => pg_tup rfl (pgs_cons (pg_name (i := 0) (show List.Nodup ((["entry", "count"] : List Str) ++ ([] : List Str)) by decide +kernel) rfl (Or.inl rfl)) (pgs_cons (pg_name (i := 1) (show List.Nodup ((["entry", "count"] : List Str) ++ ([] : List Str)) by decide +kernel) rfl (Or.inl rfl)) pgs_nil))) gs2 (fun C fp s H => pts_nil) (fun C fp s H => (pe_tup (pa_cons (pe_ix (ix_tupK (K := K) rfl) (pv 0) pe_int (fun _ _ => rfl)) (pa_cons (pv 1) pa_nil))))) pa_nil)))))))), ?_⟩
    refine ⟨_, rfl, l, rfl, hrow, fun pt xs H1 hft hpt hT s1 => ?_⟩
    have hxl : xs.length = (mirs l l.length).length := by rw [hT.1]; unfold treeN; rw [List.length_map]
    refine ⟨_, rfl, pt, rfl, ⟨_, SqL.of hpt⟩, comp_list (K := K) (a := pt) (xs := xs) (by rw [hxl, sizeLine_eq]; omega) (fun j ys H' => H' = H1 ∧ ys = lensV (List.replicate j 0)) ⟨rfl, rfl⟩ (fun j ys H' ⟨e, _⟩ => by rw [e]; exact SqL.of hpt) ?_ ?_⟩
    · rintro j x ys H' N hx hy ⟨rfl, rfl⟩ hN
      refine yes_ok (iteT (hN _ _ (by simp [lensV]) ⟨rfl, ?_⟩))
      unfold lensV
      rw [List.replicate_succ', List.map_append]
      rfl
    rintro ys H' hy ⟨rfl, rfl⟩ pm hpm
    have ez : lensV (List.replicate xs.length 0) = lensV (cntN l 0) := by
      rw [hxl]
      congr 1
      unfold cntN
      rw [List.take_zero]
      apply List.ext_getElem?
      intro j
      by_cases hj : j < (mirs l l.length).length
      · rw [List.getElem?_replicate, if_pos hj, List.getElem?_map, List.getElem?_range hj]; rfl
      · rw [List.getElem?_eq_none (by rw [List.length_replicate]; omega), List.getElem?_eq_none (by rw [List.length_map, List.length_range]; omega)]
    rw [ez]
    have s2 : Same H' (upd H' pm (.lst (lensV (cntN l 0)))) := Same.upd hpm
    have f2 : upd H' pm (.lst (lensV (cntN l 0))) pm = some (.lst (lensV (cntN l 0))) := upd_same
    generalize upd H' pm (.lst (lensV (cntN l 0))) = H2 at s2 f2
    refine ⟨_, rfl, l, rfl, hrow, fun pk H3 hfk hpk s3 => ?_⟩
    have nkm : pk ≠ pm := fun z => by rw [z, f2] at hfk; cases hfk
    refine ⟨pk, rfl, ⟨_, SqL.of hpk⟩, for_list (K := K) (a := pk) (xs := lensV (topsN l)) (fun j σ H5 => ∃ (w3 w4 : Option V), σ = [some (V.str (tx l)), some (V.ref pt), some (V.ref pm), w3, w4] ∧ H5 pm = some (.lst (lensV (cntN l j))) ∧ H5 pk = some (.lst (lensV (topsN l))) ∧ Same H' H5) ⟨_, _, rfl, s3 _ _ f2, hpk, s2.trans s3⟩ (fun j σ H5 hj ⟨_, _, _, _, h5, _⟩ => SqL.of h5) ?_ ?_⟩
    · rintro j x σ H5 hx ⟨w3, w4, rfl, hm5, hk5, s5⟩
      obtain ⟨k, hk, rfl⟩ := lensV_at hx
      have hkl := topsN_lt (List.mem_of_getElem? hk)
      have ek : ixN (lensV (cntN l j)).length (k : Int) = some k := by
        rw [lensV_len, cntN_len]
        unfold ixN
        rw [if_pos (by omega), if_pos (by omega)]; simp
      refine ⟨_, rfl, _, rfl, pm, _, _, _, rfl, rfl, SqL.of hm5, atI_nat (lensV_get (cntN_at hkl)), _, _, rfl, rfl, _, rfl, _, rfl, pm, _, _, k, rfl, rfl, hm5, ek, ?_⟩
      refine ⟨_, _, rfl, ?_, (by rw [upd_ne nkm]; exact hk5), same_upd s5 hpm⟩
      dsimp only
      rw [upd_same, show ((((topsN l).take j).count k : Nat) : Int) + 1 = ((((topsN l).take j).count k + 1 : Nat) : Int) by omega, lensV_set, cntN_succ hk]
    rintro σ H5 ⟨w3, w4, rfl, hm5, hk5, s5⟩
    rw [lensV_len, cntN_all] at hm5
    have hp5 := s5 _ _ hpt
    refine ⟨_, rfl, pt, _, rfl, .inl (SqL.of hp5), _, _, rfl, rfl, _, rfl, _, rfl, _, _, rfl, ⟨by omega, by omega, by omega, by omega⟩, ?_⟩
    have en : ((xs.length : Int) - 1 - -1).toNat = (mirs l l.length).length := by rw [hxl]; omega
    rw [en]
    refine for_down (hi := (xs.length : Int) - 1) (n := (mirs l l.length).length) (fun j σ H6 => ∃ (w3 w4 : Option V), σ = [some (V.str (tx l)), some (V.ref pt), some (V.ref pm), w3, w4] ∧ H6 pm = some (.lst (lensV (hndN l ((mirs l l.length).length - j)))) ∧ Same H' H6) ⟨_, _, rfl, hm5, s5⟩ ?_ ?_
    · rintro j σ H6 hj ⟨w3, w4, rfl, hm6, s6⟩
      have hn : (mirs l l.length).length - (j + 1) < (mirs l l.length).length := by omega
      have e1 : (mirs l l.length).length - j = (mirs l l.length).length - (j + 1) + 1 := by omega
      have ex : (xs.length : Int) - 1 - (j : Int) = (((mirs l l.length).length - (j + 1) : Nat) : Int) := by rw [hxl]; omega
      rw [ex]
      rw [e1] at hm6
      generalize (mirs l l.length).length - (j + 1) = n at hn hm6
      have hu := List.getElem?_eq_getElem hn
      generalize (mirs l l.length)[n] = u at hu
      obtain ⟨pe, hx, hpe⟩ := tree_at hT hu
      have hpe6 := s6 _ _ hpe
      refine ⟨_, rfl, _, rfl, pt, _, _, _, rfl, rfl, SqL.of (s6 _ _ hpt), atI_nat hx, pe, _, _, _, rfl, rfl, SqT.of hpe6, atI_nat (j := 2) rfl, _, rfl, rfl, _, rfl, ?_⟩
      cases hk : idxO (mirs l l.length) (lessN u) with
      | none =>
        refine iteF ⟨_, _, rfl, ?_, s6⟩
        rw [hnd_none hu hk]; exact hm6
      | some k =>
        have hkl : k < (mirs l l.length).length := idxO_lt hk
        have ht := List.getElem?_eq_getElem hkl
        generalize (mirs l l.length)[k] = t at ht
        have ek : ixN (lensV (hndN l (n + 1))).length (k : Int) = some k := by
          rw [lensV_len, hndN_len]
          unfold ixN
          rw [if_pos (by omega), if_pos (by omega)]; simp
        refine iteT ⟨_, rfl, _, rfl, pm, _, _, _, rfl, rfl, SqL.of hm6, atI_nat (lensV_get (hndN_at ht)), _, rfl, _, rfl, pm, _, _, _, rfl, rfl, SqL.of hm6, atI_nat (lensV_get (hndN_at hu)), _, _, rfl, rfl, _, rfl, _, rfl, pm, _, _, k, rfl, rfl, hm6, ek, ?_⟩
        refine ⟨_, _, rfl, ?_, same_upd s6 hpm⟩
        dsimp only
        rw [upd_same, show ((hS l (n + 1) t : Nat) : Int) + ((hS l (n + 1) u : Nat) : Int) = ((hS l (n + 1) t + hS l (n + 1) u : Nat) : Int) by omega, lensV_set, hnd_some hu hk ht]
    rintro σ H6 ⟨w3, w4, rfl, hm6, s6⟩
    rw [Nat.sub_self] at hm6
    have hp6 := s6 _ _ hpt
    have T6 : TreeV H6 xs (treeN l) := hT.mono fun p e h => s6 _ _ h
    refine ⟨_, rfl, _, rfl, pt, pm, _, _, rfl, hp6, hm6, comp_zip (K := K) (xs := xs) (zs := lensV (hndN l 0)) (by rw [hxl, sizeLine_eq]; omega) (fun j ys H7 => Same H6 H7 ∧ ys.length = j ∧ ∀ (i : Nat) (k : Str) (v : V), (oftP l)[i]? = some (k, v) → i < j → ∃ q, ys[i]? = some (.ref q) ∧ H7 q = some (.tup [.str k, v])) ⟨Same.refl _, rfl, fun i _ _ _ h => by omega⟩ (fun j ys H7 ⟨s, _⟩ => ⟨s _ _ hp6, s _ _ hm6⟩) ?_ ?_⟩
    · rintro j x y ys H7 N T hx hy hyl ⟨s7, hl7, hq7⟩ hTn hN
      have hj : j < (mirs l l.length).length := by rw [← hxl]; exact (List.getElem?_eq_some_iff.mp hx).1
      have hu := List.getElem?_eq_getElem hj
      generalize (mirs l l.length)[j] = u at hu
      obtain ⟨pe, hx', hpe⟩ := tree_at T6 hu
      rw [hx] at hx'
      obtain rfl := Option.some.inj hx'
      have hy' := lensV_get (hndN_at (j := 0) hu)
      rw [hy] at hy'
      obtain rfl := Option.some.inj hy'
      have s8 := s7.trans (Same.upd (o := .tup [.ref pe, .int ((hS l 0 u : Nat) : Int)]) hTn)
      refine yes_ok (iteT ⟨_, rfl, pe, _, _, _, rfl, rfl, SqT.of (s8 _ _ hpe), atI_nat (j := 0) rfl, _, rfl, (by show 2 ≤ sizeLine; decide), fun pq hpq => hN _ _ (by rw [List.length_append, hl7]; exact Nat.le_refl _) ⟨s8.trans (Same.upd hpq), by rw [List.length_append, hl7]; rfl, fun i k v hi hij => ?_⟩⟩)
      by_cases e : i = j
      · subst e
        refine ⟨pq, by rw [List.getElem?_append_right (by omega), hl7, Nat.sub_self]; rfl, ?_⟩
        unfold oftP at hi
        rw [List.getElem?_map, hu] at hi
        have hi' := Option.some.inj hi
        have e1 : tx u = k := congrArg Prod.fst hi'
        have e2 : V.int ((oftN l u : Nat) : Int) = v := congrArg Prod.snd hi'
        rw [upd_same, ← e1, ← e2, hS_all (List.mem_of_getElem? hu)]
        rfl
      · obtain ⟨q, h1, h2⟩ := hq7 i k v hi (by omega)
        refine ⟨q, by rw [List.getElem?_append_left (by omega)]; exact h1, ?_⟩
        exact (Same.upd hpq) _ _ ((Same.upd hTn) _ _ h2)
    rintro ys H7 hyl ⟨s7, hl7, hq7⟩ pl hpl
    have hmin : min xs.length (lensV (hndN l 0)).length = (mirs l l.length).length := by rw [hxl, lensV_len, hndN_len, Nat.min_self]
    rw [hmin] at hl7 hq7
    have hol : (oftP l).length = (mirs l l.length).length := by unfold oftP; rw [List.length_map]
    refine ⟨pl, ys, oftP l, rfl, upd_same, by rw [hl7, hol], by rw [hol]; omega, fun i k v hi => ?_, fun d hd => ?_⟩
    · obtain ⟨q, h1, h2⟩ := hq7 i k v hi (by rw [← hol]; exact (List.getElem?_eq_some_iff.mp hi).1)
      exact ⟨q, h1, (Same.upd hpl) _ _ h2⟩
    · have sA := s1.trans (s6.trans (s7.trans (Same.upd (o := .lst ys) hpl)))
      exact q d _ _ (sA.free hd) upd_same (oftP_eq l) oftP_val (sA.trans (Same.upd hd))
end
end Mr

namespace Mr
open PySem L2
section
variable {P : Program} {w : World} {K : PySem.W.Frag} {mg : Str → Option Value} {base : Heap}
theorem scWo : FnScope ["row", "many", "best", "entry", "text", "worth"] ["row"] (defScope s_worthiest) := ⟨rfl, rfl, rfl, by decide +kernel, rfl, by decide +kernel, by decide +kernel⟩
set_option maxHeartbeats 8000000 in
theorem ok_worthiest (a : At K mg "worthiest" s_worthiest ["row"]) (d_often : Df P w K mg base 7 "often" ["row"] spOften) (d_tree : Df P w K mg base 5 "tree" ["row"] spTree) (z_len : mg "len" = none) : Df P w K mg base 8 "worthiest" ["row"] spWorth := by
  refine a.df fun f fd F => ?_
  refine F.ok scWo (fun vs H Q E h => ?_) (fun cdv A outer s H vs Q E hr h => ?_)
  · obtain ⟨_, rfl, _⟩ := h
    rfl
  · obtain ⟨l, rfl, hrow, q⟩ := h
    have hlen := (rowL_iff.mp hrow).1
    have hml := mirs_len l l.length
    refine ⟨_, (pss_cons (ps_set (i := 1) scWo.nd rfl (Or.inl rfl) (pe_df d_often hr rfl (pa_cons (pv 0) pa_nil)))
      (pss_cons (ps_set (i := 2) scWo.nd rfl (Or.inl rfl) pe_non)
      (pss_cons (ps_for PassesOwn.never rfl (pi_list (pe_df d_tree hr rfl (pa_cons (pv 0) pa_nil))) (pg_name (i := 3) scWo.nd rfl (Or.inl rfl)) (pss_cons (ps_set (i := 4) scWo.nd rfl (Or.inl rfl) (pe_ix ix_tup (pv 3) pe_int (fun _ _ => rfl)))
      (pss_cons (ps_set (i := 5) scWo.nd rfl (Or.inl rfl) (pe_op op_mul (pe_callB call_len_str (by rfl) z_len bt_len (pa_cons (pv 4) pa_nil)) (pe_dget hr.unitsD (pv 1) (pv 4) (fun _ _ => rfl))))
      (pss_one (ps_if (PW.pt (pw_or (pt_cmpR op_isN (pv 2) pe_non (nomark _)) (pw_or1 (pt_cmpR op_gt (pv 5) (pe_ix ix_tup (pv 2) pe_int (fun _ _ => rfl)) (nomark _))))) (pss_one (ps_set (i := 2) scWo.nd rfl (Or.inl rfl) (pe_tup (pa_cons (pv 4) (pa_cons (pv 5) pa_nil))))) pss_nil)))))
      (pss_one (ps_ret (pv 2)))))), ?_⟩
    refine ⟨_, rfl, l, rfl, hrow, fun pd kvs H1 hfd hpd hek hkv s1 => ?_⟩
    refine ⟨_, rfl, l, rfl, hrow, fun pt xs H2 hft hpt hT s2 => ?_⟩
    have hxl : xs.length = (mirs l l.length).length := by rw [hT.1]; unfold treeN; rw [List.length_map]
    refine ⟨pt, rfl, ⟨_, SqL.of hpt⟩, for_list (K := K) (a := pt) (xs := xs) (fun j σ H' => ∃ (b : V) (w3 w4 w5 : Option V), σ = [some (V.str (tx l)), some (V.ref pd), some b, w3, w4, w5] ∧ BstV H' b (bestT l j) ∧ Same H2 H') ⟨V.non, _, _, _, rfl, rfl, Same.refl _⟩ (fun j σ H' hj ⟨_, _, _, _, _, _, s⟩ => SqL.of (s _ _ hpt)) ?_ ?_⟩
    · rintro j x σ H3 hx ⟨b, w3, w4, w5, rfl, hb, s3⟩
      have hj : j < (mirs l l.length).length := by rw [← hxl]; exact (List.getElem?_eq_some_iff.mp hx).1
      have hu := List.getElem?_eq_getElem hj
      generalize (mirs l l.length)[j] = u at hu
      obtain ⟨pe, hx', hpe⟩ := tree_at hT hu
      rw [hx] at hx'
      obtain rfl := Option.some.inj hx'
      have hul : u.length ≤ l.length := (mirs_row (Nat.le_refl _) hrow (List.mem_of_getElem? hu)).2.2.2
      have ho := oftN_le l u
      have hw : wrtN l u ≤ 200 * 200 := Nat.mul_le_mul (by omega) (by omega)
      have dg := DGet.k (k := Sum.inr (tx u)) (s3 _ _ (s2 _ _ hpd))
      rw [hkv u (List.mem_of_getElem? hu)] at dg
      refine ⟨_, rfl, pe, _, _, _, rfl, rfl, SqT.of (s3 _ _ hpe), atI_nat (j := 0) rfl, ?_⟩
      refine ⟨_, rfl, tx u, rfl, (by rw [tx_len, sizeLine_eq]; omega), _, rfl, _, rfl, pd, _, rfl, dg, _, _, rfl, rfl, ?_⟩
      rw [tx_len]
      refine ⟨.inl ⟨by omega, by omega⟩, ?_⟩
      have ew : ((u.length : Nat) : Int) * ((oftN l u : Nat) : Int) = ((wrtN l u : Nat) : Int) := (Int.natCast_mul _ _).symm
      have ng : ∀ (w : Nat) (p : Addr), BstV (upd H3 p (.tup [.str (tx u), .int ((wrtN l u : Nat) : Int)])) (.ref p) (some (u, wrtN l u)) := fun w p => ⟨p, rfl, upd_same⟩
      cases hB : bestT l j with
      | none =>
        rw [hB] at hb
        obtain rfl : b = V.non := hb
        refine ⟨_, rfl, rfl, _, rfl, ?_⟩
        rw [decide_eq_true rfl]
        refine iteT (iteT ⟨_, rfl, _, rfl, (by show 2 ≤ sizeLine; decide), fun p hp => ⟨_, _, _, _, rfl, ?_, s3.trans (Same.upd hp)⟩⟩)
        rw [bestT_succ hu, hB]
        have := ng 0 p
        rw [← ew] at this
        exact this
      | some x =>
        obtain ⟨t, w⟩ := x
        rw [hB] at hb
        obtain ⟨p, rfl, hp⟩ := hb
        refine ⟨_, rfl, rfl, _, rfl, ?_⟩
        rw [show decide (V.ref p = V.non) = false from decide_eq_false (fun z => by cases z)]
        refine iteF ⟨_, rfl, _, rfl, p, _, _, _, rfl, rfl, SqT.of hp, atI_nat (j := 1) rfl, _, _, rfl, rfl, _, rfl, ?_⟩
        by_cases hlt : w < wrtN l u
        · rw [decide_eq_true (show (w : Int) < ((u.length : Nat) : Int) * ((oftN l u : Nat) : Int) by rw [ew]; omega)]
          refine iteT ⟨_, rfl, _, rfl, (by show 2 ≤ sizeLine; decide), fun p2 hp2 => ⟨_, _, _, _, rfl, ?_, s3.trans (Same.upd hp2)⟩⟩
          rw [bestT_succ hu, hB]
          show BstV _ _ (if w < wrtN l u then some (u, wrtN l u) else some (t, w))
          rw [if_pos hlt]
          have := ng 0 p2
          rw [← ew] at this
          exact this
        · rw [decide_eq_false (show ¬ (w : Int) < ((u.length : Nat) : Int) * ((oftN l u : Nat) : Int) by rw [ew]; omega)]
          refine iteF ⟨_, _, _, _, rfl, ?_, s3⟩
          rw [bestT_succ hu, hB]
          show BstV _ _ (if w < wrtN l u then some (u, wrtN l u) else some (t, w))
          rw [if_neg hlt]
          exact ⟨p, rfl, hp⟩
    rintro σ H3 ⟨b, w3, w4, w5, rfl, hb, s3⟩
    rw [hxl] at hb
    exact ⟨_, rfl, q _ _ hb (s1.trans (s2.trans s3))⟩
end
end Mr

namespace Mr
open PySem L2
section
variable {P : Program} {w : World} {K : PySem.W.Frag} {mg : Str → Option Value} {base : Heap}
theorem scLaw : FnScope ["_law_script", "_law_k", "_law_row_here", "_law_counts", "_law_texts", "_law_deep", "_law_high", "_law_place", "_law_worths"] ["_law_script"] (defScope sLaw) := ⟨rfl, rfl, rfl, by decide +kernel, rfl, by decide +kernel, by decide +kernel⟩
set_option maxHeartbeats 8000000 in
theorem ok_law {f : Addr} {fd : FuncData} (F : Fun K "law" "law" sLaw f fd) (d_worthiest : Df P w K mg base 8 "worthiest" ["row"] spWorth) (d_law_row : Df P w K mg base 3 "_law_row" ["_law_box_here", "_law_most"] spRow) (d_law_box : Df P w K mg base 2 "_law_box" ["_law_script", "_law_k"] (spBox K)) (d_often : Df P w K mg base 7 "often" ["row"] spOften) (d_tree : Df P w K mg base 5 "tree" ["row"] spTree) (d_mirrors_many : Df P w K mg base 4 "mirrors_many" ["row"] spMany) (d_stretches : Df P w K mg base 7 "stretches" ["row", "text"] spStrM) (d_deeps : Df P w K mg base 5 "deeps" ["row"] (spLens deepsN)) (d_tops : Df P w K mg base 3 "tops" ["row"] (spLens topsN)) (d_way : Df P w K mg base 6 "way" ["row", "number"] spWay1) (z_len : mg "len" = none) (z_max : mg "max" = none) (z_min : mg "min" = none) (z_range : mg "range" = none) (z_sorted : mg "sorted" = none) (z_sum : mg "sum" = none)  : FnOk P w K mg base CX0 9 f fd ["_law_script"] (spLaw K) := by
  refine F.ok scLaw (fun vs H Q E h => ?_) (fun cdv A outer s H vs Q E hr h => ?_)
  · obtain ⟨_, _, rfl, _⟩ := h
    rfl
  · obtain ⟨a, ns, rfl, hS, hlen, q⟩ := h
    refine ⟨_, (@pss_cons _ _ _ _ _ (ps_for PassesOwn.never rfl (pi_range1 rfl z_range (pa_cons (pe_callB (call_max2 rfl) (by rfl) z_max bt_max (pa_cons pe_int (pa_cons (pe_callB (call_min2 rfl) (by rfl) z_min bt_min (pa_cons (pe_callB call_len_seq (by rfl) z_len bt_len (pa_cons (pv 0) pa_nil)) (pa_cons pe_int pa_nil))) pa_nil))) pa_nil)) (pg_name (i := 1) scLaw.nd rfl (Or.inl rfl)) (@pss_cons _ _ _ _ _ (@ps_set _ _ 2 _ _ _ _ scLaw.nd rfl (Or.inr rfl) (pe_df d_law_row hr rfl (pa_cons (pe_df d_law_box hr rfl (pa_cons (pv 0) (pa_cons (pv 1) pa_nil))) (pa_cons pe_int pa_nil))) rfl (Or.inl rfl))
      (@pss_cons _ _ _ _ _ (@ps_set _ _ 3 _ _ _ _ scLaw.nd rfl (Or.inr rfl) (pe_df d_often hr rfl (pa_cons (pv 2) pa_nil)) rfl (Or.inl rfl))
      (@pss_cons _ _ _ _ _ (ps_setc (ys := []) (ix := []) (i := 4) ⟨rfl, by decide +kernel, rfl, by decide +kernel, rfl, by decide +kernel, trivial, rfl, trivial⟩ rfl (pi_list (pe_df d_tree hr rfl (pa_cons (pv 2) pa_nil))) (fun C fp s H => pts_nil) (fun C fp s H => (@pe_ix _ _ _ _ _ _ _ (ix_tupK (K := K) rfl) (pv 0) pe_int (fun _ _ => rfl))) scLaw.nd rfl (Or.inl rfl))
      (@pss_cons _ _ _ _ _ (@ps_if _ _ _ _ _ _ _ _ (PW.pt (pw_or (pt_cmpR (op_neL hr.units0) (pe_callB (call_sortedD rfl) (by rfl) z_sorted bt_sorted (pa_cons (pv 3) pa_nil)) (pe_callB call_sortedS (by rfl) z_sorted bt_sorted (pa_cons (pv 4) pa_nil)) (nomark _)) (pw_or1 (pt_cmpR op_ne (pe_callB (call_sumI rfl) (by rfl) z_sum bt_sum (pa_cons (pe_thaw (pe_comp (ys := ["_law_counts"]) (ix := [3]) ⟨rfl, by decide +kernel, rfl, by decide +kernel, rfl, by decide +kernel, ⟨rfl, trivial⟩, rfl, ⟨⟨rfl, rfl, rfl, rfl⟩, trivial⟩⟩ rfl (pi_dict (pv 3)) (fun C fp s H => pts_nil) (fun C fp s H => (pe_dget hr.unitsD (pv 1) (pv 0) (fun _ _ => rfl))))) pa_nil)) (pe_df d_mirrors_many hr rfl (pa_cons (pv 2) pa_nil)) (nomark _))))) (@pss_one _ _ _ (@ps_ret _ _ _ _ pe_bl)) pss_nil)
      (@pss_cons _ _ _ _ _ (@ps_if _ _ _ _ _ _ _ _ (pt_cmpR (op_neL hr.units0) (pe_comp (ys := ["_law_counts", "_law_row_here"]) (ix := [3, 2]) ⟨rfl, by decide +kernel, rfl, by decide +kernel, rfl, by decide +kernel, ⟨rfl, rfl, trivial⟩, rfl, ⟨⟨rfl, rfl, rfl, rfl⟩, ⟨rfl, rfl, rfl, rfl⟩, trivial⟩⟩ rfl (pi_list (pv 4)) (fun C fp s H => (pts_one (pt_cmpR op_ne (pe_callB (call_len_seqK (K := K) rfl) (by rfl) z_len bt_len (pa_cons (pe_df (X := cmpCx _ _ _ _ C fp s H) d_stretches hr rfl (pa_cons (pv 2) (pa_cons (pv 0) pa_nil))) pa_nil)) (pe_dget hr.unitsD (pv 1) (pv 0) (fun _ _ => rfl)) (nomark _)))) (fun C fp s H => (pv 0))) (@pe_lst _ _ _ _ pa_nil) (nomark _)) (@pss_one _ _ _ (@ps_ret _ _ _ _ pe_bl)) pss_nil)
      (@pss_cons _ _ _ _ _ (ps_par (i := 5) (j := 6) rfl scLaw.nd rfl rfl (by decide) rfl rfl (pa_cons (pe_df d_deeps hr rfl (pa_cons (pv 2) pa_nil)) (pa_cons (pe_df d_tops hr rfl (pa_cons (pv 2) pa_nil)) pa_nil)) rfl)
      (@pss_cons _ _ _ _ _ (@ps_if _ _ _ _ _ _ _ _ (PW.pt (pw_or (pt_cmpR op_ne (pe_callB (call_sumI rfl) (by rfl) z_sum bt_sum (pa_cons (pv 5) pa_nil)) (pe_df d_mirrors_many hr rfl (pa_cons (pv 2) pa_nil)) (nomark _)) (pw_or (pt_cmpR op_ne (pe_callB call_len_seq (by rfl) z_len bt_len (pa_cons (pv 5) pa_nil)) (pe_callB call_len_str (by rfl) z_len bt_len (pa_cons (pv 2) pa_nil)) (nomark _)) (pw_or1 (pt_cmpR op_ne (pe_callB call_len_seq (by rfl) z_len bt_len (pa_cons (pv 6) pa_nil)) (pe_callB call_len_str (by rfl) z_len bt_len (pa_cons (pv 2) pa_nil)) (nomark _)))))) (@pss_one _ _ _ (@ps_ret _ _ _ _ pe_bl)) pss_nil)
      (@pss_cons _ _ _ _ _ (ps_for PassesOwn.never rfl (pi_range1 rfl z_range (pa_cons (pe_callB call_len_str (by rfl) z_len bt_len (pa_cons (pv 2) pa_nil)) pa_nil)) (pg_name (i := 7) scLaw.nd rfl (Or.inl rfl)) (@pss_one _ _ _ (@ps_if _ _ _ _ _ _ _ _ (PW.pt (pw_and (pt_cmpR op_lt (pv 7) pe_int (nomark _)) (pw_and1 (pt_cmpR op_ne (pe_callB call_len_seq (by rfl) z_len bt_len (pa_cons (pe_df d_way hr rfl (pa_cons (pv 2) (pa_cons (@pe_ix _ _ _ _ _ _ _ ix_list (pv 6) (pv 7) (fun _ _ => rfl)) pa_nil))) pa_nil)) (@pe_ix _ _ _ _ _ _ _ ix_list (pv 5) (pv 7) (fun _ _ => rfl)) (nomark _))))) (@pss_one _ _ _ (@ps_ret _ _ _ _ pe_bl)) pss_nil)))
      (@pss_cons _ _ _ _ _ (ps_setc (ys := ["_law_counts"]) (ix := [3]) (i := 8) ⟨rfl, by decide +kernel, rfl, by decide +kernel, rfl, by decide +kernel, ⟨rfl, trivial⟩, rfl, ⟨⟨rfl, rfl, rfl, rfl⟩, trivial⟩⟩ rfl (pi_list (pv 4)) (fun C fp s H => pts_nil) (fun C fp s H => (@pe_op _ _ _ _ _ _ _ _ op_mul (pe_callB call_len_str (by rfl) z_len bt_len (pa_cons (pv 0) pa_nil)) (pe_dget hr.unitsD (pv 1) (pv 0) (fun _ _ => rfl)))) scLaw.nd rfl (Or.inl rfl))
      (@pss_one _ _ _ (@ps_if _ _ _ _ _ _ _ _ (PW.pt (pw_and (pt_cmpR op_ne (pv 2) pe_str (nomark _)) (pw_and1 (pt_cmpR (op_neDT 1 hr.units2) (pe_df d_worthiest hr rfl (pa_cons (pv 2) pa_nil)) (@pe_tup _ _ _ _ _ (@pa_sub _ _ _ _ _ _ _  (@pe_ix _ _ _ _ _ _ _ ix_list (pv 4) (pe_bm PySem.F.plainAttrs_list PySem.F.slot_list_index PySem.F.type_list_index mt_indexI (pv 8) (pa_cons (pe_callB (call_maxI rfl) (by rfl) z_max bt_max (pa_cons (pv 8) pa_nil)) pa_nil)) (fun _ _ => rfl)) (@pa_call _ _ _ _ _ _ _ _  (pe_callB (call_maxI rfl) (by rfl) z_max bt_max (pa_cons (pv 8) pa_nil)) pa_nil))) (nomark _))))) (@pss_one _ _ _ (@ps_ret _ _ _ _ pe_bl)) pss_nil))))))))))))
      (@pss_one _ _ _ (@ps_ret _ _ _ _ pe_bl))), ?_⟩
    refine ⟨_, rfl, a, _, rfl, .inl hS, _, _, rfl, _, _, rfl, _, rfl, ?_, ?_, ?_⟩
    · split <;> split <;> omega
    · split <;> split <;> omega
    refine for_range (fun i σ H' => ∃ (v1 v2 v3 v4 v5 v6 v7 v8 : Option V), σ = [some (.ref a), v1, v2, v3, v4, v5, v6, v7, v8] ∧ Same H H') ⟨none, none, none, none, none, none, none, none, rfl, Same.refl _⟩ ?_ ?_
    rotate_left
    · rintro σ H' ⟨v1, v2, v3, v4, v5, v6, v7, v8, rfl, s0⟩
      exact q H'
    rintro i σ H0 hi ⟨v1, v2, v3, v4, v5, v6, v7, v8, rfl, s0⟩
    refine ⟨_, rfl, _, rfl, a, ns, _, rfl, s0.seq hS, by omega, fun b n H1 hn hfr hb s1 => ?_⟩
    have fr : H b = none := s0.free hfr
    refine ⟨b, n, 20, rfl, hb, hn, by decide, by decide, fun m n2 H2 hm hml hn2 hb2 k2 => ?_⟩
    have hrow : rowL m = true := rowL_iff.mpr ⟨by omega, hm⟩
    have hlm : m.length ≤ 200 := (rowL_iff.mp hrow).1
    have hz : m.length ≤ sizeLine := by rw [sizeLine_eq]; omega
    have SH2 : Same H H2 := same_but (s0.trans s1) fr k2
    have hmM := mirs_len m m.length
    have hz' : (tx m).length ≤ sizeLine := by rw [tx_len]; exact hz
    refine ⟨_, rfl, m, rfl, hrow, fun pc kvs H3 hfc hpc hek hkv s3 => ?_⟩
    subst hek
    have hcH : H pc = none := SH2.free hfc
    refine ⟨_, rfl, m, rfl, hrow, fun pt xs H4 hft hpt hT s4 => ⟨pt, rfl, ⟨_, SqL.of hpt⟩, ?_⟩⟩
    have hxl : xs.length = (mirs m m.length).length := by rw [hT.1]; unfold treeN; rw [List.length_map]
    refine comp_list (K := K) (a := pt) (xs := xs) (by rw [hxl, sizeLine_eq]; omega) (fun j ys H' => H' = H4 ∧ ys = txV ((mirs m m.length).take j)) ⟨rfl, rfl⟩ (fun j ys H' ⟨e, _⟩ => by rw [e]; exact SqL.of hpt) ?_ ?_
    · rintro j x ys H' N hx hy ⟨rfl, rfl⟩ hN
      have hj : j < (mirs m m.length).length := by rw [← hxl]; exact (List.getElem?_eq_some_iff.mp hx).1
      have hu := List.getElem?_eq_getElem hj
      generalize (mirs m m.length)[j] = u at hu
      obtain ⟨pe, hxe, hpe⟩ := tree_at hT hu
      have ex : x = .ref pe := Option.some.inj (hx.symm.trans hxe)
      subst ex
      refine yes_ok (iteT ⟨_, rfl, pe, _, _, _, rfl, rfl, SqT.of hpe, atI_nat (j := 0) rfl, hN _ _ (by rw [List.length_append]; exact Nat.succ_le_succ hy) ⟨rfl, ?_⟩⟩)
      unfold txV
      rw [List.take_succ, hu, List.map_append]; rfl
    rintro ys H' hy ⟨rfl, rfl⟩ px hpx
    rw [hxl, List.take_of_length_le (Nat.le_refl _)]
    have s5 := Same.upd (o := .lst (txV (mirs m m.length))) hpx
    have f5 : upd H' px (.lst (txV (mirs m m.length))) px = some (.lst (txV (mirs m m.length))) := upd_same
    generalize upd H' px (.lst (txV (mirs m m.length))) = H5 at s5 f5
    have hpc5 := s5 _ _ (s4 _ _ hpc)
    have keys : (oftK m).map (·.1) = (mirs m m.length).map (fun t => (Sum.inr (tx t) : Key)) := by unfold oftK; rw [List.map_map]; rfl
    refine ⟨_, rfl, pc, (mirs m m.length), oftK m, rfl, hpc5, keys, by omega, fun l1 ss1 pm1 st1 hl1 => ?_⟩
    have s6 := Same.upd (o := .lst (ss1.map V.str)) hl1
    have f6 : upd H5 l1 (.lst (ss1.map V.str)) l1 = some (.lst (ss1.map V.str)) := upd_same
    generalize upd H5 l1 (.lst (ss1.map V.str)) = H6 at s6 f6
    refine ⟨_, rfl, px, (mirs m m.length), rfl, s6 _ _ f5, by omega, fun l2 ss2 pm2 st2 hl2 => ?_⟩
    have s7 := Same.upd (o := .lst (ss2.map V.str)) hl2
    have f7 : upd H6 l2 (.lst (ss2.map V.str)) l2 = some (.lst (ss2.map V.str)) := upd_same
    generalize upd H6 l2 (.lst (ss2.map V.str)) = H7 at s7 f7
    have es : ss1 = ss2 := sorted_one (pm1.trans pm2.symm) st1 st2
    subst es
    refine ⟨l1, l2, _, _, rfl, rfl, SqL.of (s7 _ _ f6), SqL.of f7, str_flat _, str_flat _, ?_⟩
    rw [eqVs_self (str_flat _)]
    refine ⟨_, rfl, iteF ?_⟩
    have hpc7 := s7 _ _ (s6 _ _ hpc5)
    have hpx7 := s7 _ _ (s6 _ _ f5)
    have S7 : Same H H7 := SH2.trans (s3.trans (s4.trans (s5.trans (s6.trans s7))))
    have hol : (oftK m).length = (mirs m m.length).length := by unfold oftK; rw [List.length_map]
    refine ⟨_, rfl, pc, oftK m, rfl, hpc7, fun o => ?_⟩
    refine comp_dict (o := o) (kvs := oftK m) (by rw [hol, sizeLine_eq]; omega) (fun j ys H' => ys = lensV (((mirs m m.length).take j).map (oftN m)) ∧ H' = upd H7 pc (.frz o (.dK (oftK m)))) ⟨rfl, rfl⟩ (fun j ys H' ⟨_, e⟩ => by rw [e]; exact upd_same) ?_ ?_
    · rintro j kv ys H' N hkv' hy ⟨rfl, rfl⟩ hN
      obtain ⟨t, ht, rfl⟩ : ∃ t, (mirs m m.length)[j]? = some t ∧ kv = (Sum.inr (tx t), V.int ((oftN m t : Nat) : Int)) := by
        unfold oftK at hkv'
        rw [List.getElem?_map] at hkv'
        cases e : (mirs m m.length)[j]? with
        | none => rw [e] at hkv'; cases hkv'
        | some t => rw [e] at hkv'; exact ⟨t, rfl, (Option.some.inj hkv').symm⟩
      have dg : DGet (upd H7 pc (.frz o (.dK (oftK m)))) pc (kV (Sum.inr (tx t))) (some (V.int ((oftN m t : Nat) : Int))) := .inl ⟨oftK m, _, .inr ⟨o, upd_same⟩, rfl, (oftK_val (List.mem_of_getElem? ht)).symm⟩
      refine yes_ok (iteT ⟨_, rfl, _, rfl, pc, _, rfl, dg, hN _ _ (by rw [List.length_append]; exact Nat.succ_le_succ hy) ⟨?_, rfl⟩⟩)
      rw [List.take_succ, ht, List.map_append, lensV_app]; rfl
    rintro ys H' hy ⟨rfl, rfl⟩ pz hpz
    have nzd : pz ≠ pc := fun z => by rw [z, upd_same] at hpz; cases hpz
    have hpz7 : H7 pz = none := by rw [upd_ne nzd] at hpz; exact hpz
    refine ⟨pc, o, oftK m, (by rw [upd_ne nzd.symm]; exact upd_same), hcH, ?_⟩
    rw [thaw_eq nzd.symm hpc7, hol, List.take_of_length_le (Nat.le_refl _)]
    have s8 := Same.upd (o := .lst (lensV ((mirs m m.length).map (oftN m)))) hpz7
    have f8 : upd H7 pz (.lst (lensV ((mirs m m.length).map (oftN m)))) pz = some (.lst (lensV ((mirs m m.length).map (oftN m)))) := upd_same
    generalize upd H7 pz (.lst (lensV ((mirs m m.length).map (oftN m)))) = H8 at s8 f8
    have e_m : (!decide (V.int ((manyN m : Nat) : Int) = V.int ((manyN m : Nat) : Int))) = false := by rw [decide_eq_true rfl]; rfl
    refine ⟨pz, ((mirs m m.length).map (oftN m)).map (fun (k : Nat) => (k : Int)), rfl, SqL.of (by rw [← lens_ints]; exact f8), _, rfl, m, rfl, hrow, fun H9 s9 => ⟨rfl, _, rfl, ?_⟩⟩
    rw [sum_lens', oft_sum, e_m]
    refine iteF ?_
    have t9 := s8.trans s9
    have hpc9 := t9 _ _ hpc7
    have hpx9 := t9 _ _ hpx7
    refine ⟨_, rfl, px, rfl, ⟨_, SqL.of hpx9⟩, ?_⟩
    have hmt : ∀ {j : Nat} {x : V}, (txV (mirs m m.length))[j]? = some x → ∃ t, (mirs m m.length)[j]? = some t ∧ x = .str (tx t) := fun {j x} h => by
      unfold txV at h
      rw [List.getElem?_map] at h
      cases e : (mirs m m.length)[j]? with
      | none => rw [e] at h; cases h
      | some t => rw [e] at h; exact ⟨t, rfl, (Option.some.inj h).symm⟩
    have htl : (txV (mirs m m.length)).length = (mirs m m.length).length := by unfold txV; rw [List.length_map]
    refine comp_list (K := K) (a := px) (xs := txV (mirs m m.length)) (by rw [htl, sizeLine_eq]; omega) (fun j ys H' => ys = [] ∧ Same H9 H') ⟨rfl, Same.refl _⟩ (fun j ys H' ⟨_, s⟩ => SqL.of (s _ _ hpx9)) ?_ ?_
    · rintro j x ys H' N hx hy ⟨rfl, s10⟩ hN
      obtain ⟨t, ht, rfl⟩ := hmt hx
      have htm := List.mem_of_getElem? ht
      obtain ⟨r1, r2, r3, r4⟩ := mirs_row (Nat.le_refl _) hrow htm
      refine ⟨_, rfl, _, rfl, m, t, rfl, hrow, r1, r2, r3, fun pq zs H11 hfq hpq hP s11 => ?_⟩
      have dg := DGet.k (k := Sum.inr (tx t)) (s11 _ _ (s10 _ _ hpc9))
      rw [oftK_val htm] at dg
      refine ⟨pq, _, rfl, .inl (SqL.of hpq), _, rfl, _, rfl, pc, _, rfl, dg, rfl, _, rfl, ?_⟩
      have e : zs.length = oftN m t := by rw [hP.1]; unfold occN oftN; rw [List.length_map]
      rw [e, decide_eq_true rfl]
      exact iteF (hN _ _ (Nat.zero_le _) ⟨rfl, s10.trans s11⟩)
    rintro ys H10 hy ⟨rfl, s10⟩ p1 hp1
    have s11 := Same.upd (o := .lst []) hp1
    have f11 : upd H10 p1 (.lst []) p1 = some (.lst []) := upd_same
    generalize upd H10 p1 (.lst []) = H11 at s11 f11
    refine ⟨(by show 0 ≤ sizeLine; decide), fun p2 hp2 => ?_⟩
    have s12 := Same.upd (o := .lst []) hp2
    have f12 : upd H11 p2 (.lst []) p2 = some (.lst []) := upd_same
    generalize upd H11 p2 (.lst []) = H12 at s12 f12
    refine ⟨p1, p2, _, _, rfl, rfl, SqL.of (s12 _ _ f11), SqL.of f12, rfl, rfl, _, rfl, iteF ?_⟩
    have t12 := s10.trans (s11.trans s12)
    refine ⟨_, rfl, m, rfl, hrow, fun pdp H13 hfd hpdp s13 => ⟨_, rfl, m, rfl, hrow, fun ph H14 hfh hph s14 => ⟨_, _, rfl, ?_⟩⟩⟩
    have hpd14 := s14 _ _ hpdp
    refine ⟨_, rfl, pdp, (deepsN m).map (fun (k : Nat) => (k : Int)), rfl, SqL.of (by rw [← lens_ints]; exact hpd14), _, rfl, m, rfl, hrow, fun H15 s15 => ⟨rfl, _, rfl, ?_⟩⟩
    rw [sum_lens', show (deepsN m).sum = manyN m from deep_many m, e_m]
    have hpd15 := s15 _ _ hpd14
    have hph15 := s15 _ _ hph
    have hdl : (lensV (deepsN m)).length = m.length := by rw [lensV_len]; unfold deepsN; rw [List.length_map, List.length_range]
    have htl2 : (lensV (topsN m)).length = m.length := by rw [lensV_len]; unfold topsN; rw [List.length_map, List.length_range]
    refine iteF ⟨_, rfl, pdp, _, rfl, .inl (SqL.of hpd15), _, rfl, tx m, rfl, hz', rfl, _, rfl, ?_⟩
    rw [hdl, tx_len, decide_eq_true rfl]
    refine iteF ⟨_, rfl, ph, _, rfl, .inl (SqL.of hph15), _, rfl, tx m, rfl, hz', rfl, _, rfl, ?_⟩
    rw [htl2, tx_len, decide_eq_true rfl]
    refine iteF ?_
    have t15 := t12.trans (s13.trans (s14.trans s15))
    have S15 : Same H H15 := S7.trans (t9.trans t15)
    have hpc15 := t15 _ _ hpc9
    have hpx15 := t15 _ _ hpx9
    refine ⟨_, rfl, tx m, rfl, hz', _, rfl, by omega, by rw [tx_len]; omega, ?_⟩
    rw [tx_len, show ((m.length : Nat) : Int).toNat = m.length from rfl]
    refine for_range (lo := 0) (n := m.length) (fun j σ H' => ∃ (w7 w8 : Option V), σ = [some (V.ref a), some (V.int (0 + (i : Int))), some (V.str (tx m)), some (V.ref pc), some (V.ref px), some (V.ref pdp), some (V.ref ph), w7, w8] ∧ Same H15 H') ⟨_, _, rfl, Same.refl _⟩ ?_ ?_
    · rintro j σ H16 hj ⟨w7, w8, rfl, s16⟩
      rw [Int.zero_add (j : Int)]
      obtain ⟨k, hk1, hk2⟩ := tops_text hj
      refine ⟨_, rfl, _, _, rfl, rfl, _, rfl, ite2 (fun c => ?_) (fun c => iteF ⟨_, _, rfl, s16⟩)⟩
      refine ⟨_, rfl, _, rfl, _, rfl, ph, _, _, _, rfl, rfl, SqL.of (s16 _ _ hph15), atI_nat (lensV_get hk1), m, k, _, rfl, hrow, hk2, fun pw H17 hfw hpw s17 => ?_⟩
      have hd : (deepsN m)[j]? = some (endsN (m.take (j + 1))).length := by unfold deepsN; rw [List.getElem?_map, List.getElem?_range hj]; rfl
      refine ⟨pw, _, rfl, .inl (SqL.of hpw), _, rfl, _, rfl, pdp, _, _, _, rfl, rfl, SqL.of (s17 _ _ (s16 _ _ hpd15)), atI_nat (lensV_get hd), rfl, _, rfl, ?_⟩
      rw [lensV_len, way_deep hj, decide_eq_true rfl]
      exact iteF ⟨_, _, rfl, s16.trans s17⟩
    rintro σ H16 ⟨w7, w8, rfl, s16⟩
    have hpc16 := s16 _ _ hpc15
    have hpx16 := s16 _ _ hpx15
    refine ⟨_, rfl, px, rfl, ⟨_, SqL.of hpx16⟩, ?_⟩
    refine comp_list (K := K) (a := px) (xs := txV (mirs m m.length)) (by rw [htl, sizeLine_eq]; omega) (fun j ys H' => ys = lensV (((mirs m m.length).take j).map (wrtN m)) ∧ H' = H16) ⟨rfl, rfl⟩ (fun j ys H' ⟨_, e⟩ => by rw [e]; exact SqL.of hpx16) ?_ ?_
    · rintro j x ys H' N hx hy ⟨rfl, rfl⟩ hN
      obtain ⟨t, ht, rfl⟩ := hmt hx
      have htm := List.mem_of_getElem? ht
      obtain ⟨r1, r2, r3, r4⟩ := mirs_row (Nat.le_refl _) hrow htm
      have dg := DGet.k (k := Sum.inr (tx t)) hpc16
      rw [oftK_val htm] at dg
      refine yes_ok (iteT ⟨_, rfl, tx t, rfl, (by rw [tx_len, sizeLine_eq]; omega), _, rfl, _, rfl, pc, _, rfl, dg, _, _, rfl, rfl, .inl ⟨by rw [tx_len]; omega, by rw [tx_len]; omega⟩, hN _ _ (by rw [List.length_append]; exact Nat.succ_le_succ hy) ⟨?_, rfl⟩⟩)
      rw [List.take_succ, ht, List.map_append, lensV_app, tx_len]
      show _ ++ [V.int ((t.length : Int) * ((oftN m t : Nat) : Int))] = _ ++ [V.int ((wrtN m t : Nat) : Int)]
      unfold wrtN
      rw [Int.natCast_mul]
    rintro ys H17 hy ⟨rfl, rfl⟩ pw hpw
    rw [htl, List.take_of_length_le (Nat.le_refl _)]
    have s18 := Same.upd (o := .lst (lensV ((mirs m m.length).map (wrtN m)))) hpw
    have f18 : upd H17 pw (.lst (lensV ((mirs m m.length).map (wrtN m)))) pw = some (.lst (lensV ((mirs m m.length).map (wrtN m)))) := upd_same
    generalize upd H17 pw (.lst (lensV ((mirs m m.length).map (wrtN m)))) = H18 at s18 f18
    have S18 : Same H H18 := S15.trans (s16.trans s18)
    refine ⟨_, rfl, rfl, _, rfl, ite2 (fun c => ?_) (fun c => iteF ⟨_, _, _, _, _, _, _, _, rfl, S18⟩)⟩
    have hne : m ≠ [] := fun z => by rw [z] at c; exact absurd c (by decide)
    have hn0 := mirs_some hne
    obtain ⟨j, t, hj, ht, hb, hbest, hfirst⟩ := best_first (l := m) hn0 (Nat.le_refl _)
    refine ⟨_, rfl, m, rfl, hrow, fun v H19 hBv s19 => ?_⟩
    rw [hb] at hBv
    obtain ⟨pv, rfl, hpv⟩ := hBv
    have hpw19 := s19 _ _ f18
    have hpx19 := s19 _ _ (s18 _ _ hpx16)
    have ewi : lensV ((mirs m m.length).map (wrtN m)) = (((mirs m m.length).map (wrtN m)).map (fun (k : Nat) => (k : Int))).map V.int := lens_ints _
    have hpw19' : H19 pw = some (.lst ((((mirs m m.length).map (wrtN m)).map (fun (k : Nat) => (k : Int))).map V.int)) := by rw [← ewi]; exact hpw19
    have hin : ((wrtN m t : Nat) : Int) ∈ ((mirs m m.length).map (wrtN m)).map (fun (k : Nat) => (k : Int)) := List.mem_map.mpr ⟨_, List.mem_map.mpr ⟨t, List.mem_of_getElem? ht, rfl⟩, rfl⟩
    have hle : ∀ x ∈ ((mirs m m.length).map (wrtN m)).map (fun (k : Nat) => (k : Int)), x ≤ ((wrtN m t : Nat) : Int) := fun x hx => by
      obtain ⟨k, hk, rfl⟩ := List.mem_map.mp hx
      obtain ⟨u, hu, rfl⟩ := List.mem_map.mp hk
      obtain ⟨n, hn⟩ := List.mem_iff_getElem?.mp hu
      have := hbest n u (List.getElem?_eq_some_iff.mp hn).1 hn
      omega
    have hpos : 0 < (((mirs m m.length).map (wrtN m)).map (fun (k : Nat) => (k : Int))).length := by rw [List.length_map, List.length_map]; exact hn0
    have hgetI : ∀ n, (((mirs m m.length).map (wrtN m)).map (fun (k : Nat) => (k : Int)))[n]? = ((mirs m m.length)[n]?).map fun u => ((wrtN m u : Nat) : Int) := fun n => by rw [List.getElem?_map, List.getElem?_map, Option.map_map]; rfl
    have hgj : (((mirs m m.length).map (wrtN m)).map (fun (k : Nat) => (k : Int)))[j]? = some ((wrtN m t : Nat) : Int) := by rw [hgetI, ht]; rfl
    have hno : ∀ n, n < j → (((mirs m m.length).map (wrtN m)).map (fun (k : Nat) => (k : Int)))[n]? ≠ some ((wrtN m t : Nat) : Int) := fun n hn z => by
      rw [hgetI] at z
      cases e : (mirs m m.length)[n]? with
      | none => rw [e] at z; cases z
      | some u =>
        rw [e] at z
        have z' : ((wrtN m u : Nat) : Int) = ((wrtN m t : Nat) : Int) := Option.some.inj z
        have := hfirst n u hn e
        omega
    generalize ((mirs m m.length).map (wrtN m)).map (fun (k : Nat) => (k : Int)) = ws at hpw19' hin hle hpos hgj hno
    have htx : (txV (mirs m m.length))[j]? = some (.str (tx t)) := by unfold txV; rw [List.getElem?_map, ht]; rfl
    refine ⟨_, rfl, _, rfl, .inl ⟨rfl, _, SqL.of hpw19'⟩, _, rfl, pw, ws, rfl, SqL.of hpw19', hpos, fun M hM hMa => ?_⟩
    have eM : M = ((wrtN m t : Nat) : Int) := Int.le_antisymm (hle M hM) (hMa _ hin)
    subst eM
    refine ⟨pw, ws, _, j, rfl, rfl, hpw19', hgj, hno, px, _, _, _, rfl, rfl, SqL.of hpx19, atI_nat htx, _, rfl, pw, ws, rfl, SqL.of hpw19', hpos, fun M hM hMa => ?_⟩
    have eM : M = ((wrtN m t : Nat) : Int) := Int.le_antisymm (hle M hM) (hMa _ hin)
    subst eM
    refine ⟨(by show 2 ≤ sizeLine; decide), fun pt2 hpt2 => ?_⟩
    have s20 := Same.upd (o := .tup [V.str (tx t), V.int ((wrtN m t : Nat) : Int)]) hpt2
    have f20 : upd H19 pt2 (.tup [V.str (tx t), V.int ((wrtN m t : Nat) : Int)]) pt2 = some (.tup [V.str (tx t), V.int ((wrtN m t : Nat) : Int)]) := upd_same
    generalize upd H19 pt2 (.tup [V.str (tx t), V.int ((wrtN m t : Nat) : Int)]) = H20 at s20 f20
    refine ⟨pv, pt2, _, _, rfl, rfl, s20 _ _ hpv, f20, rfl, fun n u v h1 h2 => ?_, _, rfl, iteF ⟨_, _, _, _, _, _, _, _, rfl, S18.trans (s19.trans s20)⟩⟩
    have e : u = v := Option.some.inj (h1.symm.trans h2)
    subst e
    refine .inl ⟨?_, rfl⟩
    rcases List.mem_cons.mp (List.mem_of_getElem? h1) with z | z
    · rw [z]; rfl
    · rw [List.mem_singleton.mp z]; rfl
end
end Mr

namespace PySem.W.Fast
def tw11016743603328445518 : Unit := ()
def tw3474557367712128084 : Unit := ()
def tw15776715348742526389 : Unit := ()
def tw7238413449095583176 : Unit := ()
def tw8133084620911145456 : Unit := ()
def tw5902404768096056116 : Unit := ()
def tw2363367554927276723 : Unit := ()
def tw11965976961884385217 : Unit := ()
def tw456540171358367256 : Unit := ()
def tw8703191016980405042 : Unit := ()
def tw11179904056971033501 : Unit := ()
def tw1298052679399484410 : Unit := ()
def tw13837875372373696373 : Unit := ()
def tw17009856523865798097 : Unit := ()
def tw5662428864386663456 : Unit := ()
def tw11517240016572686748 : Unit := ()
def tw8239904920419986097 : Unit := ()
def tw10583486221202008175 : Unit := ()
def tw11945563662993989527 : Unit := ()
def tw7685583315685833112 : Unit := ()
def tw10671135780175326440 : Unit := ()
def tw11662120276606852816 : Unit := ()
def tw4681643748251835791 : Unit := ()
def tw15006206777607241701 : Unit := ()
def tw16599013058780505776 : Unit := ()
def tw4146920162882749874 : Unit := ()
def tw15612500901838748001 : Unit := ()
def tw12478798556219932084 : Unit := ()
def tw4491277852476688277 : Unit := ()
def tw11711874541473395747 : Unit := ()
def tw14585399086822335773 : Unit := ()
def tw14273736666167498744 : Unit := ()
def tw9997113654994577484 : Unit := ()
def tw15154716117398841802 : Unit := ()
def tw6305824511598597302 : Unit := ()
def tw6125652862164107362 : Unit := ()
def tw806418775535870545 : Unit := ()
def tw17713037940917203325 : Unit := ()
def tw10108508922205065922 : Unit := ()
def tw12223804579994175600 : Unit := ()
def tw2180713286232383427 : Unit := ()
def tw12290563082505150807 : Unit := ()
def tw14368090599122624297 : Unit := ()
def tw16854731457170266742 : Unit := ()
def tw325498347776233771 : Unit := ()
def tw674542055645040787 : Unit := ()
def tw18217781748525827799 : Unit := ()
def tw13633350888805137158 : Unit := ()
def tw2937925810550289226 : Unit := ()
def tw9803747317560957373 : Unit := ()
def tw6533419478123195712 : Unit := ()
def tw6163324225766346245 : Unit := ()
def tw13704355420105385172 : Unit := ()
def tw15978101004151321907 : Unit := ()
def tw12967459496473245079 : Unit := ()
def tw17366929189045793760 : Unit := ()
def tw18250417733268245405 : Unit := ()
def tw6945440116454630570 : Unit := ()
def tw10957710243597725232 : Unit := ()
def tw11352019902292085829 : Unit := ()
def tw13711850220723076176 : Unit := ()
def tw3142833830196717573 : Unit := ()
def tw16110281366183397162 : Unit := ()
def tw3912257922538634744 : Unit := ()
def tw12019071313199133347 : Unit := ()
def tw14341004372085814059 : Unit := ()
def tw6538620136746797684 : Unit := ()
def tw13772279954795166360 : Unit := ()
def tw8017761066141419796 : Unit := ()
def tw11604120705472760063 : Unit := ()
def tw1759265332130091061 : Unit := ()
def tw11558725994765355696 : Unit := ()
def tw2659490264792015072 : Unit := ()
def tw13753755058136164217 : Unit := ()
def tw8008663722988982274 : Unit := ()
def tw16553041906398194652 : Unit := ()
def tw11931360653985441479 : Unit := ()
def tw1112248539058549460 : Unit := ()
def tw10845478795910179473 : Unit := ()
def tw12118424762046243101 : Unit := ()
def tw16831343324420102794 : Unit := ()
def tw4198711799686301544 : Unit := ()
def tw10922187434058568332 : Unit := ()
def tw8380818505320166433 : Unit := ()
def tw10373216722674438868 : Unit := ()
def tw4008837743266817883 : Unit := ()
def tw4089430889379725517 : Unit := ()
def tw1809986781225242009 : Unit := ()
def tw14170154521837124772 : Unit := ()
def tw10222169120933960529 : Unit := ()
def tw8704727397702696059 : Unit := ()
def tw969585923093579165 : Unit := ()
def tw7294047708338828716 : Unit := ()
def tw14842746055177898825 : Unit := ()
def tw15848892870180406322 : Unit := ()
def tw2650462840650291041 : Unit := ()
def tw14663980117363869234 : Unit := ()
def tw10008532447395230839 : Unit := ()
def tw4910816398557341426 : Unit := ()
def tw9103294548275967921 : Unit := ()
def tw2740212875437384991 : Unit := ()
def tw1457997407502245812 : Unit := ()
def tw16663901626080646498 : Unit := ()
def tw3771254173427579992 : Unit := ()
def tw16541745268011405959 : Unit := ()
def tw15392223318845036477 : Unit := ()
def tw3446499286139388054 : Unit := ()
def tw2617897877954255336 : Unit := ()
def tw10394275604168710386 : Unit := ()
def tw2053046034721617756 : Unit := ()
def tw7152018361501104288 : Unit := ()
def tw5208608534531850761 : Unit := ()
def tw6104294236491360535 : Unit := ()
def tw1258824859328500871 : Unit := ()
def tw2055193527091466767 : Unit := ()
def tw3255403096035423247 : Unit := ()
def tw16623619850843614354 : Unit := ()
def tw7220063536116051948 : Unit := ()
def tw17272886557977681924 : Unit := ()
def tw16926172242059763178 : Unit := ()
def tw2457329664967761732 : Unit := ()
def tw11445555714336135781 : Unit := ()
def tw2810194173841674558 : Unit := ()
def tw15258752042489270959 : Unit := ()
def tw6234694704985338588 : Unit := ()
def tw11171319510681071336 : Unit := ()
def tw14311715219192338762 : Unit := ()
def tw1906931710967892231 : Unit := ()
def tw11539840026335114245 : Unit := ()
def tw10582616971912043046 : Unit := ()
def tw16259098919963591399 : Unit := ()
def tw15430718575227572203 : Unit := ()
def tw11186695213622760540 : Unit := ()
def tw8463140076100010471 : Unit := ()
def tw14146174262967360062 : Unit := ()
def tw14312058261454978193 : Unit := ()
def tw8093291121373040121 : Unit := ()
def tw17474354231469437717 : Unit := ()
def tw14027962281518411216 : Unit := ()
def tw4572315082908050387 : Unit := ()
def tw3536530361552431016 : Unit := ()
def tw15508638813721554727 : Unit := ()
def tw15909946398519454601 : Unit := ()
def tw7081577331342084746 : Unit := ()
def tw18041380580085875214 : Unit := ()
def tw11185011539643908728 : Unit := ()
def tw6848962859266254461 : Unit := ()
def tw12402395710562461824 : Unit := ()
def tw10168975483022285917 : Unit := ()
def tw13391160743180238337 : Unit := ()
def tw5458252234174722975 : Unit := ()
def tw9261308531188125747 : Unit := ()
def tw5541217729622420588 : Unit := ()
def tw17347569015786039465 : Unit := ()
def tw90441540353587730 : Unit := ()
def tw2197515791291980186 : Unit := ()
def tw17312982385055356067 : Unit := ()
def tw13515135780822972752 : Unit := ()
def tw12745937701122663048 : Unit := ()
def tw5944330224821803721 : Unit := ()
def tw5239758963916674930 : Unit := ()
def tw3972695593990072980 : Unit := ()
def tw16800111262223159395 : Unit := ()
def tw7755280618595081426 : Unit := ()
def tw2932219745582627900 : Unit := ()
def tw242628227369883023 : Unit := ()
def tw15322860479160720592 : Unit := ()
def tw13848567208930588568 : Unit := ()
def tw3234765908264603058 : Unit := ()
def tw7201708015383203356 : Unit := ()
def tw3893903724494596865 : Unit := ()
def tw8342587579941165831 : Unit := ()
def tw17609017706784719192 : Unit := ()
def tw7455424281715644901 : Unit := ()
def tw4233096096660981210 : Unit := ()
def tw11024454341632951406 : Unit := ()
def tw6233187790178743407 : Unit := ()
def tw13395627777393885768 : Unit := ()
def tw6462488284072986455 : Unit := ()
def tw16568286180106427250 : Unit := ()
def tw1357520886631444857 : Unit := ()
def tw9535815479507392590 : Unit := ()
def tw7653696072654302999 : Unit := ()
def tw16121240812203562664 : Unit := ()
def tw11045593251037627895 : Unit := ()
def tw439714306102414955 : Unit := ()
def tw5829757225347874528 : Unit := ()
def tw12610221781589702573 : Unit := ()
def tw11499781311196656899 : Unit := ()
def tw4016277167530423627 : Unit := ()
def tw16980367689692980157 : Unit := ()
def tw18329444519833515320 : Unit := ()
def tw17514783203526587556 : Unit := ()
def tw10737182345243916561 : Unit := ()
def tw2289787031817335721 : Unit := ()
def tw11007177132467619798 : Unit := ()
def tw2857098545877429224 : Unit := ()
def tw1149662433560299464 : Unit := ()
def tw16819760743480060962 : Unit := ()
def tw11144836454797959293 : Unit := ()
def tw2939003137424409548 : Unit := ()
def tw9843228102335178437 : Unit := ()
def tw11132281500294548652 : Unit := ()
def tw6208545873385826499 : Unit := ()
def tw15761942470452154649 : Unit := ()
def tw15495494522942584305 : Unit := ()
def tw9512298154341160861 : Unit := ()
def tw14377512874991196966 : Unit := ()
def tw18125317215615558678 : Unit := ()
def tw16059561373874028152 : Unit := ()
def tw5831466421074535953 : Unit := ()
def tw15930791211515095280 : Unit := ()
def tw8064771727921285833 : Unit := ()
def tw4059800463181313751 : Unit := ()
def tw2778940016351349421 : Unit := ()
def tw17138327631652164401 : Unit := ()
def tw6243219558555002391 : Unit := ()
def tw4408798864512820967 : Unit := ()
def tw2774328038935781024 : Unit := ()
def tw17873776695679886435 : Unit := ()
def tw3057426536085938351 : Unit := ()
def tw3998510793908914667 : Unit := ()
def tw3014171000483962075 : Unit := ()
def tw12247362836258788281 : Unit := ()
def tw9695003232792486045 : Unit := ()
def tw11333082405657187505 : Unit := ()
def tw1871543732611711314 : Unit := ()
def tw8706825819466537451 : Unit := ()
def tw14791870686537590428 : Unit := ()
def tw4658765948022357073 : Unit := ()
def tw7463107752755829359 : Unit := ()
def tw5939917105665472588 : Unit := ()
def tw530302622721296773 : Unit := ()
def tw1443484495961593478 : Unit := ()
def tw9389518147329680898 : Unit := ()
def tw581741243176809316 : Unit := ()
def tw18008058619302799667 : Unit := ()
def tw11687011170305292375 : Unit := ()
def tw8048370631024644318 : Unit := ()
def tw8523382906176726818 : Unit := ()
def tw8313620925338473407 : Unit := ()
def tw11259412637980874780 : Unit := ()
def tw1708961675725113266 : Unit := ()
def tw9914122774113154377 : Unit := ()
def tw23654539194685231 : Unit := ()
def tw14352780019666607680 : Unit := ()
def tw13633211961635595803 : Unit := ()
def tw3880687791466866211 : Unit := ()
def tw4810237339915332776 : Unit := ()
def tw333962378895060171 : Unit := ()
def tw12052889352867261912 : Unit := ()
def tw17734163293115294025 : Unit := ()
def tw13716976014914060768 : Unit := ()
def tw18068902619775685372 : Unit := ()
def tw14821454190722671748 : Unit := ()
def tw6875240301583761093 : Unit := ()
def tw9369596668101454265 : Unit := ()
def tw16102027389172953137 : Unit := ()
def tw5397139758194277573 : Unit := ()
def tw14737889930145661395 : Unit := ()
def tw17349096820219490243 : Unit := ()
def tw11866313775246785358 : Unit := ()
def tw9865666755772844625 : Unit := ()
def tw8677514264952792823 : Unit := ()
def tw15498692072206858706 : Unit := ()
def tw11733061232719260488 : Unit := ()
def tw4570428430558345874 : Unit := ()
def tw13909536144813462554 : Unit := ()
def tw15301386621951139560 : Unit := ()
def tw1141094069936554135 : Unit := ()
def tw8513877680260512953 : Unit := ()
def tw8009026590876866519 : Unit := ()
def tw13459000592196689687 : Unit := ()
def tw3808572569335984396 : Unit := ()
def tw7348509540287559693 : Unit := ()
def tw9023028693687094188 : Unit := ()
def tw14221692348444853253 : Unit := ()
def tw11384971071960861882 : Unit := ()
def tw3111479029121309537 : Unit := ()
def tw3494908016032543568 : Unit := ()
def tw7168893479181644559 : Unit := ()
def tw15693909928695784541 : Unit := ()
def tw13510629623166250400 : Unit := ()
def tw4197105861131746486 : Unit := ()
def tw13024165271741155286 : Unit := ()
def tw5900802626767119069 : Unit := ()
def tw16362179606589313668 : Unit := ()
def tw11553020453942221073 : Unit := ()
def tw2591708921253833607 : Unit := ()
def tw6603701715902729803 : Unit := ()
def tw16500416487724583492 : Unit := ()
def tw13293367591997444103 : Unit := ()
def tw6298576819778289466 : Unit := ()
def tw1511399708427712076 : Unit := ()
def tw3124661678063908143 : Unit := ()
def tw17100518877132756838 : Unit := ()
def tw17426736928600463171 : Unit := ()
def tw17871107520005521464 : Unit := ()
def tw14399432493482774765 : Unit := ()
def tw11650064718164992873 : Unit := ()
def tw692960205691597056 : Unit := ()
def tw6179413963021886139 : Unit := ()
def tw13761778467884171854 : Unit := ()
def tw18322963017665308171 : Unit := ()
def tw4497884170940683231 : Unit := ()
def tw9421311102811194925 : Unit := ()
def tw11474892243720018668 : Unit := ()
def tw5872129957374224651 : Unit := ()
def tw7984068345180056918 : Unit := ()
def tw18440100968162710659 : Unit := ()
def tw6623183254358364122 : Unit := ()
def tw16107209608402455477 : Unit := ()
def tw15267828771619019817 : Unit := ()
def tw3712221252101500513 : Unit := ()
def tw13546739863970683003 : Unit := ()
def tw16601669912857780158 : Unit := ()
def tw1448790859316825106 : Unit := ()
def tw12613817164017306410 : Unit := ()
def tw7120415124959775065 : Unit := ()
def tw15544356693672396319 : Unit := ()
def tw2136883208931497866 : Unit := ()
def tw9046585093242436432 : Unit := ()
def tw11563793630643015561 : Unit := ()
def tw14312083991047702179 : Unit := ()
def tw18206302556589257393 : Unit := ()
def tw14528584501891413207 : Unit := ()
def tw3399738858311192616 : Unit := ()
def tw9611027434349393910 : Unit := ()
end PySem.W.Fast
namespace Mr
open PySem L2
theorem all_mk {l : PySem.W.OpenLaw} {w : World} {K : PySem.W.Frag} {mg : Str → Option Value} {fa : Addr} {tM : Tok} {tL : Tok} (hfa : mg "law" = some (.ref fa))
    (a_is_whole : At K mg "is_whole" sWhole ["thing"])
    (a_is_row : At K mg "is_row" sIsRow ["thing"])
    (a_need_row : At K mg "need_row" sNeedRow ["thing"])
    (a_is_mirror : At K mg "is_mirror" sIsMirror ["thing"])
    (a_need_mirror : At K mg "need_mirror" s_need_mirror ["thing"])
    (a_back : At K mg "back" sBack ["row"])
    (a_reaches : At K mg "reaches" s_reaches ["row"])
    (a_reach_around : At K mg "reach_around" s_reach_around ["row", "middle"])
    (a_mirrors_many : At K mg "mirrors_many" s_mirrors_many ["row"])
    (a_ends_ahead : At K mg "ends_ahead" s_ends_ahead ["told", "behind"])
    (a_ends_by_place : At K mg "ends_by_place" s_ends_by_place ["row"])
    (a_tree : At K mg "tree" s_tree ["row"])
    (a_longest_entry : At K mg "longest_entry" s_longest_entry ["row", "lengths", "numbers"])
    (a_way : At K mg "way" s_way ["row", "number"])
    (a_ends_with : At K mg "ends_with" s_ends_with ["row", "lengths", "sign"])
    (a_often : At K mg "often" s_often ["row"])
    (a_stretches : At K mg "stretches" s_stretches ["row", "text"])
    (a_deeps : At K mg "deeps" s_deeps ["row"])
    (a_tops : At K mg "tops" s_tops ["row"])
    (a_worthiest : At K mg "worthiest" s_worthiest ["row"])
    (a_law_cell : At K mg "_law_cell" sCell ["_law_script", "_law_k"])
    (a_law_mix : At K mg "_law_mix" sMix ["_law_cell_here", "_law_k"])
    (a_law_box : At K mg "_law_box" sBox ["_law_script", "_law_k"])
    (a_law_take : At K mg "_law_take" sTake ["_law_box_here", "_law_many"])
    (a_law_from_behind : At K mg "_law_from_behind" sBehind ["_law_text"])
    (a_law_alike : At K mg "_law_alike" sAlike ["_law_text"])
    (a_law_closed : At K mg "_law_closed" sClosed ["_law_text"])
    (a_law_row : At K mg "_law_row" sRow ["_law_box_here", "_law_most"])
    (a_law : At K mg "law" sLaw ["_law_script"])
    (hM : mg "MOST_SIGNS" = some (.int 200 tM))
    (hL : mg "LETTERS" = some (.str (tx lets) tL))
    (z_len : mg "len" = none)
    (z_range : mg "range" = none)
    (z_abs : mg "abs" = none)
    (z_divmod : mg "divmod" = none)
    (z_isinstance : mg "isinstance" = none)
    (z_bool : mg "bool" = none)
    (z_str : mg "str" = none)
    (z_all : mg "all" = none)
    (z_max : mg "max" = none)
    (z_min : mg "min" = none)
    (z_int : mg "int" = none)
    (z_list : mg "list" = none)
    (z_sum : mg "sum" = none)
    (z_dict : mg "dict" = none)
    (z_sorted : mg "sorted" = none)
    (z_zip : mg "zip" = none)
    {c_NoMirror : Addr} (e_NoMirror : Er K mg "NoMirror" c_NoMirror)
    {c_NoNumber : Addr} (e_NoNumber : Er K mg "NoNumber" c_NoNumber)
    {C_Grower : Addr} (aC_Grower : mg "Grower" = some (.ref C_Grower)) (cl_Grower : Cls K C_Grower) (mk_Grower : PySem.W.makesIn K C_Grower = true) (kc_Grower : PySem.W.keepIn K (.ref C_Grower) = true) (na_Grower_signs : NoAttr K C_Grower "signs") (na_Grower_endings : NoAttr K C_Grower "endings") (na_Grower_brought : NoAttr K C_Grower "brought") (na_Grower_entries : NoAttr K C_Grower "entries") (na_Grower_numbers : NoAttr K C_Grower "numbers")
    (m_Grower_init : AtM K C_Grower "__init__" "Grower.__init__" s_Grower_init ["self"])
    (m_Grower_ends : AtM K C_Grower "ends" "Grower.ends" s_Grower_ends ["self"])
    (m_Grower_add : AtM K C_Grower "add" "Grower.add" s_Grower_add ["self", "sign"])
    : ∃ fd : FuncData, (∀ (s : Shared) (v : Value), BindsTo s fd ⟨[v], []⟩ [("_law_script", v)]) ∧ ∀ base : Heap, K.In base → base.Ns mainGlobals mg → FnOk l.prog w K mg base CX0 9 fa fd ["_law_script"] (spLaw K) := by
  obtain ⟨f, fd, F, hm, hb⟩ := a_law.ex
  have e := hfa.symm.trans hm
  cases e
  refine ⟨fd, fun s v => .of_eq (hb [v] rfl), fun base _ _ => ?_⟩
  have T_Grower : ClG K mg C_Grower := ⟨cl_Grower, na_Grower_signs, na_Grower_endings, na_Grower_brought, na_Grower_entries, na_Grower_numbers, aC_Grower⟩
  have dCell := ok_cell (P := l.prog) (w := w) (base := base) a_law_cell z_len
  have dMix := ok_mix (P := l.prog) (w := w) (base := base) a_law_mix
  have dBox := ok_box a_law_box dCell dMix z_abs z_range
  have dTake := ok_take (P := l.prog) (w := w) (base := base) a_law_take z_divmod
  have dBeh := ok_behind (P := l.prog) (w := w) (base := base) a_law_from_behind
  have dAl := ok_alike (P := l.prog) (w := w) (base := base) a_law_alike z_len z_range
  have dCl := ok_closed a_law_closed dAl dBeh
  have dRow := ok_row a_law_row dTake dBeh dCl z_range
  have dIR := ok_isrow (P := l.prog) (w := w) (base := base) a_is_row z_isinstance z_str z_len z_all hM hL
  have dN := ok_need a_need_row dIR
  have dBk := ok_back a_back dN
  have dIM := ok_mirror a_is_mirror dIR dBk
  have d_ra := ok_reach_around (P := l.prog) (w := w) (base := base) a_reach_around z_len
  have d_reaches := ok_reaches a_reaches dN d_ra z_len z_range
  have d_ea := ok_ends_ahead (P := l.prog) (w := w) (base := base) a_ends_ahead z_range
  have d_many := ok_mirrors_many a_mirrors_many d_reaches z_sum
  have d_ebp := ok_ebp a_ends_by_place d_reaches d_ea z_len z_range
  have d_le := ok_lentry (P := l.prog) (w := w) (base := base) a_longest_entry z_len
  have d_tree := ok_tree a_tree d_ebp d_le z_len z_range
  have d_ew := ok_ew (P := l.prog) (w := w) (base := base) a_ends_with z_len
  have d_Gr := ok_ginit (P := l.prog) (w := w) (base := base) m_Grower_init T_Grower mk_Grower kc_Grower
  have m_ends := ok_gends (P := l.prog) (w := w) (base := base) m_Grower_ends T_Grower z_list
  have m_add := ok_gadd m_Grower_add T_Grower dIR d_ew m_ends d_le z_len hM
  have d_tops := ok_tops a_tops T_Grower dN m_add d_Gr
  have d_deeps := ok_deeps a_deeps d_ebp z_len
  have d_often := ok_often a_often d_tree d_tops z_dict z_len z_range z_zip
  have d_worth := ok_worthiest a_worthiest d_often d_tree z_len
  have dWG := ok_wholeg (P := l.prog) (w := w) (base := base) a_is_whole z_isinstance z_int z_bool
  have dNM := ok_need_mirror a_need_mirror e_NoMirror dIM
  have dStrX := ok_stretches a_stretches dN dNM z_len z_range
  have dStr := dStrX.df (sp' := spStrM) fun vs H Q E ⟨l, t, e, h1, h2, h3, h4, q⟩ => ⟨l, _, e, h1, .inl ⟨t, rfl, mir_true h2 h3 h4, Nat.le_trans (rowL_iff.mp h2).1 (by decide), q⟩⟩
  have dWayX := ok_way a_way e_NoNumber d_tree dWG z_len
  have dWay := dWayX.df (sp' := spWay1) fun vs H Q E ⟨l, j, t, e, h1, h2, q⟩ => ⟨l, _, e, h1, .inl ⟨j, t, rfl, h2, q⟩⟩
  exact ok_law F d_worth dRow dBox d_often d_tree d_many (dStr.mono (by decide)) d_deeps d_tops dWay z_len z_max z_min z_range z_sorted z_sum
theorem walk {l : PySem.W.OpenLaw} {q : Program} {loose : List Str} {XP : (Str → Option Value) → Heap → Prop} {YP : World → Heap → Prop} {d : DefRec} {K : Params → PySem.W.Frag} (hn : l.most = some 63) (hdf : d.params.defaults = [])
    (hY : ∀ (w : World) (h : Heap), YP w h → (K w.params).In h)
    (F : ∀ (w : World) (mg : Str → Option Value) (fa : Addr) (h : Heap), (K w.params).In h → h.Ns mainGlobals mg → mg d.name = some (.ref fa) →
      ∃ fd : FuncData, (∀ (s : Shared) (u : Value), BindsTo s fd ⟨[u], []⟩ [("_law_script", u)]) ∧ ∀ base : Heap, (K w.params).In base → base.Ns mainGlobals mg → FnOk l.prog w (K w.params) mg base CX0 9 fa fd ["_law_script"] (spLaw (K w.params))) :
    PySem.W.WalkO q loose XP YP l.row.toRowW d [] (fun f vs => PySem.call f vs) :=
  L2.walk_of (n := 63) (k := 9) (x := "_law_script") (CX := fun _ => CX0) (sp := fun w => spLaw (K w.params)) hn (by decide) hdf ⟨rfl, by decide, by decide⟩ hY F (fun _ _ a ns hl _ hS => ⟨a, ns, rfl, hS, hl, fun _ => rfl⟩) fun _ _ _ _ _ z => z
theorem us1 {us : List Value} (hl : us.length = 1) : ∃ x0, us = [x0] := by
  rcases us with _ | ⟨x0, _ | ⟨w, t⟩⟩
  all_goals first
    | exact ⟨_, rfl⟩
    | cases hl
theorem us2 {us : List Value} (hl : us.length = 2) : ∃ x0 x1, us = [x0, x1] := by
  rcases us with _ | ⟨x0, _ | ⟨x1, _ | ⟨w, t⟩⟩⟩
  all_goals first
    | exact ⟨_, _, rfl⟩
    | cases hl
theorem us3 {us : List Value} (hl : us.length = 3) : ∃ x0 x1 x2, us = [x0, x1, x2] := by
  rcases us with _ | ⟨x0, _ | ⟨x1, _ | ⟨x2, _ | ⟨w, t⟩⟩⟩⟩
  all_goals first
    | exact ⟨_, _, _, rfl⟩
    | cases hl
end Mr
open PySem PySem.W PyProof.Rows
set_option maxRecDepth 100000 in
set_option maxHeartbeats 0 in
theorem PySem.Challenge.cw_mirrorruns_k35_whole_all_together_holds : PySem.Challenge.rw_mirrorruns_k35_whole_all_together.Holds := by
  w_on; o_law; k_head; (case hw => w_witness2)
  k_fill
  refine Mr.walk (l := PySem.Challenge.rw_mirrorruns_k35_whole_all_together) rfl rfl (fun w h Y => PySem.W.kIn_of Y) ?F
  case F =>
    intro w mg fa h KX G hmg
    refine' Mr.all_mk hmg ?a_is_whole ?a_is_row ?a_need_row ?a_is_mirror ?a_need_mirror ?a_back ?a_reaches ?a_reach_around ?a_mirrors_many ?a_ends_ahead ?a_ends_by_place ?a_tree ?a_longest_entry ?a_way ?a_ends_with ?a_often ?a_stretches ?a_deeps ?a_tops ?a_worthiest ?a_law_cell ?a_law_mix ?a_law_box ?a_law_take ?a_law_from_behind ?a_law_alike ?a_law_closed ?a_law_row ?a_law ?hM ?hL ?z_len ?z_range ?z_abs ?z_divmod ?z_isinstance ?z_bool ?z_str ?z_all ?z_max ?z_min ?z_int ?z_list ?z_sum ?z_dict ?z_sorted ?z_zip ?e_NoMirror ?e_NoNumber ?aC_Grower ?cl_Grower ?mk_Grower ?kc_Grower ?na_Grower_signs ?na_Grower_endings ?na_Grower_brought ?na_Grower_entries ?na_Grower_numbers ?m_Grower_init ?m_Grower_ends ?m_Grower_add
    (case a_is_whole => refine' L2.At.mk' KX G ?a ?l ?c ?k (fun _ _ _ _ _ _ us hl => by obtain ⟨x0, rfl⟩ := Mr.us1 hl; rfl); (case a => k_is); (case l => k_is); (case c => k_is); (case k => k_is))
    (case a_is_row => refine' L2.At.mk' KX G ?a ?l ?c ?k (fun _ _ _ _ _ _ us hl => by obtain ⟨x0, rfl⟩ := Mr.us1 hl; rfl); (case a => k_is); (case l => k_is); (case c => k_is); (case k => k_is))
    (case a_need_row => refine' L2.At.mk' KX G ?a ?l ?c ?k (fun _ _ _ _ _ _ us hl => by obtain ⟨x0, rfl⟩ := Mr.us1 hl; rfl); (case a => k_is); (case l => k_is); (case c => k_is); (case k => k_is))
    (case a_is_mirror => refine' L2.At.mk' KX G ?a ?l ?c ?k (fun _ _ _ _ _ _ us hl => by obtain ⟨x0, rfl⟩ := Mr.us1 hl; rfl); (case a => k_is); (case l => k_is); (case c => k_is); (case k => k_is))
    (case a_need_mirror => refine' L2.At.mk' KX G ?a ?l ?c ?k (fun _ _ _ _ _ _ us hl => by obtain ⟨x0, rfl⟩ := Mr.us1 hl; rfl); (case a => k_is); (case l => k_is); (case c => k_is); (case k => k_is))
    (case a_back => refine' L2.At.mk' KX G ?a ?l ?c ?k (fun _ _ _ _ _ _ us hl => by obtain ⟨x0, rfl⟩ := Mr.us1 hl; rfl); (case a => k_is); (case l => k_is); (case c => k_is); (case k => k_is))
    (case a_reaches => refine' L2.At.mk' KX G ?a ?l ?c ?k (fun _ _ _ _ _ _ us hl => by obtain ⟨x0, rfl⟩ := Mr.us1 hl; rfl); (case a => k_is); (case l => k_is); (case c => k_is); (case k => k_is))
    (case a_reach_around => refine' L2.At.mk' KX G ?a ?l ?c ?k (fun _ _ _ _ _ _ us hl => by obtain ⟨x0, x1, rfl⟩ := Mr.us2 hl; rfl); (case a => k_is); (case l => k_is); (case c => k_is); (case k => k_is))
    (case a_mirrors_many => refine' L2.At.mk' KX G ?a ?l ?c ?k (fun _ _ _ _ _ _ us hl => by obtain ⟨x0, rfl⟩ := Mr.us1 hl; rfl); (case a => k_is); (case l => k_is); (case c => k_is); (case k => k_is))
    (case a_ends_ahead => refine' L2.At.mk' KX G ?a ?l ?c ?k (fun _ _ _ _ _ _ us hl => by obtain ⟨x0, x1, rfl⟩ := Mr.us2 hl; rfl); (case a => k_is); (case l => k_is); (case c => k_is); (case k => k_is))
    (case a_ends_by_place => refine' L2.At.mk' KX G ?a ?l ?c ?k (fun _ _ _ _ _ _ us hl => by obtain ⟨x0, rfl⟩ := Mr.us1 hl; rfl); (case a => k_is); (case l => k_is); (case c => k_is); (case k => k_is))
    (case a_tree => refine' L2.At.mk' KX G ?a ?l ?c ?k (fun _ _ _ _ _ _ us hl => by obtain ⟨x0, rfl⟩ := Mr.us1 hl; rfl); (case a => k_is); (case l => k_is); (case c => k_is); (case k => k_is))
    (case a_longest_entry => refine' L2.At.mk' KX G ?a ?l ?c ?k (fun _ _ _ _ _ _ us hl => by obtain ⟨x0, x1, x2, rfl⟩ := Mr.us3 hl; rfl); (case a => k_is); (case l => k_is); (case c => k_is); (case k => k_is))
    (case a_way => refine' L2.At.mk' KX G ?a ?l ?c ?k (fun _ _ _ _ _ _ us hl => by obtain ⟨x0, x1, rfl⟩ := Mr.us2 hl; rfl); (case a => k_is); (case l => k_is); (case c => k_is); (case k => k_is))
    (case a_ends_with => refine' L2.At.mk' KX G ?a ?l ?c ?k (fun _ _ _ _ _ _ us hl => by obtain ⟨x0, x1, x2, rfl⟩ := Mr.us3 hl; rfl); (case a => k_is); (case l => k_is); (case c => k_is); (case k => k_is))
    (case a_often => refine' L2.At.mk' KX G ?a ?l ?c ?k (fun _ _ _ _ _ _ us hl => by obtain ⟨x0, rfl⟩ := Mr.us1 hl; rfl); (case a => k_is); (case l => k_is); (case c => k_is); (case k => k_is))
    (case a_stretches => refine' L2.At.mk' KX G ?a ?l ?c ?k (fun _ _ _ _ _ _ us hl => by obtain ⟨x0, x1, rfl⟩ := Mr.us2 hl; rfl); (case a => k_is); (case l => k_is); (case c => k_is); (case k => k_is))
    (case a_deeps => refine' L2.At.mk' KX G ?a ?l ?c ?k (fun _ _ _ _ _ _ us hl => by obtain ⟨x0, rfl⟩ := Mr.us1 hl; rfl); (case a => k_is); (case l => k_is); (case c => k_is); (case k => k_is))
    (case a_tops => refine' L2.At.mk' KX G ?a ?l ?c ?k (fun _ _ _ _ _ _ us hl => by obtain ⟨x0, rfl⟩ := Mr.us1 hl; rfl); (case a => k_is); (case l => k_is); (case c => k_is); (case k => k_is))
    (case a_worthiest => refine' L2.At.mk' KX G ?a ?l ?c ?k (fun _ _ _ _ _ _ us hl => by obtain ⟨x0, rfl⟩ := Mr.us1 hl; rfl); (case a => k_is); (case l => k_is); (case c => k_is); (case k => k_is))
    (case a_law_cell => refine' L2.At.mk' KX G ?a ?l ?c ?k (fun _ _ _ _ _ _ us hl => by obtain ⟨x0, x1, rfl⟩ := Mr.us2 hl; rfl); (case a => k_is); (case l => k_is); (case c => k_is); (case k => k_is))
    (case a_law_mix => refine' L2.At.mk' KX G ?a ?l ?c ?k (fun _ _ _ _ _ _ us hl => by obtain ⟨x0, x1, rfl⟩ := Mr.us2 hl; rfl); (case a => k_is); (case l => k_is); (case c => k_is); (case k => k_is))
    (case a_law_box => refine' L2.At.mk' KX G ?a ?l ?c ?k (fun _ _ _ _ _ _ us hl => by obtain ⟨x0, x1, rfl⟩ := Mr.us2 hl; rfl); (case a => k_is); (case l => k_is); (case c => k_is); (case k => k_is))
    (case a_law_take => refine' L2.At.mk' KX G ?a ?l ?c ?k (fun _ _ _ _ _ _ us hl => by obtain ⟨x0, x1, rfl⟩ := Mr.us2 hl; rfl); (case a => k_is); (case l => k_is); (case c => k_is); (case k => k_is))
    (case a_law_from_behind => refine' L2.At.mk' KX G ?a ?l ?c ?k (fun _ _ _ _ _ _ us hl => by obtain ⟨x0, rfl⟩ := Mr.us1 hl; rfl); (case a => k_is); (case l => k_is); (case c => k_is); (case k => k_is))
    (case a_law_alike => refine' L2.At.mk' KX G ?a ?l ?c ?k (fun _ _ _ _ _ _ us hl => by obtain ⟨x0, rfl⟩ := Mr.us1 hl; rfl); (case a => k_is); (case l => k_is); (case c => k_is); (case k => k_is))
    (case a_law_closed => refine' L2.At.mk' KX G ?a ?l ?c ?k (fun _ _ _ _ _ _ us hl => by obtain ⟨x0, rfl⟩ := Mr.us1 hl; rfl); (case a => k_is); (case l => k_is); (case c => k_is); (case k => k_is))
    (case a_law_row => refine' L2.At.mk' KX G ?a ?l ?c ?k (fun _ _ _ _ _ _ us hl => by obtain ⟨x0, x1, rfl⟩ := Mr.us2 hl; rfl); (case a => k_is); (case l => k_is); (case c => k_is); (case k => k_is))
    (case a_law => refine' L2.At.mk' KX G ?a ?l ?c ?k (fun _ _ _ _ _ _ us hl => by obtain ⟨x0, rfl⟩ := Mr.us1 hl; rfl); (case a => k_is); (case l => k_is); (case c => k_is); (case k => k_is))
    (case hM => exact PySem.W.mg_of KX G (by k_is))
    (case hL => exact (PySem.W.mg_of KX G (by k_is)).trans (congrArg (fun z => some (Value.str z _)) Mr.e_lets))
    (case z_len => exact PySem.W.mg_none_of KX G (by k_is))
    (case z_range => exact PySem.W.mg_none_of KX G (by k_is))
    (case z_abs => exact PySem.W.mg_none_of KX G (by k_is))
    (case z_divmod => exact PySem.W.mg_none_of KX G (by k_is))
    (case z_isinstance => exact PySem.W.mg_none_of KX G (by k_is))
    (case z_bool => exact PySem.W.mg_none_of KX G (by k_is))
    (case z_str => exact PySem.W.mg_none_of KX G (by k_is))
    (case z_all => exact PySem.W.mg_none_of KX G (by k_is))
    (case z_max => exact PySem.W.mg_none_of KX G (by k_is))
    (case z_min => exact PySem.W.mg_none_of KX G (by k_is))
    (case z_int => exact PySem.W.mg_none_of KX G (by k_is))
    (case z_list => exact PySem.W.mg_none_of KX G (by k_is))
    (case z_sum => exact PySem.W.mg_none_of KX G (by k_is))
    (case z_dict => exact PySem.W.mg_none_of KX G (by k_is))
    (case z_sorted => exact PySem.W.mg_none_of KX G (by k_is))
    (case z_zip => exact PySem.W.mg_none_of KX G (by k_is))
    (case e_NoMirror => exact ⟨PySem.W.mg_of KX G (by k_is), by k_exc⟩)
    (case e_NoNumber => exact ⟨PySem.W.mg_of KX G (by k_is), by k_exc⟩)
    (case aC_Grower => exact PySem.W.mg_of KX G (by k_is))
    (case cl_Grower => exact ⟨by k_is, by k_is, by k_is, by k_is⟩)
    (case mk_Grower => k_is)
    (case kc_Grower => k_is)
    (case na_Grower_signs => show PySem.W.findIn _ _ _ = some none; k_is)
    (case na_Grower_endings => show PySem.W.findIn _ _ _ = some none; k_is)
    (case na_Grower_brought => show PySem.W.findIn _ _ _ = some none; k_is)
    (case na_Grower_entries => show PySem.W.findIn _ _ _ = some none; k_is)
    (case na_Grower_numbers => show PySem.W.findIn _ _ _ = some none; k_is)
    (case m_Grower_init => refine' L2.AtM.mk' ?a ?i ?l ?c ?k (fun _ _ _ _ _ _ us hl => by obtain ⟨x0, rfl⟩ := Mr.us1 hl; rfl); (case a => k_is); (case i => k_is); (case l => k_is); (case c => k_is); (case k => k_is))
    (case m_Grower_ends => refine' L2.AtM.mk' ?a ?i ?l ?c ?k (fun _ _ _ _ _ _ us hl => by obtain ⟨x0, rfl⟩ := Mr.us1 hl; rfl); (case a => k_is); (case i => k_is); (case l => k_is); (case c => k_is); (case k => k_is))
    (case m_Grower_add => refine' L2.AtM.mk' ?a ?i ?l ?c ?k (fun _ _ _ _ _ _ us hl => by obtain ⟨x0, x1, rfl⟩ := Mr.us2 hl; rfl); (case a => k_is); (case i => k_is); (case l => k_is); (case c => k_is); (case k => k_is))
