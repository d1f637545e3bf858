import PyProof.Rows.All
import Wide.All
import OpenK.AllK
import Wide.FinOn
import Lean
import PyProof.EqAt
import PyProof.EqKinds
import PyProof.TupleCall
import PySem.Challenge.RW_mirrorruns_k84_no_lines
set_option Elab.async false
set_option linter.all false
set_option maxRecDepth 100000
/-! THE HAND LAYER, for ints, bools, texts, own classes, LISTS and tuples (index, slices, in, append, pop ..), calls, loops. Paste it whole ahead of your own text; what your proof does not reach may be deleted. -/
namespace L2
open PySem PySem.Spec PyProof.Rows

/-- a key: an int or a str -/
abbrev Key := Sum Int Str
def keyIs : Key → Value → Bool
  | .inl k, v => Value.isInt k v
  | .inr x, v => Value.isStrOf x v
def keyH (w : World) : Key → Int
  | .inl k => hashInt k
  | .inr x => hashStr w x
theorem keyIs_shape : ∀ {k : Key} {v : Value}, keyIs k v = true → (∃ i t, k = Sum.inl i ∧ v = Value.int i t) ∨ (∃ x t, k = Sum.inr x ∧ v = Value.str x t)
  | .inl i, v, h => by
    obtain ⟨t, e⟩ := Value.isInt_shape (k := i) (v := v) h
    exact .inl ⟨i, t, rfl, e⟩
  | .inr x, v, h => by
    obtain ⟨t, e⟩ := Value.isStrOf_shape (x := x) (v := v) h
    exact .inr ⟨x, t, rfl, e⟩
theorem keyIs_int (i : Int) (t : Tok) : keyIs (.inl i) (.int i t) = true := by simp [keyIs, Value.isInt]
theorem keyIs_str (x : Str) (t : Tok) : keyIs (.inr x) (.str x t) = true := by simp [keyIs, Value.isStrOf]
theorem key_ll (a b : Int) : decide ((Sum.inl a : Key) = Sum.inl b) = (a == b) := by
  by_cases e : a = b
  · subst e; simp
  · have h : ¬ (Sum.inl a : Key) = Sum.inl b := fun q => e (Sum.inl.inj q)
    rw [decide_eq_false h]
    exact (beq_eq_false_iff_ne.mpr e).symm
theorem key_rr (a b : Str) : decide ((Sum.inr a : Key) = Sum.inr b) = decide (a = b) := by
  by_cases e : a = b
  · subst e; simp
  · have h : ¬ (Sum.inr a : Key) = Sum.inr b := fun q => e (Sum.inr.inj q)
    rw [decide_eq_false h, decide_eq_false e]
theorem key_lr (a : Int) (b : Str) : decide ((Sum.inl a : Key) = Sum.inr b) = false := decide_eq_false (fun q => nomatch q)
theorem key_rl (a : Str) (b : Int) : decide ((Sum.inr a : Key) = Sum.inl b) = false := decide_eq_false (fun q => nomatch q)

def mixKind (prog : Program) (w : World) : PySem.KeyKind prog w Key where
  is := keyIs
  hash := keyH w
  inj := fun v a b ha hb => by
    rcases keyIs_shape ha with ⟨i, t, rfl, rfl⟩ | ⟨x, t, rfl, rfl⟩
    · rcases keyIs_shape hb with ⟨j, u, rfl, e⟩ | ⟨y, u, rfl, e⟩
      · injection e with e1 _; rw [e1]
      · exact nomatch e
    · rcases keyIs_shape hb with ⟨j, u, rfl, e⟩ | ⟨y, u, rfl, e⟩
      · exact nomatch e
      · injection e with e1 _; rw [e1]
  byValue := fun k v h => by
    rcases keyIs_shape h with ⟨i, t, rfl, rfl⟩ | ⟨x, t, rfl, rfl⟩ <;> rfl
  pyHash := fun hv h => by
    rcases keyIs_shape hv with ⟨i, t, rfl, rfl⟩ | ⟨x, t, rfl, rfl⟩
    · exact wpAny_pyHash_int h
    · exact wpAny_pyHash_str h
  eqBool := fun hu hv h => by
    rcases keyIs_shape hu with ⟨i, t, rfl, rfl⟩ | ⟨x, t, rfl, rfl⟩
    · rcases keyIs_shape hv with ⟨j, u, rfl, rfl⟩ | ⟨y, u, rfl, rfl⟩
      · rw [key_ll] at h; exact wpAny_eqBool_int h
      · rw [key_lr] at h; exact SeqAt.EqAt.int_str i t y u _ _ _ _ h
    · rcases keyIs_shape hv with ⟨j, u, rfl, rfl⟩ | ⟨y, u, rfl, rfl⟩
      · rw [key_rl] at h; exact SeqAt.EqAt.str_int x t j u _ _ _ _ h
      · rw [key_rr] at h; exact wpAny_eqBool_str h
  «strs» := fun k x t v h => by
    rcases keyIs_shape h with ⟨i, u, rfl, e⟩ | ⟨y, u, rfl, e⟩
    · exact nomatch e
    · injection e with e1 _
      subst e1
      cases v <;> rfl

theorem mixKind_is (prog : Program) (w : World) (k : Key) (v : Value) : (mixKind prog w).is k v = keyIs k v := rfl
theorem mixKind_int (prog : Program) (w : World) (i : Int) (t : Tok) : (mixKind prog w).is (.inl i) (.int i t) = true := keyIs_int i t
theorem mixKind_str (prog : Program) (w : World) (x : Str) (t : Tok) : (mixKind prog w).is (.inr x) (.str x t) = true := keyIs_str x t
end L2

namespace L2
open PySem PySem.Spec PyProof.Rows

/-- a value, without the heap -/
inductive V where
  | non | bl (b : Bool) | int (i : Int) | str (x : Str) | byt (b : Array UInt8) | flt (b : UInt64) | ref (a : Addr) | ty (n : String)
  deriving DecidableEq

def RelV : V → Value → Prop
  | .non, u => u = Value.none
  | .bl b, u => u = Value.bool b
  | .int i, u => ∃ t, u = Value.int i t
  | .str x, u => ∃ t, u = Value.str x t
  | .byt b, u => ∃ t, u = Value.bytes b t
  | .flt b, u => ∃ t, u = Value.float b t
  | .ref a, u => u = Value.ref a
  | .ty n, u => u = Value.type n

abbrev Vals : List V → List Value → Prop := Paired RelV
theorem Vals.length {xs : List V} {us : List Value} (r : Vals xs us) : xs.length = us.length := Paired.length r
theorem Vals.get : ∀ {xs : List V} {us : List Value} {i : Nat} {x : V}, Vals xs us → xs[i]? = some x → ∃ u, us[i]? = some u ∧ RelV x u
  | _, _, _, _, .nil, e => by simp at e
  | _, _, 0, _, .cons r _, e => by simp at e; subst e; exact ⟨_, rfl, r⟩
  | _, _, i + 1, x, .cons _ t, e => by
    obtain ⟨u, h1, h2⟩ := Vals.get (i := i) (x := x) t (by simpa using e)
    exact ⟨u, by simpa using h1, h2⟩
theorem Vals.set {x : V} {u : Value} (r : RelV x u) : ∀ {xs : List V} {us : List Value} (i : Nat), Vals xs us → Vals (xs.set i x) (us.set i u)
  | _, _, _, .nil => .nil
  | _, _, 0, .cons _ t => .cons r t
  | _, _, i + 1, .cons q t => .cons q (Vals.set r i t)
theorem Vals.append : ∀ {xs ys : List V} {us ws : List Value}, Vals xs us → Vals ys ws → Vals (xs ++ ys) (us ++ ws)
  | _, _, _, _, .nil, s => s
  | _, _, _, _, .cons r t, s => .cons r (Vals.append t s)
theorem Vals.take : ∀ {xs : List V} {us : List Value} (n : Nat), Vals xs us → Vals (xs.take n) (us.take n)
  | _, _, 0, _ => .nil
  | _, _, _ + 1, .nil => .nil
  | _, _, n + 1, .cons r t => .cons r (Vals.take n t)
theorem Vals.drop : ∀ {xs : List V} {us : List Value} (n : Nat), Vals xs us → Vals (xs.drop n) (us.drop n)
  | _, _, 0, r => r
  | _, _, _ + 1, .nil => .nil
  | _, _, n + 1, .cons _ t => Vals.drop n t
def RelO : Option V → Option Value → Prop
  | some v, some u => RelV v u
  | none, none => True
  | _, _ => False
def KV {κ : Type} : List (κ × V) → List (κ × Value) → Prop := Paired fun (p : κ × V) (q : κ × Value) => p.1 = q.1 ∧ RelV p.2 q.2

/-- a key of a dict (00_mix): an int or a text -/
def kV : Key → V
  | .inl i => .int i
  | .inr x => .str x

/-- what stands at a tracked address -/
inductive HO where
  /-- a list -/
  | lst (xs : List V)
  /-- a tuple (never changes) -/
  | tup (xs : List V)
  /-- a dict whose keys are ints and texts; one whose keys are tuples of ints and texts (the empty one is both) -/
  | dK (kvs : List (Key × V)) | dT (kvs : List (List Key × V))
  /-- a set of ints: its members, its size -/
  | set (S : Int → Bool) (n : Nat)
  /-- an instance of the class at C, its dict at dx, its attributes -/
  | ins (C dx : Addr) (fs : List (Str × V))
  /-- the dict of the instance at x -/
  | own (x : Addr)
  /-- the dict of an exception -/
  | xd (fs : List (Str × V))
  /-- a bound method, f of x -/
  | met (f x : Addr)
  /-- a range object lo, lo + 1, .. below hi -/
  | rng (lo hi : Int)
  /-- a thing that is known to the object (the script; a dict while a loop walks it): read, never written while it is so -/
  | frz (o : Obj) (u : HO)
  /-- a code object's table -/
  | tbl (ps : Array Value)
  /-- any other thing, by what is true of its one object (a def of one's own: SetO a S n := HO.ext fun h => ..) -/
  | ext (φ : Heap → Prop)

abbrev Hp := Addr → Option HO
def upd (H : Hp) (a : Addr) (o : HO) : Hp := fun b => if b = a then some o else H b
theorem upd_same {H : Hp} {a : Addr} {o : HO} : upd H a o a = some o := by unfold upd; rw [if_pos rfl]
theorem upd_ne {H : Hp} {a b : Addr} {o : HO} (h : b ≠ a) : upd H a o b = H b := by unfold upd; rw [if_neg h]
theorem upd_upd {H : Hp} {a : Addr} {o u : HO} : upd (upd H a o) a u = upd H a u := by
  funext b; unfold upd; split <;> rfl
theorem ne_of_none {H : Hp} {a b : Addr} {o : HO} (h : H a = some o) (h' : H b = none) : a ≠ b := by
  intro e; subst e; rw [h] at h'; cases h'

section
variable (P : Program) (w : World)
def ObjOk (H : Hp) (h : Heap) (a : Addr) : HO → Prop
  | .lst xs => xs.length ≤ sizeLine ∧ ∃ (its : List Value) (n : Nat), Vals xs its ∧ h.get? a = some { cls := .type "list", data := .seq its.toArray n }
  | .tup xs => xs.length ≤ sizeLine ∧ ∃ its : List Value, Vals xs its ∧ IsTup h a its.toArray
  | .dK kvs => kvs.length ≤ sizeLine ∧ (a == sysModules) = false ∧ ∃ vs, KV kvs vs ∧ h.DictOf (mixKind P w) a vs
  | .dT kvs => kvs.length ≤ sizeLine ∧ (a == sysModules) = false ∧ ∃ xs : List (List Key × Addr × Value),
      Paired (fun (p : List Key × V) (q : List Key × Addr × Value) => p.1 = q.1 ∧ H q.2.1 = some (.tup (p.1.map kV)) ∧ RelV p.2 q.2.2) kvs xs ∧
      ∃ o es ep, h.get? a = some o ∧ o.ExactDict ∧ o.data = .dict es ep ∧ es.toList = xs.map (entryOfKey (tupleKind (mixKind P w))) ∧ (xs.map (·.1)).Nodup
  | .set S n => h.SetOf (intKind P w) a S n
  | .ins C dx fs => H dx = some (.own a) ∧ fs.length ≤ 1000 ∧ dx ≠ a ∧ h.get? a = some (PySem.W.instObj C dx) ∧
      ∃ mA, h.Ns1 dx mA ∧ (∀ f, RelO (fs.lookup f) (mA f)) ∧ PySem.Within mA (fs.map (·.1))
  | .own _ => ∃ o, h.get? a = some o
  | .xd fs => ∃ mA, h.Ns1 a mA ∧ ∀ f, RelO (fs.lookup f) (mA f)
  | .rng lo hi => ∃ t u v, h.get? a = some { cls := .type "range", data := .fields #[.int lo t, .int hi u, .int 1 v] }
  | .frz o u => h.get? a = some o ∧ ObjOk H h a u
  | .tbl ps => h.get? a = some { cls := .none, data := .fields ps }
  | .met f x => h.get? a = some (PySem.W.methodObj (.ref f) (.ref x))
  | .ext φ => φ h ∧ (∃ o, h.get? a = some o) ∧ ∀ h1 h2 : Heap, φ h1 → (∀ o, h1.get? a = some o → h2.get? a = some o) → φ h2
/-- the abstract heap is held -/
def HOk (H : Hp) (h : Heap) : Prop := ∀ a o, H a = some o → ObjOk P w H h a o
end

section
variable {P : Program} {w : World} {H H' : Hp} {h h' : Heap} {a : Addr} {o : HO}
theorem ObjOk.lt (x : ObjOk P w H h a o) : a < h.objs.size := by
  cases o with
  | lst xs => obtain ⟨_, _, _, _, e⟩ := x; exact Heap.lt_size e
  | tup xs => obtain ⟨_, _, _, p⟩ := x; exact p.lt
  | dK kvs => obtain ⟨_, _, _, _, o, _, _, e, _⟩ := x; exact Heap.lt_size e
  | dT kvs => obtain ⟨_, _, _, _, o, _, _, e, _⟩ := x; exact Heap.lt_size e
  | set S n => obtain ⟨o, _, _, _, e, _⟩ := x; exact Heap.lt_size e
  | ins C dx fs => obtain ⟨_, _, _, e, _⟩ := x; exact Heap.lt_size e
  | own y => obtain ⟨_, e⟩ := x; exact Heap.lt_size e
  | xd fs => obtain ⟨_, ⟨_, _, _, e, _⟩, _⟩ := x; exact Heap.lt_size e
  | rng lo hi => obtain ⟨_, _, _, e⟩ := x; exact Heap.lt_size e
  | frz ob u => obtain ⟨e, _⟩ := x; exact Heap.lt_size e
  | tbl ps => exact Heap.lt_size (show h.get? a = some _ from x)
  | met f y => exact Heap.lt_size (show h.get? a = some _ from x)
  | ext φ => obtain ⟨_, ⟨_, e⟩, _⟩ := x; exact Heap.lt_size e
theorem Paired.mapP {α β : Type} {F G : α → β → Prop} : ∀ {l₁ : List α} {l₂ : List β}, Paired F l₁ l₂ → (∀ a b, F a b → G a b) → Paired G l₁ l₂
  | _, _, .nil, _ => .nil
  | _, _, .cons r t, f => .cons (f _ _ r) (Paired.mapP t f)
/-- what an object's description leans on: its own object, its own dict, the tuples -/
theorem ObjOk.stay (x : ObjOk P w H h a o) (k : ∀ b u, (b = a ∨ H b = some (.own a)) → h.get? b = some u → h'.get? b = some u)
    (ho : ∀ b, H b = some (.own a) → H' b = some (.own a)) (ht : ∀ b xs, H b = some (.tup xs) → H' b = some (.tup xs)) : ObjOk P w H' h' a o := by
  induction o with
  | lst xs => obtain ⟨z, its, n, r, e⟩ := x; exact ⟨z, its, n, r, k _ _ (.inl rfl) e⟩
  | tup xs => obtain ⟨z, its, r, ob, e, c⟩ := x; exact ⟨z, its, r, ob, k _ _ (.inl rfl) e, c⟩
  | dK kvs => obtain ⟨z, y, vs, r, ob, es, ep, e, c⟩ := x; exact ⟨z, y, vs, r, ob, es, ep, k _ _ (.inl rfl) e, c⟩
  | dT kvs =>
    obtain ⟨z, y, xs, r, ob, es, ep, e, c⟩ := x
    exact ⟨z, y, xs, Paired.mapP r fun p q z => ⟨z.1, ht _ _ z.2.1, z.2.2⟩, ob, es, ep, k _ _ (.inl rfl) e, c⟩
  | set S n => obtain ⟨ob, es, ep, t, e, c⟩ := x; exact ⟨ob, es, ep, t, k _ _ (.inl rfl) e, c⟩
  | ins C dx fs =>
    obtain ⟨d, z, ne, e, mA, ⟨od, es, ep, e2, c⟩, r⟩ := x
    exact ⟨ho _ d, z, ne, k _ _ (.inl rfl) e, mA, ⟨od, es, ep, k _ _ (.inr d) e2, c⟩, r⟩
  | own y => obtain ⟨ob, e⟩ := x; exact ⟨ob, k _ _ (.inl rfl) e⟩
  | xd fs => obtain ⟨mA, ⟨od, es, ep, e, c⟩, r⟩ := x; exact ⟨mA, ⟨od, es, ep, k _ _ (.inl rfl) e, c⟩, r⟩
  | rng lo hi => obtain ⟨t, u, v, e⟩ := x; exact ⟨t, u, v, k _ _ (.inl rfl) e⟩
  | frz ob u ih => obtain ⟨e, q⟩ := x; exact ⟨k _ _ (.inl rfl) e, ih q⟩
  | tbl ps =>
    have e : h.get? a = some { cls := .none, data := .fields ps } := x
    show h'.get? a = some { cls := .none, data := .fields ps }
    exact k a _ (.inl rfl) e
  | met f y =>
    have e : h.get? a = some (PySem.W.methodObj (.ref f) (.ref y)) := x
    show h'.get? a = some (PySem.W.methodObj (.ref f) (.ref y))
    exact k a _ (.inl rfl) e
  | ext φ => obtain ⟨p, ⟨o, e⟩, st⟩ := x; exact ⟨st _ _ p fun o q => k _ _ (.inl rfl) q, ⟨o, k _ _ (.inl rfl) e⟩, st⟩
theorem HOk.lt (x : HOk P w H h) (e : H a = some o) : a < h.objs.size := (x a o e).lt
theorem HOk.fresh (x : HOk P w H h) (e : h.objs.size ≤ a) : H a = none := by
  cases q : H a with
  | none => rfl
  | some u => exact absurd (Nat.lt_of_lt_of_le (x.lt q) e) (Nat.lt_irrefl _)
/-- every object of the heap is kept -/
theorem HOk.kept (x : HOk P w H h) (k : ∀ b u, h.get? b = some u → h'.get? b = some u) : HOk P w H h' := fun a o e =>
  (x a o e).stay (fun b u _ q => k b u q) (fun _ q => q) fun _ _ q => q
/-- a new object is laid and tracked -/
theorem HOk.laid (x : HOk P w H h) (k : ∀ b u, h.get? b = some u → h'.get? b = some u) (hp : h.objs.size ≤ a) (new : ObjOk P w (upd H a o) h' a o) : HOk P w (upd H a o) h' := fun b u e => by
  have hn := x.fresh hp
  by_cases hb : b = a
  · subst hb; rw [upd_same] at e; cases e; exact new
  · rw [upd_ne hb] at e
    exact (x b u e).stay (fun c v _ q => k c v q) (fun c q => by rw [upd_ne (ne_of_none q hn)]; exact q) fun c xs q => by rw [upd_ne (ne_of_none q hn)]; exact q
end

/-- what may be read as u: it is u, or a known u -/
def Rd (H : Hp) (a : Addr) (u : HO) : Prop := H a = some u ∨ ∃ o, H a = some (.frz o u)
theorem Rd.ok {P : Program} {w : World} {H : Hp} {h : Heap} {a : Addr} {u : HO} (r : Rd H a u) (x : HOk P w H h) : ObjOk P w H h a u := by
  rcases r with r | ⟨o, r⟩
  · exact x a u r
  · obtain ⟨_, q⟩ := x a _ r
    exact q
/-- what may be written -/
def Mut : Option HO → Prop
  | some (.lst _) => True
  | some (.dK _) => True
  | some (.dT _) => True
  | some (.set _ _) => True
  | some (.ins _ _ _) => True
  | some (.ext _) => True
  | _ => False
section
variable {P : Program} {w : World} {H : Hp} {h h' : Heap} {x e : Addr} {o' : HO}
/-- the object at e is changed: x itself, or the dict of the instance x -/
theorem HOk.write (ok : HOk P w H h) (mu : Mut (H x)) (he : e = x ∨ H e = some (.own x)) (k : ∀ b u, b ≠ e → h.get? b = some u → h'.get? b = some u) (heo : ∃ u, h'.get? e = some u)
    (new : ObjOk P w (upd H x o') h' x o') : HOk P w (upd H x o') h' := fun b u q => by
  have nown : ∀ c y, H c = some (.own y) → c ≠ x := fun c y r z => by subst z; rw [r] at mu; exact mu
  have ntup : ∀ c xs, H c = some (.tup xs) → c ≠ x := fun c xs r z => by subst z; rw [r] at mu; exact mu
  by_cases hb : b = x
  · subst hb; rw [upd_same] at q; cases q; exact new
  · rw [upd_ne hb] at q
    by_cases hbe : b = e
    · have q' : H b = some (.own x) := by
        rcases he with z | z
        · exact absurd (hbe.trans z) hb
        · rw [hbe]; exact z
      rw [q] at q'; cases q'
      obtain ⟨v, hv⟩ := heo
      exact ⟨v, by rw [hbe]; exact hv⟩
    · refine (ok b u q).stay (fun c v hc r => k c v ?_ r) (fun c r => by rw [upd_ne (nown c b r)]; exact r) fun c xs r => by rw [upd_ne (ntup c xs r)]; exact r
      rcases hc with rfl | hc
      · exact hbe
      · rintro rfl
        rcases he with z | z
        · exact nown c b hc z
        · rw [hc] at z; cases z; exact hb rfl
end

/-! ### kept unless tracked; of the frames at fs (the callers') the slots may change (an exception that passes writes there); of the records at ex (iterators) nothing is said -/
structure Un (fs ex : List Addr) (H H' : Hp) (h h' : Heap) : Prop where
  keep : ∀ b o, h.get? b = some o → H b = none → b ∉ fs → b ∉ ex → h'.get? b = some o
  slot : ∀ b o, h.get? b = some o → H b = none → b ∈ fs → b ∉ ex → ∃ sl, h'.get? b = some { o with slots := sl }
  free : ∀ b o, h.get? b = some o → H b = none → b ∉ ex → H' b = none
  there : ∀ b o, h.get? b = some o → b ∉ ex → ∃ o', h'.get? b = some o'
  tups : ∀ b xs, H b = some (.tup xs) → H' b = some (.tup xs)
  frzs : ∀ b o u, H b = some (.frz o u) → H' b = some (.frz o u)
  tbls : ∀ b ps, H b = some (.tbl ps) → ∃ more, H' b = some (.tbl (ps ++ more))
section
variable {fs fs' ex ex' : List Addr} {H H1 H2 : Hp} {h h1 h2 h' : Heap} {a x e : Addr} {o : HO}
theorem Un.any (u : Un fs ex H H1 h h1) {b : Addr} {ob : Obj} (q : h.get? b = some ob) (n : H b = none) (hx : b ∉ ex) : ∃ sl, h1.get? b = some { ob with slots := sl } := by
  by_cases hb : b ∈ fs
  · exact u.slot b ob q n hb hx
  · exact ⟨ob.slots, u.keep b ob q n hb hx⟩
theorem Un.kept (k : ∀ b u, h.get? b = some u → h'.get? b = some u) : Un fs ex H H h h' :=
  ⟨fun b ob q _ _ _ => k b ob q, fun b ob q _ _ _ => ⟨ob.slots, k b ob q⟩, fun _ _ _ n _ => n, fun b ob q _ => ⟨ob, k b ob q⟩, fun _ _ q => q, fun _ _ _ q => q, fun _ ps q => ⟨#[], by rw [q]; simp⟩⟩
theorem Un.refl : Un fs ex H H h h := Un.kept fun _ _ q => q
theorem Un.laid (k : ∀ b u, h.get? b = some u → h'.get? b = some u) (hp : h.objs.size ≤ a) (hn : H a = none) : Un fs ex H (upd H a o) h h' where
  keep := fun b u q _ _ _ => k b u q
  slot := fun b u q _ _ _ => ⟨u.slots, k b u q⟩
  free := fun b u q n _ => by rw [upd_ne (Nat.ne_of_lt (Nat.lt_of_lt_of_le (Heap.lt_size q) hp))]; exact n
  there := fun b u q _ => ⟨u, k b u q⟩
  tups := fun b xs q => by rw [upd_ne (ne_of_none q hn)]; exact q
  frzs := fun b u xs q => by rw [upd_ne (ne_of_none q hn)]; exact q
  tbls := fun b ps q => ⟨#[], by rw [upd_ne (ne_of_none q hn), q]; simp⟩
theorem Un.write (mu : Mut (H x)) (he : e = x ∨ H e = some (.own x)) (k : ∀ b u, b ≠ e → h.get? b = some u → h'.get? b = some u) (heo : ∃ u, h'.get? e = some u) : Un fs ex H (upd H x o) h h' := by
  have hx : ∀ b, H b = none → b ≠ x := fun b n z => by subst z; rw [n] at mu; exact mu
  have hb : ∀ b, H b = none → b ≠ e := fun b n z => by
    subst z
    rcases he with r | r
    · exact hx b n r
    · rw [n] at r; cases r
  have hm : ∀ b u, H b = some u → ¬ Mut (some u) → b ≠ x := fun b u q nm z => by subst z; rw [q] at mu; exact nm mu
  refine ⟨fun b u q n _ _ => k b u (hb b n) q, fun b u q n _ _ => ⟨u.slots, k b u (hb b n) q⟩, fun b u q n _ => by rw [upd_ne (hx b n)]; exact n, fun b u q _ => ?_,
    fun b xs q => by rw [upd_ne (hm b _ q fun z => z)]; exact q, fun b u xs q => by rw [upd_ne (hm b _ q fun z => z)]; exact q, fun b ps q => ⟨#[], by rw [upd_ne (hm b _ q fun z => z), q]; simp⟩⟩
  by_cases hbe : b = e
  · subst hbe; exact heo
  · exact ⟨u, k b u hbe q⟩
end

/-! ### the heap without what is tracked -/
def trk (h : Heap) (H : Hp) : List Addr := (List.range h.objs.size).filter fun a => (H a).isSome
def hidT (h : Heap) (H : Hp) : Heap := PySem.W.hideAll h (trk h H)
theorem hidT_size (h : Heap) (H : Hp) : (hidT h H).objs.size = h.objs.size := PySem.W.hideAll_size _ _
theorem hidT_get {h : Heap} {H : Hp} {b : Addr} {o : Obj} (e : h.get? b = some o) (n : H b = none) : (hidT h H).get? b = some o :=
  PySem.W.hideAll_get _ e fun hm => by
    have q : (H b).isSome = true := (List.mem_filter.mp hm).2
    rw [n] at q; simp at q
theorem of_hidT {h : Heap} {H : Hp} {b : Addr} {o : Obj} (e : (hidT h H).get? b = some o) : h.get? b = some o ∧ H b = none := by
  have e' : h.get? b = some o := PySem.W.of_hideAll (trk h H) e
  refine ⟨e', ?_⟩
  cases q : H b with
  | none => rfl
  | some x =>
    have hm : b ∈ trk h H := List.mem_filter.mpr ⟨List.mem_range.mpr (Heap.lt_size e'), by simp [q]⟩
    have z : (hidT h H).get? b = none := PySem.W.hideAll_none (trk h H) hm
    rw [z] at e; cases e

/-! ### OpenK's ledger, filled with every new object but one -/
def allNews (g h : Heap) (L : Addr) : List (Addr × Obj) := (List.range h.objs.size).filterMap fun a => if a = L ∨ (g.get? a).isSome = true then none else (h.get? a).map fun o => (a, o)
def rest (g h : Heap) (L d : Addr) : List (Addr × Obj) := (allNews g h L).filter fun p => decide (p.1 ≠ d)
end L2

namespace L2
open PySem PySem.Spec PyProof.Rows

/-- the module's facts, over the base: the heap at the law's entry without what is tracked there -/
structure Mod (K : PySem.W.Frag) (mg : Str → Option Value) (base : Heap) : Prop where
  kin : K.In base
  glob : base.Ns mainGlobals mg
  blt : ∃ mb, base.Ns builtinsNs mb ∧ ∀ x : Str, x ≠ "__name__" → mb x = bootBuiltins x
  nolimit : base.NoLimit

/-- the context: a def's body (or a comprehension's block) running. base: fixed through the whole law; s₀, H₀: the entry; outer: the frames whose slots others may change (a def's callers); stack: all frames that run;
   ex: iterators that were made ahead of the entry and are walked here (a comprehension's); fn: the names whose cells were made at the entry (a def: all; a comprehension's block: its own); calm: not within an except suite; pn: pins that every state bears; xe: what is wanted of an exception that leaves the code -/
structure Cx where
  prog : Program
  w : World
  K : PySem.W.Frag
  mg : Str → Option Value
  base : Heap
  A : Around
  N : List Str
  s₀ : Shared
  H₀ : Hp
  env : Env
  outer : List Env
  stack : List Env
  ex : List Addr
  fn : Str → Bool
  calm : Bool
  pn : List (Addr × Obj)
  xe : Value → Shared → Prop
/-- the callers' frames -/
def frs (l : List Env) : List Addr := l.filterMap (·.frame)
abbrev Cx.fs (X : Cx) : List Addr := frs X.outer

def Vis (sc : Scope) (x : Str) : Prop := sc.names.lookup x = some .local ∨ sc.names.lookup x = some .cell ∨ sc.names.lookup x = some .free
def Loc (sc : Scope) (x : Str) : Prop := sc.names.lookup x = some .local ∨ sc.names.lookup x = some .cell
def Look (env : Env) (h : Heap) (m : Str → Option Value) (x : Str) (u : Value) : Prop :=
  (env.kindOf x = some .local ∧ m x = some u) ∨ ((env.kindOf x = some .cell ∨ env.kindOf x = some .free) ∧ ∃ c, env.cells.lookup x = some c ∧ h.IsCell c (some u))

structure Cx.Ok (X : Cx) : Prop where
  mod : Mod X.K X.mg X.base
  kind : X.env.scope.kind = .function
  glob : X.env.globals = mainGlobals
  blt : X.env.builtins = builtinsNs
  above : X.s₀.heap.objs.size ≤ X.env.locals
  inj : ∀ x y c, X.env.cells.lookup x = some c → X.env.cells.lookup y = some c → x = y
  has : ∀ x, (X.env.kindOf x = some .cell ∨ X.env.kindOf x = some .free) → ∃ c, X.env.cells.lookup x = some c
  cab : ∀ x c, X.fn x = true → X.env.cells.lookup x = some c → X.s₀.heap.objs.size ≤ c
  hd : X.calm = true → X.A.handled = none
  frames : X.A.frames = some X.stack
  stk : X.stack = X.outer ∨ (X.stack = X.env :: X.outer ∧ X.env.frame = some X.env.locals)
  exf : ∀ b ∈ X.ex, b ≠ X.env.locals ∧ ∀ x c, X.env.cells.lookup x = some c → c ≠ b
  bs : ∀ b o, X.base.get? b = some o → X.s₀.heap.get? b = some o ∧ X.H₀ b = none
  bsz : X.base.objs.size ≤ X.s₀.heap.objs.size
  noex : ∀ b o, X.base.get? b = some o → b ∉ X.ex
  exfs : ∀ b ∈ X.ex, b ∉ X.fs
  funs : X.s₀.heap.FunFrames X.base X.outer
  frf : ∀ b ∈ X.fs, X.H₀ b = none

structure Inv (X : Cx) (pins : List (Addr × Obj)) (σ : List (Option V)) (H : Hp) (s : Shared) : Prop where
  ok : X.Ok
  os : s.os = X.s₀.os
  bare : AllBare s.gens
  base : Un X.fs X.ex X.H₀ H X.s₀.heap s.heap
  loc : ∃ m, s.heap.Ns X.env.locals m ∧ ∀ (i : Nat) (x : Str) (v : V), X.N[i]? = some x → σ[i]? = some (some v) → Vis X.env.scope x → ∃ u, RelV v u ∧ Look X.env s.heap m x u
  cell : ∀ x c, X.env.cells.lookup x = some c → ∃ v, s.heap.IsCell c v
  free : H X.env.locals = none
  freeC : ∀ x c, X.env.cells.lookup x = some c → H c = none
  pin : ∀ p ∈ X.pn ++ pins, s.heap.get? p.1 = some p.2 ∧ H p.1 = none ∧ p.1 ≠ X.env.locals ∧ p.1 ∉ X.fs ∧ ∀ v, p.2.data ≠ .cell v
  hok : HOk X.prog X.w H s.heap
  len : σ.length = X.N.length

section
variable {X : Cx} {pins : List (Addr × Obj)} {σ : List (Option V)} {H H' : Hp} {s : Shared} {h' : Heap}

theorem Cx.Ok.nofr (ok : X.Ok) {b : Addr} {o : Obj} (e : X.base.get? b = some o) : b ∉ X.fs := fun hb => by
  have := (ok.funs.mem hb).1
  rw [e] at this; cases this
theorem Inv.bs (I : Inv X pins σ H s) : ∀ b o, X.base.get? b = some o → s.heap.get? b = some o ∧ H b = none := fun b o e =>
  ⟨I.base.keep b o (I.ok.bs b o e).1 (I.ok.bs b o e).2 (I.ok.nofr e) (I.ok.noex b o e), I.base.free b o (I.ok.bs b o e).1 (I.ok.bs b o e).2 (I.ok.noex b o e)⟩
theorem Inv.bk (I : Inv X pins σ H s) : ∀ b o, X.base.get? b = some o → s.heap.get? b = some o := fun b o e => (I.bs b o e).1
theorem Inv.mod (I : Inv X pins σ H s) : Mod X.K X.mg X.base := I.ok.mod
theorem Inv.kIn (I : Inv X pins σ H s) : X.K.In s.heap := I.ok.mod.kin.keeps I.bk
theorem Inv.lt (I : Inv X pins σ H s) : X.env.locals < s.heap.objs.size := let ⟨_, hn, _⟩ := I.loc; hn.lt
theorem Inv.sz (I : Inv X pins σ H s) : X.s₀.heap.objs.size ≤ s.heap.objs.size := Nat.le_trans I.ok.above (Nat.le_of_lt I.lt)
theorem Inv.nofs (I : Inv X pins σ H s) {a : Addr} (h : s.heap.objs.size ≤ a) : a ∉ X.fs := fun hb => by
  obtain ⟨_, o, ho, _⟩ := I.ok.funs.mem hb
  exact absurd (Nat.lt_of_lt_of_le (Heap.lt_size ho) (Nat.le_trans I.sz h)) (Nat.lt_irrefl _)
theorem Inv.cne (I : Inv X pins σ H s) : ∀ x c, X.env.cells.lookup x = some c → c ≠ X.env.locals := fun x c e z => by
  obtain ⟨v, o, ho, hd⟩ := I.cell x c e
  obtain ⟨m, ⟨o', es, ep, ho', hd', _⟩, _⟩ := I.loc
  rw [z, ho'] at ho; cases ho; rw [hd'] at hd; cases hd
theorem Inv.funs (I : Inv X pins σ H s) : s.heap.FunFrames X.base X.outer := by
  have all : ∀ (l : List Env), (∀ b ∈ frs l, b ∈ X.fs) → X.s₀.heap.FunFrames X.base l → s.heap.FunFrames X.base l := by
    intro l
    induction l with
    | nil => intro _ _; trivial
    | cons env r ih =>
      intro hs hl
      obtain ⟨hk, ⟨L, o, hf, hn, ho, hd⟩, hr⟩ := hl
      have hL : L ∈ X.fs := hs L (by unfold frs; rw [List.filterMap_cons, hf]; exact List.mem_cons_self)
      obtain ⟨sl, e⟩ := I.base.slot L o ho (I.ok.frf L hL) hL fun z => I.ok.exfs L z hL
      exact ⟨hk, ⟨L, _, hf, hn, e, hd⟩, ih (fun b hb => hs b (by unfold frs; rw [List.filterMap_cons, hf]; exact List.mem_cons_of_mem _ hb)) hr⟩
  exact all X.outer (fun _ hb => hb) I.ok.funs

/-- the frames that run, for a call -/
theorem Inv.stack (I : Inv X pins σ H s) : s.heap.FunFrames X.base X.stack := by
  rcases I.ok.stk with e | ⟨e, hf⟩
  · rw [e]; exact I.funs
  · rw [e]
    obtain ⟨m, hn, _⟩ := I.loc
    refine .cons (by rw [I.ok.kind]; decide) hf hn ?_ I.funs
    exact Heap.get?_none_of_le (Nat.le_trans I.ok.bsz I.ok.above)
theorem Inv.stkSub (I : Inv X pins σ H s) : ∀ b ∈ frs X.stack, b ∈ X.env.locals :: X.fs := fun b hb => by
  rcases I.ok.stk with e | ⟨e, hf⟩
  · rw [e] at hb; exact List.mem_cons_of_mem _ hb
  · rw [e] at hb
    unfold frs at hb
    rw [List.filterMap_cons, hf] at hb
    exact hb
theorem Inv.stkFree (I : Inv X pins σ H s) : ∀ b ∈ frs X.stack, H b = none := fun b hb => by
  rcases List.mem_cons.mp (I.stkSub b hb) with e | hb
  · rw [e]; exact I.free
  · obtain ⟨_, o, ho, _⟩ := I.ok.funs.mem hb
    exact I.base.free b o ho (I.ok.frf b hb) fun z => I.ok.exfs b z hb

/-- THE STEP: the untracked objects but the frame and the records at ch are kept (the callers' frames up to slots), the frame's map is kept, the new abstract heap is held -/
theorem Inv.step {g' : Array GenState} {t' : Nat} {d' : Drawn} {ch : List Addr} (I : Inv X pins σ H s)
    (hch : ∀ b ∈ ch, (b ∈ X.ex ∨ X.s₀.heap.objs.size ≤ b) ∧ b ≠ X.env.locals ∧ (∀ x c, X.env.cells.lookup x = some c → c ≠ b) ∧ ∀ p ∈ X.pn ++ pins, p.1 ≠ b)
    (keep : ∀ b o, b ≠ X.env.locals → b ∉ X.fs → b ∉ ch → s.heap.get? b = some o → H b = none → h'.get? b = some o)
    (slot : ∀ b o, b ≠ X.env.locals → b ∈ X.fs → b ∉ ch → s.heap.get? b = some o → H b = none → ∃ sl, h'.get? b = some { o with slots := sl }) (free : ∀ b o, b ∉ ch → s.heap.get? b = some o → H b = none → H' b = none)
    (there : ∀ b o, b ∉ ch → s.heap.get? b = some o → ∃ o', h'.get? b = some o')
    (tups : ∀ b xs, H b = some (.tup xs) → H' b = some (.tup xs)) (frzs : ∀ b o u, H b = some (.frz o u) → H' b = some (.frz o u)) (tbls : ∀ b ps, H b = some (.tbl ps) → ∃ more, H' b = some (.tbl (ps ++ more)))
    (ns : ∀ m, s.heap.Ns X.env.locals m → h'.Ns X.env.locals m) (hok : HOk X.prog X.w H' h') (hg : AllBare g') :
    Inv X pins σ H' { s with heap := h', gens := g', drawn := d', toks := t' } := by
  have neL : ∀ b o, X.s₀.heap.get? b = some o → b ≠ X.env.locals := fun b o e => Nat.ne_of_lt (Nat.lt_of_lt_of_le (Heap.lt_size e) I.ok.above)
  have neC : ∀ b o, X.s₀.heap.get? b = some o → b ∉ X.ex → b ∉ ch := fun b o e hx hb => by
    rcases (hch b hb).1 with z | z
    · exact hx z
    · exact absurd (Nat.lt_of_lt_of_le (Heap.lt_size e) z) (Nat.lt_irrefl _)
  have cellK : ∀ x c, X.env.cells.lookup x = some c → ∀ v, s.heap.IsCell c v → h'.IsCell c v := fun x c e v ⟨o, ho, hd⟩ => by
    have nch : c ∉ ch := fun z => (hch c z).2.2.1 x c e rfl
    by_cases hc : c ∈ X.fs
    · obtain ⟨sl, q⟩ := slot c o (I.cne x c e) hc nch ho (I.freeC x c e)
      exact ⟨_, q, hd⟩
    · exact ⟨o, keep c o (I.cne x c e) hc nch ho (I.freeC x c e), hd⟩
  refine ⟨I.ok, I.os, hg, ⟨fun b o e n hb hx => ?_, fun b o e n hb hx => ?_, fun b o e n hx => ?_, fun b o e hx => ?_, fun b xs e => tups b xs (I.base.tups b xs e), fun b o xs e => frzs b o xs (I.base.frzs b o xs e), fun b ps e => ?_⟩, ?_, fun x c e => ?_, ?_, fun x c e => ?_, fun p hp => ?_, hok, I.len⟩
  · exact keep b o (neL b o e) hb (neC b o e hx) (I.base.keep b o e n hb hx) (I.base.free b o e n hx)
  · obtain ⟨sl, e1⟩ := I.base.slot b o e n hb hx
    obtain ⟨sl', e2⟩ := slot b _ (neL b o e) hb (neC b o e hx) e1 (I.base.free b o e n hx)
    exact ⟨sl', e2⟩
  · obtain ⟨o', e1⟩ := I.base.there b o e hx
    exact free b o' (neC b o e hx) e1 (I.base.free b o e n hx)
  · obtain ⟨o', e1⟩ := I.base.there b o e hx
    exact there b o' (neC b o e hx) e1
  · obtain ⟨m1, e1⟩ := I.base.tbls b ps e
    obtain ⟨m2, e2⟩ := tbls b _ e1
    exact ⟨m1 ++ m2, by rw [e2, Array.append_assoc]⟩
  · obtain ⟨m, hn, hl⟩ := I.loc
    refine ⟨m, ns m hn, fun i x v e1 e2 e3 => ?_⟩
    obtain ⟨u, r, l⟩ := hl i x v e1 e2 e3
    refine ⟨u, r, ?_⟩
    rcases l with l | ⟨k, c, e, z⟩
    · exact .inl l
    · exact .inr ⟨k, c, e, cellK x c e _ z⟩
  · obtain ⟨v, z⟩ := I.cell x c e
    exact ⟨v, cellK x c e v z⟩
  · obtain ⟨m, ⟨o, _, _, ho, _⟩, _⟩ := I.loc
    exact free _ o (fun z => (hch _ z).2.1 rfl) ho I.free
  · obtain ⟨v, o, ho, hd⟩ := I.cell x c e
    exact free c o (fun z => (hch c z).2.2.1 x c e rfl) ho (I.freeC x c e)
  · obtain ⟨e, n, ne, nf, d⟩ := I.pin p hp
    have nch : p.1 ∉ ch := fun z => (hch p.1 z).2.2.2 p hp rfl
    exact ⟨keep p.1 p.2 ne nf nch e n, free p.1 p.2 nch e n, ne, nf, d⟩
/-- .. where the frame's own object is kept too -/
theorem Inv.un {t' : Nat} (I : Inv X pins σ H s) (u : Un X.fs [] H H' s.heap h') (hok : HOk X.prog X.w H' h') : Inv X pins σ H' { s with heap := h', toks := t' } := by
  obtain ⟨m, ⟨o, es, ep, ho, r⟩, _⟩ := id I.loc
  obtain ⟨sl, hL⟩ := u.any ho I.free (by simp)
  exact I.step (g' := s.gens) (d' := s.drawn) (ch := []) (fun _ z => nomatch z) (fun b o _ hb _ e n => u.keep b o e n hb (by simp)) (fun b o _ hb _ e n => u.slot b o e n hb (by simp)) (fun b o _ e n => u.free b o e n (by simp)) (fun b o _ e => u.there b o e (by simp)) u.tups u.frzs u.tbls (fun m' hm => by
    obtain ⟨o', es', ep', ho', r'⟩ := hm
    rw [ho] at ho'; cases ho'
    exact ⟨_, es', ep', hL, r'⟩) hok I.bare
/-- behind a call (or a comprehension's block): the slots of this frame may have changed too, the records at ch may have turned -/
theorem Inv.call {g' : Array GenState} {t' : Nat} {d' : Drawn} {ch : List Addr} (I : Inv X pins σ H s) (u : Un (frs X.stack) ch H H' s.heap h') (hok : HOk X.prog X.w H' h') (hg : AllBare g')
    (hch : ∀ b ∈ ch, (b ∈ X.ex ∨ X.s₀.heap.objs.size ≤ b) ∧ b ≠ X.env.locals ∧ (∀ x c, X.env.cells.lookup x = some c → c ≠ b) ∧ ∀ p ∈ X.pn ++ pins, p.1 ≠ b) :
    Inv X pins σ H' { s with heap := h', gens := g', drawn := d', toks := t' } := by
  obtain ⟨m, ⟨o, es, ep, ho, r⟩, _⟩ := id I.loc
  obtain ⟨sl, hL⟩ := u.any ho I.free fun z => (hch _ z).2.1 rfl
  exact I.step (ch := ch) hch (fun b o hL hb hc e n => u.keep b o e n (fun z => (List.mem_cons.mp (I.stkSub b z)).elim hL hb) hc) (fun b o _ _ hc e n => u.any e n hc) (fun b o hc e n => u.free b o e n hc) (fun b o hc e => u.there b o e hc) u.tups u.frzs u.tbls (fun m' hm => by
    obtain ⟨o', es', ep', ho', r'⟩ := hm
    rw [ho] at ho'; cases ho'
    exact ⟨_, es', ep', hL, r'⟩) hok hg
/-- an untracked record of ours (an iterator) has turned -/
theorem Inv.turned {t' : Nat} {it : Addr} (I : Inv X pins σ H s) (k : ∀ b o, b ≠ it → s.heap.get? b = some o → h'.get? b = some o) (hn : H it = none) (hL : it ≠ X.env.locals)
    (h1 : it ∈ X.ex ∨ X.s₀.heap.objs.size ≤ it) (h2 : ∀ x c, X.env.cells.lookup x = some c → c ≠ it) (h3 : ∀ p ∈ X.pn ++ pins, p.1 ≠ it) : Inv X pins σ H { s with heap := h', toks := t' } := by
  have nit : ∀ b u, H b = some u → b ≠ it := fun b u e z => by rw [z, hn] at e; cases e
  refine I.step (g' := s.gens) (d' := s.drawn) (ch := [it]) (fun b hb => ?_) (fun b o _ _ hc e _ => k b o (fun z => hc (by simp [z])) e) (fun b o _ _ hc e _ => ⟨o.slots, k b o (fun z => hc (by simp [z])) e⟩) (fun _ _ _ _ n => n)
    (fun b o hc e => ⟨o, k b o (fun z => hc (by simp [z])) e⟩) (fun _ _ e => e) (fun _ _ _ e => e) (fun b ps e => ⟨#[], by rw [e]; simp⟩) (fun m hm => ?_) (fun b u e => ?_) I.bare
  · have e : b = it := by simpa using hb
    subst e
    exact ⟨h1, hL, h2, h3⟩
  · obtain ⟨o, es, ep, ho, r⟩ := hm
    exact ⟨o, es, ep, k _ o (Ne.symm hL) ho, r⟩
  · refine (I.hok b u e).stay (fun c v hc q => k c v ?_ q) (fun _ q => q) fun _ _ q => q
    rcases hc with z | z
    · rw [z]; exact nit b u e
    · exact nit c _ z
theorem Inv.tok (I : Inv X pins σ H s) (t : Nat) : Inv X pins σ H { s with toks := t } := I.un (h' := s.heap) (t' := t) Un.refl I.hok
/-- all objects kept -/
theorem Inv.kept {t' : Nat} (I : Inv X pins σ H s) (k : ∀ b u, s.heap.get? b = some u → h'.get? b = some u) : Inv X pins σ H { s with heap := h', toks := t' } := I.un (Un.kept k) (I.hok.kept k)
/-- a new object laid and tracked -/
theorem Inv.laid {a : Addr} {o : HO} {t' : Nat} (I : Inv X pins σ H s) (k : ∀ b u, s.heap.get? b = some u → h'.get? b = some u) (hp : s.heap.objs.size ≤ a) (new : ObjOk X.prog X.w (upd H a o) h' a o) :
    Inv X pins σ (upd H a o) { s with heap := h', toks := t' } := I.un (Un.laid k hp (I.hok.fresh hp)) (I.hok.laid k hp new)
/-- an object written -/
theorem Inv.write {x e : Addr} {o : HO} {t' : Nat} (I : Inv X pins σ H s) (mu : Mut (H x)) (he : e = x ∨ H e = some (.own x)) (k : ∀ b u, b ≠ e → s.heap.get? b = some u → h'.get? b = some u) (heo : ∃ u, h'.get? e = some u)
    (new : ObjOk X.prog X.w (upd H x o) h' x o) : Inv X pins σ (upd H x o) { s with heap := h', toks := t' } := I.un (Un.write mu he k heo) (I.hok.write mu he k heo new)
/-- forgetting slots, pins -/
theorem Inv.weak {σ' : List (Option V)} (I : Inv X pins σ H s) (hl : σ'.length = σ.length) (w : ∀ (i : Nat) v, σ'[i]? = some (some v) → σ[i]? = some (some v)) : Inv X pins σ' H s :=
  ⟨I.ok, I.os, I.bare, I.base, let ⟨m, hn, hl'⟩ := I.loc; ⟨m, hn, fun i x v e1 e2 e3 => hl' i x v e1 (w i v e2) e3⟩, I.cell, I.free, I.freeC, I.pin, I.hok, hl.trans I.len⟩
theorem Inv.pins_of {pins' : List (Addr × Obj)} (I : Inv X pins σ H s) (h : ∀ p ∈ pins', s.heap.get? p.1 = some p.2 ∧ H p.1 = none ∧ p.1 ≠ X.env.locals ∧ p.1 ∉ X.fs ∧ ∀ v, p.2.data ≠ .cell v) : Inv X pins' σ H s :=
  ⟨I.ok, I.os, I.bare, I.base, I.loc, I.cell, I.free, I.freeC, fun p hp => (List.mem_append.mp hp).elim (fun z => I.pin p (List.mem_append_left _ z)) (h p), I.hok, I.len⟩

theorem nodup_ix {N : List Str} (hN : N.Nodup) {i j : Nat} {x : Str} (a : N[i]? = some x) (b : N[j]? = some x) : i = j := by
  obtain ⟨h1, e1⟩ := List.getElem?_eq_some_iff.mp a
  obtain ⟨h2, e2⟩ := List.getElem?_eq_some_iff.mp b
  exact (List.getElem_inj hN).mp (e1.trans e2.symm)

/-- a name is stored; what changed -/
theorem store_ok2 {M : Model} {A : Around} {E : Value → Shared → Prop} {i : Nat} {x : Str} {v : V} {u : Value} {Q : Unit → Shared → Prop} (I : Inv X pins σ H s) (hN : X.N.Nodup) (hi : X.N[i]? = some x) (hx : Loc X.env.scope x) (r : RelV v u)
    (h : ∀ s', Inv X pins (σ.set i (some v)) H s' → (∃ a, Heap.SameBut a s.heap s'.heap ∧ (a = X.env.locals ∨ X.env.cells.lookup x = some a)) → Q () s') (hf : X.fn x = true ∨ X.env.scope.names.lookup x = some .local := by first | exact .inl rfl | exact .inr rfl | assumption) : wpAny M A (storeName X.env x u) Q E s := by
  obtain ⟨m, hn, hl⟩ := id I.loc
  have hcls : (X.env.scope.kind == .class || (X.env.scope.kind == .module && X.env.locals != X.env.globals)) = false := by rw [I.ok.kind]; rfl
  have hiσ : i < σ.length := by rw [I.len]; exact (List.getElem?_eq_some_iff.mp hi).1
  have cne := I.cne
  have tracked : ∀ {a : Addr} {h' : Heap}, (∃ o, s.heap.get? a = some o ∧ H a = none) → Heap.SameBut a s.heap h' → HOk X.prog X.w H h' := fun {a h'} ha hs b ob e => by
    obtain ⟨_, _, hfree⟩ := ha
    refine (I.hok b ob e).stay (fun c w' hc q => (hs.2 c ?_).trans q) (fun _ q => q) fun _ _ q => q
    rintro rfl
    rcases hc with rfl | hc
    · rw [hfree] at e; cases e
    · rw [hfree] at hc; cases hc
  rcases hx with hk | hk
  · refine wpAny_storeName_local hk hn (fun h' hn' hs => ?_) hcls
    obtain ⟨oL, _, _, hoL, _⟩ := id hn
    refine h _ ⟨I.ok, I.os, I.bare, ⟨fun b o e n hb hx => ?_, fun b o e n hb hx => ?_, I.base.free, fun b o e hx => ?_, I.base.tups, I.base.frzs, I.base.tbls⟩, ⟨_, hn', fun j y v' e1 e2 e3 => ?_⟩, fun y c e => ?_, I.free, I.freeC, fun p hp => ?_, tracked ⟨oL, hoL, I.free⟩ hs, by simpa using I.len⟩ ⟨_, hs, .inl rfl⟩
    · exact (hs.2 b (Nat.ne_of_lt (Nat.lt_of_lt_of_le (Heap.lt_size e) I.ok.above))).trans (I.base.keep b o e n hb hx)
    · obtain ⟨sl, e1⟩ := I.base.slot b o e n hb hx
      exact ⟨sl, (hs.2 b (Nat.ne_of_lt (Nat.lt_of_lt_of_le (Heap.lt_size e) I.ok.above))).trans e1⟩
    · obtain ⟨o', e1⟩ := I.base.there b o e hx
      exact ⟨o', (hs.2 b (Nat.ne_of_lt (Nat.lt_of_lt_of_le (Heap.lt_size e) I.ok.above))).trans e1⟩
    · by_cases hj : j = i
      · subst hj
        rw [hi] at e1; cases e1
        rw [List.getElem?_set_self hiσ] at e2
        cases e2
        exact ⟨u, r, .inl ⟨hk, by simp⟩⟩
      · rw [List.getElem?_set_ne (Ne.symm hj)] at e2
        obtain ⟨u', r', q⟩ := hl j y v' e1 e2 e3
        refine ⟨u', r', ?_⟩
        rcases q with ⟨k, e⟩ | ⟨k, c, e, z⟩
        · refine .inl ⟨k, ?_⟩
          have : y ≠ x := fun e => hj (nodup_ix hN e1 (e ▸ hi))
          simp [this, e]
        · exact .inr ⟨k, c, e, z.sameBut hs (cne y c e)⟩
    · obtain ⟨w', z⟩ := I.cell y c e
      exact ⟨w', z.sameBut hs (cne y c e)⟩
    · obtain ⟨e, n, ne, nf, d⟩ := I.pin p hp
      exact ⟨(hs.2 p.1 ne).trans e, n, ne, nf, d⟩
  · have hfn : X.fn x = true := by
      rcases hf with z | z
      · exact z
      · rw [z] at hk; cases hk
    obtain ⟨c, hc⟩ := I.ok.has x (.inl hk)
    obtain ⟨w', z⟩ := I.cell x c hc
    refine wpAny_storeName_cell I.ok.kind hk hc z (fun h' hc' hs => ?_)
    obtain ⟨oc, hoc, hocd⟩ := id z
    refine h { s with heap := h' } ⟨I.ok, I.os, I.bare, ⟨fun b o e n hb hx => ?_, fun b o e n hb hx => ?_, I.base.free, fun b o e hx => ?_, I.base.tups, I.base.frzs, I.base.tbls⟩, ⟨m, hn.sameBut hs (Ne.symm (cne x c hc)), fun j y v' e1 e2 e3 => ?_⟩, fun y c' e => ?_, I.free, I.freeC, fun p hp => ?_, tracked ⟨oc, hoc, I.freeC x c hc⟩ hs, by simpa using I.len⟩ ⟨c, hs, .inr hc⟩
    · exact (hs.2 b (Nat.ne_of_lt (Nat.lt_of_lt_of_le (Heap.lt_size e) (I.ok.cab x c hfn hc)))).trans (I.base.keep b o e n hb hx)
    · obtain ⟨sl, e1⟩ := I.base.slot b o e n hb hx
      exact ⟨sl, (hs.2 b (Nat.ne_of_lt (Nat.lt_of_lt_of_le (Heap.lt_size e) (I.ok.cab x c hfn hc)))).trans e1⟩
    · obtain ⟨o', e1⟩ := I.base.there b o e hx
      exact ⟨o', (hs.2 b (Nat.ne_of_lt (Nat.lt_of_lt_of_le (Heap.lt_size e) (I.ok.cab x c hfn hc)))).trans e1⟩
    · by_cases hj : j = i
      · subst hj
        rw [hi] at e1; cases e1
        rw [List.getElem?_set_self hiσ] at e2
        cases e2
        exact ⟨u, r, .inr ⟨.inl hk, c, hc, hc'⟩⟩
      · rw [List.getElem?_set_ne (Ne.symm hj)] at e2
        obtain ⟨u', r', q⟩ := hl j y v' e1 e2 e3
        refine ⟨u', r', ?_⟩
        rcases q with q | ⟨k, c', e, z'⟩
        · exact .inl q
        · refine .inr ⟨k, c', e, z'.sameBut hs ?_⟩
          rintro rfl
          exact hj (nodup_ix hN e1 (I.ok.inj _ _ _ e hc ▸ hi))
    · by_cases hcc : c' = c
      · subst hcc; exact ⟨_, hc'⟩
      · obtain ⟨w2, z2⟩ := I.cell y c' e
        exact ⟨w2, z2.sameBut hs hcc⟩
    · obtain ⟨e, n, ne, nf, d⟩ := I.pin p hp
      refine ⟨(hs.2 p.1 ?_).trans e, n, ne, nf, d⟩
      intro q
      rw [q, hoc] at e
      have q' : oc = p.2 := Option.some.inj e
      exact d w' (by rw [← q']; exact hocd)
theorem store_ok {M : Model} {A : Around} {E : Value → Shared → Prop} {i : Nat} {x : Str} {v : V} {u : Value} {Q : Unit → Shared → Prop} (I : Inv X pins σ H s) (hN : X.N.Nodup) (hi : X.N[i]? = some x) (hx : Loc X.env.scope x) (r : RelV v u)
    (h : ∀ s', Inv X pins (σ.set i (some v)) H s' → Q () s') (hf : X.fn x = true ∨ X.env.scope.names.lookup x = some .local := by first | exact .inl rfl | exact .inr rfl | assumption) : wpAny M A (storeName X.env x u) Q E s :=
  store_ok2 I hN hi hx r (fun s' I' _ => h s' I') hf
/-- behind a call or a block, the state as it is -/
theorem Inv.call' {s' : Shared} {ch : List Addr} (I : Inv X pins σ H s) (ho : s'.os = s.os) (u : Un (frs X.stack) ch H H' s.heap s'.heap) (hok : HOk X.prog X.w H' s'.heap) (hg : AllBare s'.gens)
    (hch : ∀ b ∈ ch, (b ∈ X.ex ∨ X.s₀.heap.objs.size ≤ b) ∧ b ≠ X.env.locals ∧ (∀ x c, X.env.cells.lookup x = some c → c ≠ b) ∧ ∀ p ∈ X.pn ++ pins, p.1 ≠ b) : Inv X pins σ H' s' := by
  obtain ⟨h', g', d', t', o'⟩ := s'
  have e : o' = s.os := ho
  subst e
  exact I.call (g' := g') (t' := t') (d' := d') u hok hg hch
end

/-! ### the judgements -/
/-- an exception: its class, its own dict's address (where it has one), the abstract heap behind it -/
abbrev XK := Value → Option Addr → Hp → Prop
abbrev St := List (Option V)
abbrev VK := V → Hp → Prop
/-- an expression's reading; a test's; an argument list's -/
abbrev TE := St → Hp → VK → Prop
abbrev TT := St → Hp → (Bool → Hp → Prop) → Prop
abbrev TA := St → Hp → (List V → Hp → Prop) → Prop
/-- what is wanted behind a statement -/
structure Ends where
  nx : St → Hp → Prop
  rt : VK
  bk : St → Hp → Prop := fun _ _ => False
  ct : St → Hp → Prop := fun _ _ => False
abbrev TS := Ends → St → Hp → Prop

def EP (X : Cx) (pins : List (Addr × Obj)) (σ : St) (Q : VK) (u : Value) (s' : Shared) : Prop := ∃ v H', Inv X pins σ H' s' ∧ RelV v u ∧ Q v H'
def TP (X : Cx) (pins : List (Addr × Obj)) (σ : St) (Q : Bool → Hp → Prop) (b : Bool) (s' : Shared) : Prop := ∃ H', Inv X pins σ H' s' ∧ Q b H'
def AP (X : Cx) (pins : List (Addr × Obj)) (σ : St) (Q : List V → Hp → Prop) (us : List Value) (s' : Shared) : Prop := ∃ vs H', Inv X pins σ H' s' ∧ Vals vs us ∧ Q vs H'
def SP (X : Cx) (pins : List (Addr × Obj)) (D : Ends) (f : Flow) (s' : Shared) : Prop :=
  match f with
  | .next => ∃ σ' H', Inv X pins σ' H' s' ∧ D.nx σ' H'
  | .brk => ∃ σ' H', Inv X pins σ' H' s' ∧ D.bk σ' H'
  | .cont => ∃ σ' H', Inv X pins σ' H' s' ∧ D.ct σ' H'
  | .ret u => ∃ v σ' H', Inv X pins σ' H' s' ∧ RelV v u ∧ D.rt v H'

def PE (X : Cx) (e : Expr) (t : TE) : Prop :=
  ∀ (pins : List (Addr × Obj)) (s : Shared) (σ : St) (H : Hp) (Q : VK), Inv X pins σ H s → t σ H Q → wpAny (model X.prog X.w) X.A (eval e X.env) (EP X pins σ Q) X.xe s
def PT (X : Cx) (e : Expr) (t : TT) : Prop :=
  ∀ (pins : List (Addr × Obj)) (s : Shared) (σ : St) (H : Hp) (Q : Bool → Hp → Prop), Inv X pins σ H s → t σ H Q → wpAny (model X.prog X.w) X.A (isTrue e X.env (eval e X.env)) (TP X pins σ Q) X.xe s
/-- a test whatever its 'whole' is (and, or) -/
def PW (X : Cx) (e : Expr) (t : TT) : Prop :=
  ∀ (whole : Sem Value) (pins : List (Addr × Obj)) (s : Shared) (σ : St) (H : Hp) (Q : Bool → Hp → Prop), Inv X pins σ H s → t σ H Q → wpAny (model X.prog X.w) X.A (isTrue e X.env whole) (TP X pins σ Q) X.xe s
theorem PW.pt {X : Cx} {e : Expr} {t : TT} (h : PW X e t) : PT X e t := h _
/-- an argument list (no star), from the left -/
def PA (X : Cx) (es : List Expr) (t : TA) : Prop :=
  ∀ (pos : Pos) (pins : List (Addr × Obj)) (s : Shared) (σ : St) (H : Hp) (Q : List V → Hp → Prop), Inv X pins σ H s → t σ H Q → wpAny (model X.prog X.w) X.A (spliced (backTo pos (starEach es X.env))) (AP X pins σ Q) X.xe s
def PS (X : Cx) (st : Stmt) (t : TS) : Prop :=
  ∀ (pins : List (Addr × Obj)) (s : Shared) (σ : St) (H : Hp) (D : Ends), Inv X pins σ H s → t D σ H → wpAny (model X.prog X.w) X.A (exec st X.env) (SP X pins D) X.xe s
def PSs (X : Cx) (st : List Stmt) (t : TS) : Prop :=
  ∀ (pins : List (Addr × Obj)) (s : Shared) (σ : St) (H : Hp) (D : Ends), Inv X pins σ H s → t D σ H → wpAny (model X.prog X.w) X.A (execs st X.env) (SP X pins D) X.xe s
/-- weaken the end -/
theorem thn {α : Type} {t : Sem α} {Q Q' : α → Shared → Prop} {M : Model} {A : Around} {E : Value → Shared → Prop} {s : Shared} (h : wpAny M A t Q E s) (hQ : ∀ a s, Q a s → Q' a s) : wpAny M A t Q' E s := wpAny_mono h hQ fun _ _ x => x
end L2

namespace L2
open PySem PySem.Spec PyProof.Rows
section
variable {X : Cx}

/-! ### names and constants -/
def tVar (i : Nat) : TE := fun σ H Q => ∃ v, σ[i]? = some (some v) ∧ Q v H
def tC (v : V) : TE := fun _ H Q => Q v H
theorem pe_var {i : Nat} {x : Str} {pos : Pos} (hN : X.N[i]? = some x) (hv : Vis X.env.scope x) (hd : (x == ("__debug__" : Str)) = false := by decide) (hcd : (x == ("__classdict__" : Str)) = false := by decide) : PE X (.Name x pos) (tVar i) := by
  intro pins s σ H Q I h
  obtain ⟨v, e, h⟩ := h
  obtain ⟨m, hn, hl⟩ := I.loc
  obtain ⟨u, r, l⟩ := hl i x v hN e hv
  have fin : EP X pins σ Q u s := ⟨v, H, I, r, h⟩
  rcases l with ⟨hk, hm⟩ | ⟨hk, c, hc, hcell⟩
  · exact wpAny_Name (wpAny_loadName_local I.ok.kind hk hn hm fin) hd
  · rcases hk with hk | hk
    · exact wpAny_Name (wpAny_loadName_cell I.ok.kind hk hc hcell fin) hd
    · exact wpAny_Name (wpAny_loadName_free I.ok.kind hk hc hcell fin hcd) hd
theorem pe_int {i j pos} : PE X (.Constant (.int i) j pos) (tC (.int i)) := fun _ _ _ H _ I h => wpAny_Constant_int ⟨.int i, H, I.tok _, ⟨_, rfl⟩, h⟩
theorem pe_bl {b j pos} : PE X (.Constant (.bool b) j pos) (tC (.bl b)) := fun _ _ _ H _ I h => Constant_bool ⟨.bl b, H, I, rfl, h⟩
theorem pe_non {j pos} : PE X (.Constant .none j pos) (tC .non) := fun _ _ _ H _ I h => Constant_none ⟨.non, H, I, rfl, h⟩
theorem pe_str {x j pos} : PE X (.Constant (.str x) j pos) (tC (.str x)) := fun _ _ _ H _ I h => Calls.Constant_str ⟨.str x, H, I.tok _, ⟨_, rfl⟩, h⟩

/-- a global name of the def -/
def Gl (X : Cx) (x : Str) : Prop := X.env.kindOf x = some .globalImplicit
theorem ld_glob {E : Value → Shared → Prop} {pins : List (Addr × Obj)} {s : Shared} {σ : St} {H : Hp} {x : Str} {u : Value} {pos : Pos} {Q : Value → Shared → Prop} (I : Inv X pins σ H s) (hg : Gl X x) (hm : X.mg x = some u) (h : Q u s)
    (hd : (x == ("__debug__" : Str)) = false := by decide) : wpAny (model X.prog X.w) X.A (eval (.Name x pos) X.env) Q E s :=
  Calls.Name_function_global I.ok.kind hg (Calls.loadGlobal_global (by rw [I.ok.glob]; exact I.mod.glob.keeps I.bk) hm h) hd
theorem ld_blt {E : Value → Shared → Prop} {pins : List (Addr × Obj)} {s : Shared} {σ : St} {H : Hp} {x : Str} {u : Value} {pos : Pos} {Q : Value → Shared → Prop} (I : Inv X pins σ H s) (hg : Gl X x) (hm : X.mg x = none) (hv : bootBuiltins x = some u) (h : Q u s)
    (hn : x ≠ "__name__" := by decide) (hd : (x == ("__debug__" : Str)) = false := by decide) : wpAny (model X.prog X.w) X.A (eval (.Name x pos) X.env) Q E s := by
  obtain ⟨mb, h1, h2⟩ := I.mod.blt
  exact Calls.Name_function_global I.ok.kind hg (Calls.loadGlobal_builtin (by rw [I.ok.glob]; exact I.mod.glob.keeps I.bk) hm (by rw [I.ok.blt]; exact h1.keeps I.bk) ((h2 x hn).trans hv) h) hd
/-- a module's constant, a class, a function, as a value -/
theorem pe_glob {x : Str} {v : V} {u : Value} {pos : Pos} (hg : Gl X x) (hm : X.mg x = some u) (r : RelV v u) (hd : (x == ("__debug__" : Str)) = false := by decide) : PE X (.Name x pos) (tC v) :=
  fun _ _ _ H _ I h => ld_glob I hg hm ⟨v, H, I, r, h⟩ hd
theorem pe_bltn {x : Str} {v : V} {u : Value} {pos : Pos} (hg : Gl X x) (hm : X.mg x = none) (hv : bootBuiltins x = some u) (r : RelV v u) (hn : x ≠ "__name__" := by decide) (hd : (x == ("__debug__" : Str)) = false := by decide) : PE X (.Name x pos) (tC v) :=
  fun _ _ _ H _ I h => ld_blt I hg hm hv ⟨v, H, I, r, h⟩ hn hd

/-! ### arithmetic -/
/-- two ints -/
def t2I (ta tb : TE) (k : Int → Int → Hp → Prop) : St → Hp → Prop := fun σ H => ta σ H fun x H1 => tb σ H1 fun y H2 => ∃ i j, x = .int i ∧ y = .int j ∧ k i j H2
def tAdd (ta tb : TE) : TE := fun σ H Q => t2I ta tb (fun i j H2 => Q (.int (i + j)) H2) σ H
def tSub (ta tb : TE) : TE := fun σ H Q => t2I ta tb (fun i j H2 => Q (.int (i - j)) H2) σ H
/-- the left factor below 2^64 -/
def tMul (ta tb : TE) : TE := fun σ H Q => t2I ta tb (fun i j H2 => (-(2 ^ 64) < i ∧ i < 2 ^ 64) ∧ Q (.int (i * j)) H2) σ H
variable {a b : Expr} {ta tb : TE} {pos : Pos}
/-! ### comparisons -/
def PC (X : Cx) (op : CmpOp) (a b : Expr) (t : TE) : Prop :=
  ∀ (pins : List (Addr × Obj)) (s : Shared) (σ : St) (H : Hp) (Q : VK), Inv X pins σ H s → t σ H Q →
    wpAny (model X.prog X.w) X.A (eval a X.env) (fun v s₁ => wpAny (model X.prog X.w) X.A (eval b X.env) (fun u s₂ => wpAny (model X.prog X.w) X.A (compareOp op v u) (EP X pins σ Q) X.xe s₂) X.xe s₁) X.xe s
def tCmp (p : Int → Int → Bool) (ta tb : TE) : TE := fun σ H Q => t2I ta tb (fun i j H2 => Q (.bl (p i j)) H2) σ H
abbrev tLt : TE → TE → TE := tCmp fun i j => decide (i < j)
abbrev tLe : TE → TE → TE := tCmp fun i j => decide (i ≤ j)
abbrev tGt : TE → TE → TE := tCmp fun i j => decide (j < i)
abbrev tGe : TE → TE → TE := tCmp fun i j => decide (j ≤ i)
abbrev tEqI : TE → TE → TE := tCmp fun i j => decide (i = j)
abbrev tNeI : TE → TE → TE := tCmp fun i j => !decide (i = j)
/-- is None -/
def tIsN (ta : TE) : TE := fun σ H Q => ta σ H fun x H1 => Q (.bl (decide (x = .non))) H1
def tNotN (ta : TE) : TE := fun σ H Q => ta σ H fun x H1 => Q (.bl (!decide (x = .non))) H1
/-- a comparison as a value, as a test -/
def tB (t : TE) : TT := fun σ H Q => t σ H fun x H1 => ∃ c, x = .bl c ∧ Q c H1
theorem pt_cmp {op : CmpOp} {t : TE} (h : PC X op a b t) (h1 : behindInMarks op b = false := by first | exact nobehind _ (by decide) (by decide) | rfl) : PT X (.Compare a [op] [b] pos) (tB t) := by
  intro pins s σ H Q I hw
  refine wpAny_isTrue_Compare1 (thn (h pins s σ H _ I hw) fun v s1 h1 => thn h1 fun u s2 h2 => thn h2 fun c s3 ⟨x, H1, I1, r1, q1⟩ => ?_) h1
  obtain ⟨d, rfl, q⟩ := q1
  cases r1
  exact wpAny_truthy_bool ⟨H1, I1, q⟩
/-- an expression whose value is a bool, as a test -/
theorem pt_val {e : Expr} {t : TE} (h : PE X e t) (he : ∀ whole, isTrue e X.env whole = (do let v ← whole; standAt e.pos; holding [v] (truthy v)) := by intro _; rfl) : PT X e (tB t) := by
  intro pins s σ H Q I hw
  refine isTrue_plain (thn (h pins s σ H _ I hw) fun v s1 ⟨x, H1, I1, r1, q1⟩ => ?_) (he _)
  obtain ⟨d, rfl, q⟩ := q1
  cases r1
  exact wpAny_truthy_bool ⟨H1, I1, q⟩

/-! ### and, or, not -/
variable {tA tB' : TT} {rest : List Expr}
def tAnd (t u : TT) : TT := fun σ H Q => t σ H fun c H1 => if c = true then u σ H1 Q else Q false H1
def tOr (t u : TT) : TT := fun σ H Q => t σ H fun c H1 => if c = true then Q true H1 else u σ H1 Q
def tNot (t : TT) : TT := fun σ H Q => t σ H fun c H1 => Q (!c) H1
theorem pw_and1 (ha : PT X a tA) : PW X (.BoolOp .And [a] pos) tA := by
  intro wh pins s σ H Q I h
  refine isTrue_and (thn (ha pins s σ H Q I h) fun c s1 e => ?_)
  cases c with
  | true => exact isTrue_and_nil e
  | false => exact e
theorem pw_or1 (ha : PT X a tA) : PW X (.BoolOp .Or [a] pos) tA := by
  intro wh pins s σ H Q I h
  refine isTrue_or (thn (ha pins s σ H Q I h) fun c s1 e => ?_)
  cases c with
  | false => exact isTrue_or_nil e
  | true => exact e
theorem pw_and (ha : PT X a tA) (hb : PW X (.BoolOp .And (b :: rest) pos) tB') : PW X (.BoolOp .And (a :: b :: rest) pos) (tAnd tA tB') := by
  intro wh pins s σ H Q I h
  refine isTrue_and (thn (ha pins s σ H _ I h) fun c s1 ⟨H1, I1, q1⟩ => ?_)
  cases c with
  | true => exact hb wh pins s1 σ H1 Q I1 q1
  | false => exact ⟨H1, I1, q1⟩
theorem pw_or (ha : PT X a tA) (hb : PW X (.BoolOp .Or (b :: rest) pos) tB') : PW X (.BoolOp .Or (a :: b :: rest) pos) (tOr tA tB') := by
  intro wh pins s σ H Q I h
  refine isTrue_or (thn (ha pins s σ H _ I h) fun c s1 ⟨H1, I1, q1⟩ => ?_)
  cases c with
  | true => exact ⟨H1, I1, q1⟩
  | false => exact hb wh pins s1 σ H1 Q I1 q1
theorem pt_not (ha : PT X a tA) : PT X (.UnaryOp .Not a pos) (tNot tA) := by
  intro pins s σ H Q I h
  exact isTrue_not (ha pins s σ H (fun c H1 => Q (!c) H1) I h)
/-- .. as values (bools) -/
def tAndV (ta tb : TE) : TE := fun σ H Q => ta σ H fun x H1 => ∃ c, x = .bl c ∧ if c = true then tb σ H1 Q else Q (.bl false) H1
def tOrV (ta tb : TE) : TE := fun σ H Q => ta σ H fun x H1 => ∃ c, x = .bl c ∧ if c = true then Q (.bl true) H1 else tb σ H1 Q
def tNotV (ta : TE) : TE := fun σ H Q => ta σ H fun x H1 => ∃ c, x = .bl c ∧ Q (.bl (!c)) H1
theorem pe_one {op} {t : TE} (h : PE X a t) : PE X (.BoolOp op [a] pos) t := fun pins s σ H Q I hw => BoolOp_one (h pins s σ H Q I hw)
theorem pe_and (ha : PE X a ta) (hb : PE X (.BoolOp .And (b :: rest) pos) tb) : PE X (.BoolOp .And (a :: b :: rest) pos) (tAndV ta tb) := by
  intro pins s σ H Q I h
  refine BoolOp_and (thn (ha pins s σ H _ I h) fun v s1 ⟨x, H1, I1, r1, q1⟩ => ?_)
  obtain ⟨c, rfl, q1⟩ := q1
  cases r1
  refine wpAny_truthy_bool ?_
  cases c with
  | true => exact hb pins s1 σ H1 Q I1 q1
  | false => exact ⟨.bl false, H1, I1, rfl, q1⟩
theorem pe_or (ha : PE X a ta) (hb : PE X (.BoolOp .Or (b :: rest) pos) tb) : PE X (.BoolOp .Or (a :: b :: rest) pos) (tOrV ta tb) := by
  intro pins s σ H Q I h
  refine BoolOp_or (thn (ha pins s σ H _ I h) fun v s1 ⟨x, H1, I1, r1, q1⟩ => ?_)
  obtain ⟨c, rfl, q1⟩ := q1
  cases r1
  refine wpAny_truthy_bool ?_
  cases c with
  | false => exact hb pins s1 σ H1 Q I1 q1
  | true => exact ⟨.bl true, H1, I1, rfl, q1⟩
theorem pe_not (ha : PE X a ta) : PE X (.UnaryOp .Not a pos) (tNotV ta) := by
  intro pins s σ H Q I h
  refine UnaryOp_ (thn (ha pins s σ H _ I h) fun v s1 ⟨x, H1, I1, r1, q1⟩ => ?_)
  obtain ⟨c, rfl, q1⟩ := q1
  cases r1
  exact not_of (wpAny_truthy_bool ⟨.bl (!c), H1, I1, rfl, q1⟩)
/-- a if t else b -/
def tIf (t : TT) (ta tb : TE) : TE := fun σ H Q => t σ H fun c H1 => if c = true then ta σ H1 Q else tb σ H1 Q
theorem pe_ifExp {c : Expr} (hc : PT X c tA) (ha : PE X a ta) (hb : PE X b tb) : PE X (.IfExp c a b pos) (tIf tA ta tb) := by
  intro pins s σ H Q I h
  refine wpAny_IfExp (thn (hc pins s σ H _ I h) fun d s1 ⟨H1, I1, q1⟩ => ?_)
  cases d with
  | true => exact ha pins s1 σ H1 Q I1 q1
  | false => exact hb pins s1 σ H1 Q I1 q1
end
end L2

namespace L2
open PySem PySem.Spec PyProof.Rows

/-! ### a list, a tuple that is read: tracked, frozen, or an object of the module -/
def SqL (K : PySem.W.Frag) (H : Hp) (a : Addr) (xs : List V) : Prop :=
  Rd H a (.lst xs) ∨
    ∃ (o : Obj) (its : Array Value) (n : Nat), K.lookup a = some o ∧ o.cls = .type "list" ∧ o.dict = none ∧ o.data = .seq its n ∧ its.size ≤ sizeLine ∧ Vals xs its.toList
def SqT (K : PySem.W.Frag) (H : Hp) (a : Addr) (xs : List V) : Prop :=
  Rd H a (.tup xs) ∨
    ∃ (o : Obj) (its : Array Value) (n : Nat), K.lookup a = some o ∧ o.cls = .type "tuple" ∧ o.data = .seq its n ∧ its.size ≤ sizeLine ∧ Vals xs its.toList
def absV : Value → Option V
  | .none => some .non
  | .bool b => some (.bl b)
  | .int i _ => some (.int i)
  | .str x _ => some (.str x)
  | .bytes b _ => some (.byt b)
  | .float b _ => some (.flt b)
  | .ref a => some (.ref a)
  | .type n => some (.ty n)
  | _ => none
theorem RelV.abs {x : V} {u : Value} (r : RelV x u) : absV u = some x := by
  cases x with
  | non => cases r; rfl
  | bl _ => cases r; rfl
  | int _ => obtain ⟨t, rfl⟩ := r; rfl
  | str _ => obtain ⟨t, rfl⟩ := r; rfl
  | byt _ => obtain ⟨t, rfl⟩ := r; rfl
  | flt _ => obtain ⟨t, rfl⟩ := r; rfl
  | ref _ => cases r; rfl
  | ty _ => cases r; rfl
theorem RelV.inj {x y : V} {u : Value} (r : RelV x u) (q : RelV y u) : x = y := Option.some.inj (r.abs.symm.trans q.abs)
theorem Vals.inj : ∀ {xs ys : List V} {us : List Value}, Vals xs us → Vals ys us → xs = ys
  | _, _, _, .nil, .nil => rfl
  | _, _, _, .cons r t, .cons r' t' => by rw [r.inj r', Vals.inj t t']
section
variable {X : Cx} {pins : List (Addr × Obj)} {σ : St} {H : Hp} {s : Shared} {a : Addr} {xs ys : List V}
theorem SqL.of {K : PySem.W.Frag} (h : H a = some (.lst xs)) : SqL K H a xs := .inl (.inl h)
theorem SqT.of {K : PySem.W.Frag} (h : H a = some (.tup xs)) : SqT K H a xs := .inl (.inl h)
theorem Inv.list (I : Inv X pins σ H s) (h : SqL X.K H a xs) : ∃ its : List Value, Vals xs its ∧ PlainL s.heap a its.toArray ∧ xs.length ≤ sizeLine := by
  rcases h with h | ⟨o, its, n, hk, hc, hd, hs, hz, r⟩
  · obtain ⟨z, its, n, r, e⟩ := h.ok I.hok
    exact ⟨its, r, ⟨_, n, e, rfl, rfl, rfl⟩, z⟩
  · refine ⟨its.toList, r, ⟨o, n, I.kIn a o hk, hc, hd, by simpa using hs⟩, ?_⟩
    have e := r.length
    simp only [Array.length_toList] at e
    omega
theorem Inv.tuple (I : Inv X pins σ H s) (h : SqT X.K H a xs) : ∃ its : List Value, Vals xs its ∧ IsTup s.heap a its.toArray ∧ xs.length ≤ sizeLine := by
  rcases h with h | ⟨o, its, n, hk, hc, hs, hz, r⟩
  · obtain ⟨z, its, r, p⟩ := h.ok I.hok
    exact ⟨its, r, p, z⟩
  · refine ⟨its.toList, r, ⟨o, I.kIn a o hk, hc, n, by simpa using hs⟩, ?_⟩
    have e := r.length
    simp only [Array.length_toList] at e
    omega
theorem Inv.list_inj (I : Inv X pins σ H s) (h : SqL X.K H a xs) (h' : SqL X.K H a ys) : xs = ys := by
  obtain ⟨its, r, ⟨o, n, e, _, _, d⟩, _⟩ := I.list h
  obtain ⟨its', r', ⟨o', n', e', _, _, d'⟩, _⟩ := I.list h'
  rw [e] at e'; cases e'
  rw [d] at d'
  injection d' with d1 _
  have : its = its' := by simpa using congrArg Array.toList d1
  subst this
  exact r.inj r'
end

/-! ### another wish about exceptions -/
abbrev Cx.wish (X : Cx) (E : Value → Shared → Prop) : Cx := { X with xe := E }
/-- no exception leaves -/
abbrev Cx.nox (X : Cx) : Cx := X.wish fun _ _ => False
theorem Cx.Ok.wish {X : Cx} (ok : X.Ok) (E : Value → Shared → Prop) : (X.wish E).Ok :=
  ⟨ok.mod, ok.kind, ok.glob, ok.blt, ok.above, ok.inj, ok.has, ok.cab, ok.hd, ok.frames, ok.stk, ok.exf, ok.bs, ok.bsz, ok.noex, ok.exfs, ok.funs, ok.frf⟩
theorem Cx.Ok.unwish {X : Cx} {E : Value → Shared → Prop} (ok : (X.wish E).Ok) : X.Ok :=
  ⟨ok.mod, ok.kind, ok.glob, ok.blt, ok.above, ok.inj, ok.has, ok.cab, ok.hd, ok.frames, ok.stk, ok.exf, ok.bs, ok.bsz, ok.noex, ok.exfs, ok.funs, ok.frf⟩
section
variable {X : Cx} {pins : List (Addr × Obj)} {σ : St} {H : Hp} {s : Shared} {E : Value → Shared → Prop}
theorem Inv.wish (I : Inv X pins σ H s) (E : Value → Shared → Prop) : Inv (X.wish E) pins σ H s := ⟨I.ok.wish E, I.os, I.bare, I.base, I.loc, I.cell, I.free, I.freeC, I.pin, I.hok, I.len⟩
theorem Inv.unwish (I : Inv (X.wish E) pins σ H s) : Inv X pins σ H s := ⟨I.ok.unwish, I.os, I.bare, I.base, I.loc, I.cell, I.free, I.freeC, I.pin, I.hok, I.len⟩
theorem SP.unwish {D : Ends} {f : Flow} {s' : Shared} (h : SP (X.wish E) pins D f s') : SP X pins D f s' := by
  cases f with
  | next => obtain ⟨σ', H', I, q⟩ := h; exact ⟨σ', H', I.unwish, q⟩
  | brk => obtain ⟨σ', H', I, q⟩ := h; exact ⟨σ', H', I.unwish, q⟩
  | cont => obtain ⟨σ', H', I, q⟩ := h; exact ⟨σ', H', I.unwish, q⟩
  | ret u => obtain ⟨v, σ', H', I, r, q⟩ := h; exact ⟨v, σ', H', I.unwish, r, q⟩
theorem PSs.nox {st : List Stmt} {t : TS} (h : PSs X.nox st t) : PSs X st t := fun pins s σ H D I hw =>
  wpAny_mono (h pins s σ H D (I.wish _) hw) (fun _ _ q => q.unwish) fun _ _ z => False.elim z
end

/-! ### blocks and small statements -/
section
variable {X : Cx} {st : Stmt} {rest : List Stmt} {t u : TS} {e : Expr} {te : TE} {pos : Pos}
def tNext : TS := fun D σ H => D.nx σ H
def tSeq (t u : TS) : TS := fun D σ H => t { D with nx := u D } σ H
theorem pss_nil : PSs X [] tNext := fun _ _ σ H _ I h => wpAny_execs_nil ⟨σ, H, I, h⟩
theorem pss_cons (h1 : PS X st t) (h2 : PSs X rest u) : PSs X (st :: rest) (tSeq t u) := by
  intro pins s σ H D I h
  refine wpAny_execs_cons (thn (h1 pins s σ H { D with nx := u D } I h) fun f s1 q => ?_)
  cases f with
  | next =>
    obtain ⟨σ', H', I', q⟩ := q
    exact h2 pins s1 σ' H' D I' q
  | ret v => exact q
  | brk => exact q
  | cont => exact q
theorem pss_one (h1 : PS X st t) : PSs X [st] t := by
  intro pins s σ H D I h
  refine wpAny_execs_cons (thn (h1 pins s σ H D I h) fun f s1 q => ?_)
  cases f with
  | next => exact wpAny_execs_nil q
  | ret v => exact q
  | brk => exact q
  | cont => exact q
def tBreak : TS := fun D σ H => D.bk σ H
def tCont : TS := fun D σ H => D.ct σ H
/-- in a def's body nothing is shown -/
theorem Inv.quiet {pins : List (Addr × Obj)} {σ : St} {H : Hp} {s : Shared} (I : Inv X pins σ H s) : interactive X.env = false := by simp [interactive, I.ok.kind]
/-- an expression whose value is dropped -/
def tDrop (te : TE) : TS := fun D σ H => te σ H fun _ H1 => D.nx σ H1
theorem ps_expr (he : PE X e te) (hs : swapsWith e none pos.line X.env = pure false := by rfl) : PS X (.Expr e pos) (tDrop te) := by
  intro pins s σ H D I h
  exact wpAny_Expr_any (thn (he pins s σ H _ I h) fun v s1 ⟨x, H1, I1, r1, q1⟩ => ⟨σ, H1, I1, q1⟩) I.quiet hs
def tRet (te : TE) : TS := fun D σ H => te σ H D.rt
theorem ps_ret (he : PE X e te) : PS X (.Return (some e) pos) (tRet te) := by
  intro pins s σ H D I h
  exact wpAny_Return_some (thn (he pins s σ H _ I h) fun v s1 ⟨x, H1, I1, r1, q1⟩ => ⟨x, σ, H1, I1, r1, q1⟩)
def tRetN : TS := fun D _ H => D.rt .non H
def tIfS (c : TT) (t u : TS) : TS := fun D σ H => c σ H fun b H1 => if b = true then t D σ H1 else u D σ H1
theorem ps_if {c : Expr} {a b : List Stmt} {tc : TT} (hc : PT X c tc) (ha : PSs X a t) (hb : PSs X b u) : PS X (.If c a b pos) (tIfS tc t u) := by
  intro pins s σ H D I h
  refine wpAny_If (thn (hc pins s σ H _ I h) fun d s1 ⟨H1, I1, q1⟩ => ?_)
  cases d with
  | true => exact ha pins s1 σ H1 D I1 q1
  | false => exact hb pins s1 σ H1 D I1 q1
/-- code that the proof never comes to -/
def tNever : TS := fun _ _ _ => False
theorem ps_never : PS X st tNever := fun _ _ _ _ _ _ h => h.elim
theorem pss_never {sts : List Stmt} : PSs X sts tNever := fun _ _ _ _ _ _ h => h.elim
end

/-! ### targets -/
abbrev TG := V → St → Hp → (St → Hp → Prop) → Prop
abbrev TGs := List V → St → Hp → (St → Hp → Prop) → Prop
def PG (X : Cx) (target : Expr) (t : TG) : Prop :=
  ∀ (pins : List (Addr × Obj)) (s : Shared) (σ : St) (H : Hp) (v : V) (u : Value) (Q : St → Hp → Prop), Inv X pins σ H s → RelV v u → t v σ H Q →
    wpAny (model X.prog X.w) X.A (assign target X.env u) (fun _ s' => ∃ σ' H', Inv X pins σ' H' s' ∧ Q σ' H') X.xe s
/-- several targets, one after another -/
def PGs (X : Cx) (ts : List Expr) (t : TGs) : Prop :=
  ∀ (pins : List (Addr × Obj)) (s : Shared) (σ : St) (H : Hp) (vs : List V) (us : List Value) (Q : St → Hp → Prop), Inv X pins σ H s → Vals vs us → t vs σ H Q →
    wpAny (model X.prog X.w) X.A (assignInOrder ((assignEach ts X.env).map (·.2)) us) (fun _ s' => ∃ σ' H', Inv X pins σ' H' s' ∧ Q σ' H') X.xe s
/-- o[i] = v, by values -/
abbrev TSet := V → V → V → Hp → (Hp → Prop) → Prop
def PSet (X : Cx) (t : TSet) : Prop :=
  ∀ (pins : List (Addr × Obj)) (s : Shared) (σ : St) (H : Hp) (o i v : V) (ov iv u : Value) (Q : Hp → Prop), Inv X pins σ H s → RelV o ov → RelV i iv → RelV v u → t o i v H Q →
    wpAny (model X.prog X.w) X.A (setItem ov iv u) (fun _ s' => ∃ H', Inv X pins σ H' s' ∧ Q H') X.xe s
/-- a op= b, by values -/
abbrev TIp := V → V → Hp → VK → Prop
def PIp (X : Cx) (op : Operator) (t : TIp) : Prop :=
  ∀ (pins : List (Addr × Obj)) (s : Shared) (σ : St) (H : Hp) (x y : V) (v u : Value) (Q : VK), Inv X pins σ H s → RelV x v → RelV y u → t x y H Q →
    wpAny (model X.prog X.w) X.A (inplaceOp op v u) (EP X pins σ Q) X.xe s
section
variable {X : Cx} {pos : Pos}
def gName (i : Nat) : TG := fun v σ H Q => Q (σ.set i (some v)) H
theorem pg_name {i : Nat} {x : Str} (hN : X.N.Nodup) (hi : X.N[i]? = some x) (hx : Loc X.env.scope x) (hf : X.fn x = true ∨ X.env.scope.names.lookup x = some .local := by first | exact .inl rfl | exact .inr rfl | assumption) : PG X (.Name x pos) (gName i) := by
  intro pins s σ H v u Q I r h
  exact wpAny_assign_Name (store_ok I hN hi hx r (fun s' I' => ⟨_, H, I', h⟩) hf)
def gNil : TGs := fun vs σ H Q => vs = [] ∧ Q σ H
def gCons (t : TG) (u : TGs) : TGs := fun vs σ H Q => ∃ v r, vs = v :: r ∧ t v σ H fun σ' H' => u r σ' H' Q
theorem pgs_nil : PGs X [] gNil := by
  intro pins s σ H vs us Q I r h
  obtain ⟨e, h⟩ := h
  subst e
  cases r
  exact assignInOrder_nil ⟨σ, H, I, h⟩
theorem pgs_cons {e : Expr} {es : List Expr} {t : TG} {u : TGs} (h1 : PG X e t) (h2 : PGs X es u)
    (hs : (assignEach (e :: es) X.env).map (·.2) = assign e X.env :: (assignEach es X.env).map (·.2) := by rfl) : PGs X (e :: es) (gCons t u) := by
  intro pins s σ H vs us Q I r h
  obtain ⟨v, vr, e1, h⟩ := h
  subst e1
  cases r with
  | cons r rr =>
    rw [hs]
    refine assignInOrder_cons (thn (h1 pins s σ H _ _ _ I r h) fun _ s1 ⟨σ1, H1, I1, q1⟩ => ?_)
    exact h2 pins s1 σ1 H1 _ _ Q I1 rr q1
/-- (a, b, ..) = a tuple of that length -/
def gTup (K : PySem.W.Frag) (n : Nat) (t : TGs) : TG := fun v σ H Q => ∃ a xs, v = .ref a ∧ SqT K H a xs ∧ xs.length = n ∧ t xs σ H Q
theorem pg_tup {es : List Expr} {k : Nat} {t : TGs} {n : Nat} (hc : X.calm = true) (h : PGs X es t)
    (hn : (assignEach es X.env).length = n := by rfl) (hst : (assignEach es X.env).findIdx? (·.1) = none := by rfl) : PG X (.Tuple es k pos) (gTup X.K n t) := by
  intro pins s σ H v u Q I r hw
  obtain ⟨a, xs, e1, hq, hl, hw⟩ := hw
  subst e1
  cases r
  obtain ⟨its, rv, ht, hz⟩ := I.tuple hq
  refine assign_Tuple_tuple (I.ok.hd hc) ht (by simp [hn, ← hl, rv.length]) hst fun h' hx => ?_
  have I1 : Inv X pins σ H { s with heap := h' } := I.kept (t' := s.toks) fun b o e => hx b o (Nat.ne_of_lt (Heap.lt_size e)) e
  exact h pins _ σ H xs _ Q I1 (by simpa using rv) hw
/-- o[i] = .. -/
def gSub (to ti : TE) (t : TSet) : TG := fun v σ H Q => to σ H fun o H1 => ti σ H1 fun i H2 => t o i v H2 fun H3 => Q σ H3
theorem pg_sub {o i : Expr} {to ti : TE} {t : TSet} (ho : PE X o to) (hi : PE X i ti) (hs : PSet X t)
    (ha : ∀ v, assign (.Subscript o i pos) X.env v = (do
      let ov ← holding [v] (eval o X.env)
      let iv ← holding [v, ov] (eval i X.env)
      standAt pos
      holding [v, ov, iv] (setItem ov iv v)
      release [v, ov, iv] []) := by intro _; rfl) : PG X (.Subscript o i pos) (gSub to ti t) := by
  intro pins s σ H v u Q I r h
  rw [ha]
  refine wpAny_bind (wpAny_holding (thn (ho pins s σ H _ I h) fun ov s1 ⟨x, H1, I1, r1, q1⟩ => ?_))
  refine wpAny_bind (wpAny_holding (thn (hi pins s1 σ H1 _ I1 q1) fun iv s2 ⟨y, H2, I2, r2, q2⟩ => ?_))
  refine wpAny_bind (wpAny_standAt (wpAny_bind (wpAny_holding (thn (hs pins s2 σ H2 x y v ov iv u _ I2 r1 r2 r q2) fun _ s3 ⟨H3, I3, q3⟩ => ?_))))
  exact wpAny_release ⟨σ, H3, I3, q3⟩
/-- target = value -/
def tAsg (te : TE) (g : TG) : TS := fun D σ H => te σ H fun x H1 => g x σ H1 D.nx
theorem ps_asg {tg e : Expr} {te : TE} {g : TG} (he : PE X e te) (hg : PG X tg g) (hs : swapsWithSole [tg] e pos.line X.env = pure false := by rfl) (hw : swappedStores [tg] e X.env = pure none := by rfl)
    (h1 : (assignEach [tg] X.env).map (·.2) = [assign tg X.env] := by rfl) : PS X (.Assign [tg] e pos) (tAsg te g) := by
  intro pins s σ H D I h
  refine wpAny_Assign_stores (thn (he pins s σ H _ I h) fun v s1 ⟨x, H1, I1, r1, q1⟩ => ?_) hs hw
  rw [h1]
  exact thn (hg pins s1 σ H1 x v _ I1 r1 q1) fun _ s2 q => q
/-- name = value -/
theorem ps_set {i : Nat} {x : Str} {e : Expr} {te : TE} {pos' : Pos} (hN : X.N.Nodup) (hi : X.N[i]? = some x) (hx : Loc X.env.scope x) (he : PE X e te) (hs : swapsWith e (some (.Name x pos')) pos.line X.env = pure false := by rfl) (hf : X.fn x = true ∨ X.env.scope.names.lookup x = some .local := by first | exact .inl rfl | exact .inr rfl | assumption) :
    PS X (.Assign [.Name x pos'] e pos) (tAsg te (gName i)) := by
  intro pins s σ H D I h
  refine wpAny_Assign_Name (thn (he pins s σ H _ I h) fun v s1 ⟨y, H1, I1, r1, q1⟩ => ?_) hs
  exact store_ok I1 hN hi hx r1 (fun s2 I2 => ⟨_, H1, I2, q1⟩) hf
/-- a, b = x, y with plain local names: stored from the right; the pair itself is not tracked (the opening rows as in PyProof/Rows/TupAssign.lean:23) -/
def tPar (i j : Nat) (ta : TA) : TS := fun D σ H => ta σ H fun vs H1 => ∃ v w, vs = [v, w] ∧ D.nx ((σ.set i (some v)).set j (some w)) H1
/-- name op= e -/
def tAug (i : Nat) (te : TE) (ti : TIp) : TS := fun D σ H => ∃ x, σ[i]? = some (some x) ∧ te σ H fun y H1 => ti x y H1 fun z H2 => D.nx (σ.set i (some z)) H2
/-- o[i] op= e -/
def tAugS (to ti te : TE) (tget : V → V → Hp → VK → Prop) (tip : TIp) (tset : TSet) : TS := fun D σ H => to σ H fun o H1 => ti σ H1 fun i H2 => tget o i H2 fun x H3 => te σ H3 fun y H4 => tip x y H4 fun z H5 => tset o i z H5 fun H6 => D.nx σ H6
/-- o[i], by values -/
def PGet (X : Cx) (t : V → V → Hp → VK → Prop) : Prop :=
  ∀ (pins : List (Addr × Obj)) (s : Shared) (σ : St) (H : Hp) (o i : V) (ov iv : Value) (Q : VK), Inv X pins σ H s → RelV o ov → RelV i iv → t o i H Q →
    wpAny (model X.prog X.w) X.A (getItem ov iv) (EP X pins σ Q) X.xe s
/-- ints -/
def ipI (f : Int → Int → Int) : TIp := fun x y H Q => ∃ i j, x = .int i ∧ y = .int j ∧ Q (.int (f i j)) H
end

/-! ### while -/
section
variable {X : Cx} {pos : Pos}
/-- the invariant W with its measure -/
def tWhile (c : TT) (tb : TS) : TS := fun D σ H => ∃ W : Nat → St → Hp → Prop, (∃ m, W m σ H) ∧ ∀ m σ H, W m σ H →
  c σ H fun b H1 => if b = true then ∃ N : St → Hp → Prop, (∀ σ' H', N σ' H' → ∃ m', m' < m ∧ W m' σ' H') ∧ tb { D with nx := N, ct := N, bk := D.nx } σ H1 else D.nx σ H1
theorem ps_while {c : Expr} {body : List Stmt} {tc : TT} {tb : TS} (hp : PassesOwn (model X.prog X.w) X.A X.env X.xe) (hc : PT X c tc) (hb : PSs X body tb) : PS X (.While c body [] pos) (tWhile tc tb) := by
  intro pins s σ H D I h
  obtain ⟨W, ⟨m0, w0⟩, turn⟩ := h
  refine wpAny_While (codeAny_whileLoop (fun n s' => ∃ σ' H', Inv X pins σ' H' s' ∧ W n σ' H') ?_ m0 ⟨σ, H, I, w0⟩)
  rintro n s1 ⟨σ1, H1, I1, w1⟩
  refine wpAny_passesOwn hp (thn (hc pins s1 σ1 H1 _ I1 (turn n σ1 H1 w1)) fun b s2 ⟨H2, I2, q2⟩ => ?_)
  cases b with
  | true =>
    obtain ⟨N, hN, q2⟩ := q2
    rw [if_pos rfl]
    refine wpAny_passesOwn hp (thn (hb pins s2 σ1 H2 _ I2 q2) fun f s3 q3 => ?_)
    cases f with
    | next =>
      obtain ⟨σ3, H3, I3, n3⟩ := q3
      obtain ⟨m', hm, w3⟩ := hN σ3 H3 n3
      exact ⟨m', hm, σ3, H3, I3, w3⟩
    | cont =>
      obtain ⟨σ3, H3, I3, n3⟩ := q3
      obtain ⟨m', hm, w3⟩ := hN σ3 H3 n3
      exact ⟨m', hm, σ3, H3, I3, w3⟩
    | brk => exact q3
    | ret v => exact q3
  | false =>
    rw [if_neg Bool.false_ne_true]
    exact wpAny_execs_nil ⟨σ1, H2, I2, q2⟩
end

/-! ### what a loop or a comprehension walks -/
/-- at turn i: it yields x (the heap may grow), or it stops -/
structure It where
  go : Nat → Hp → Prop
  yld : Nat → Hp → V → Hp → Prop
  stop : Nat → Hp → Prop
/-- the iterator's own objects may turn: they are not the frame's, not pinned, younger than the entry (or a comprehension's own) -/
def FpOk (X : Cx) (pins : List (Addr × Obj)) (H : Hp) (b : Addr) : Prop :=
  H b = none ∧ b ≠ X.env.locals ∧ b ∉ X.fs ∧ (b ∈ X.ex ∨ X.s₀.heap.objs.size ≤ b) ∧ (∀ x c, X.env.cells.lookup x = some c → c ≠ b) ∧ ∀ p ∈ X.pn ++ pins, p.1 ≠ b
theorem Inv.fpOk {X : Cx} {pins : List (Addr × Obj)} {σ : St} {H H' : Hp} {s : Shared} {b : Addr} (I : Inv X pins σ H s) (hb : s.heap.objs.size ≤ b) (hn : H' b = none) : FpOk X pins H' b := by
  refine ⟨hn, Nat.ne_of_gt (Nat.lt_of_lt_of_le I.lt hb), I.nofs hb, .inr (Nat.le_trans I.sz hb), fun x c e z => ?_, fun p hp z => ?_⟩
  · obtain ⟨v, q⟩ := I.cell x c e
    exact absurd (Nat.lt_of_lt_of_le q.lt (by rw [z]; exact hb)) (Nat.lt_irrefl _)
  · exact absurd (Nat.lt_of_lt_of_le (Heap.lt_size (I.pin p hp).1) (by rw [z]; exact hb)) (Nat.lt_irrefl _)
structure Turn (P : Program) (w : World) (K : PySem.W.Frag) (tg : Expr) (J : It) (fp : List Addr) (it : Addr) (tn : Nat → Heap → Prop) : Prop where
  mem : it ∈ fp
  obj : ∀ i h, tn i h → ∀ b ∈ fp, ∃ o, h.get? b = some o ∧ ∀ v, o.data ≠ .cell v
  keep : ∀ i h h', tn i h → (∀ b ∈ fp, ∀ o, h.get? b = some o → h'.get? b = some o) → tn i h'
  item : ∀ (X : Cx), X.prog = P → X.w = w → X.K = K → X.calm = true → ∀ (i : Nat) (pins : List (Addr × Obj)) (s : Shared) (σ : St) (H : Hp) (E : Value → Shared → Prop), Inv X pins σ H s → (∀ b ∈ fp, FpOk X pins H b) → tn i s.heap → J.go i H →
    wpAny (model P w) X.A (pyNext (.ref it)) (fun r s1 => ∃ u, r = some u ∧
      wpAny (model P w) X.A (letOwnedTupleGo tg (.ref it) u) (fun _ s2 => ∃ x H', Inv X pins σ H' s2 ∧ RelV x u ∧ J.yld i H x H' ∧ tn (i + 1) s2.heap ∧ ∀ b ∈ fp, H' b = none) E s1) E s
  done : ∀ (X : Cx), X.prog = P → X.w = w → X.K = K → X.calm = true → ∀ (i : Nat) (pins : List (Addr × Obj)) (s : Shared) (σ : St) (H : Hp) (E : Value → Shared → Prop), Inv X pins σ H s → (∀ b ∈ fp, FpOk X pins H b) → tn i s.heap → J.stop i H →
    wpAny (model P w) X.A (pyNext (.ref it)) (fun r s1 => r = none ∧ Inv X pins σ H s1) E s
  self : ∀ (A : Around) (i : Nat) (s : Shared) (Q : Value → Shared → Prop) (E : Value → Shared → Prop), tn i s.heap → Q (.ref it) s → wpAny (model P w) A (pyIter (.ref it)) Q E s
abbrev TI := St → Hp → (It → Hp → Prop) → Prop
/-- an iterator has come -/
def PIE (X : Cx) (pins : List (Addr × Obj)) (σ : St) (tg : Expr) (R : It → Hp → Prop) (itv : Value) (s2 : Shared) : Prop :=
  ∃ (it : Addr) (fp : List Addr) (tn : Nat → Heap → Prop) (J : It) (H' : Hp), itv = .ref it ∧ Inv X pins σ H' s2 ∧ Turn X.prog X.w X.K tg J fp it tn ∧ tn 0 s2.heap ∧ (∀ b ∈ fp, FpOk X pins H' b) ∧ R J H'
def PI (X : Cx) (tg iter : Expr) (wi : TI) : Prop :=
  ∀ (pins : List (Addr × Obj)) (s : Shared) (σ : St) (H : Hp) (R : It → Hp → Prop), Inv X pins σ H s → wi σ H R →
    wpAny (model X.prog X.w) X.A (eval iter X.env) (fun v s1 => wpAny (model X.prog X.w) X.A (pyIter v) (PIE X pins σ tg R) X.xe s1) X.xe s

/-- the step ahead of the store is nothing for an iterator that keeps no tuple -/
theorem go_of {M : Model} {A : Around} {E : Value → Shared → Prop} {s : Shared} {tg : Expr} {it : Addr} {u : Value} {o : Obj} {n : String} {vs : Array Value} {Q : Unit → Shared → Prop} (ho : s.heap.get? it = some o) (hc : o.cls = .type n) (hd : o.data = .fields vs)
    (hn : ["enumerate", "zip", "dict_itemiterator", "dict_reverseitemiterator", "odict_iterator", "itertools.zip_longest", "itertools.pairwise"].contains n = false) (hQ : Q () s) : wpAny M A (letOwnedTupleGo tg (.ref it) u) Q E s := by
  unfold letOwnedTupleGo
  cases tg <;> first
    | exact wpAny_pure hQ
    | (cases u <;> first
        | exact wpAny_pure hQ
        | (refine wpAny_bind (wpAny_load ho ?_)
           rw [hc, hd]
           show wpAny M A (if (["enumerate", "zip", "dict_itemiterator", "dict_reverseitemiterator", "odict_iterator", "itertools.zip_longest", "itertools.pairwise"].contains n && vs[0]? == some (rawInt _)) = true then _ else _) Q E s
           rw [if_neg (by intro h; rw [hn, Bool.false_and] at h; cases h)]
           exact wpAny_pure hQ))

/-- the list at a, as it stands at each turn (a loop may append to it) -/
def Itl (K : PySem.W.Frag) (a : Addr) : It :=
  ⟨fun i H => ∃ xs x, SqL K H a xs ∧ xs[i]? = some x, fun i H x H' => H' = H ∧ ∀ xs, SqL K H a xs → xs[i]? = some x, fun i H => ∃ xs, SqL K H a xs ∧ xs.length ≤ i⟩
def Itt (K : PySem.W.Frag) (a : Addr) : It :=
  ⟨fun i H => ∃ xs x, SqT K H a xs ∧ xs[i]? = some x, fun i H x H' => H' = H ∧ ∀ xs, SqT K H a xs → xs[i]? = some x, fun i H => ∃ xs, SqT K H a xs ∧ xs.length ≤ i⟩
/-- lo, lo + 1, .. (n of them) -/
def Itr (lo : Int) (n : Nat) : It := ⟨fun i _ => i < n, fun i H x H' => H' = H ∧ x = .int (lo + i), fun i _ => n ≤ i⟩
theorem turn_list {P : Program} {w : World} {K : PySem.W.Frag} {tg : Expr} (a it : Addr) : Turn P w K tg (Itl K a) [it] it (fun i h => h.IsListIter it a i) where
  mem := by simp
  obj := fun i h st b hb => by
    have e : b = it := by simpa using hb
    subst e
    obtain ⟨o, e, c, d⟩ := st
    exact ⟨o, e, fun v z => by rw [d] at z; cases z⟩
  keep := fun i h h' st k => st.at fun o e => k it (by simp) o e
  item := by
    intro X hP hw hK hc i pins s σ H E I hf st hg
    subst hP hw hK
    obtain ⟨xs, x, hq, hx⟩ := hg
    obtain ⟨its, rv, p, hz⟩ := I.list hq
    obtain ⟨u, hu, ru⟩ := rv.get hx
    obtain ⟨f0, f1, f2, f3, f4, f5⟩ := hf it (by simp)
    refine wpAny_pyNext_list_item st p.isList (x := u) (by simpa using hu) fun h' st' sb => ?_
    have I1 : Inv X pins σ H { s with heap := h' } := I.turned (t' := s.toks) (fun b o hb e => (sb.2 b hb).trans e) f0 f1 f3 f4 f5
    obtain ⟨o, e, c, d⟩ := id st'
    exact ⟨u, rfl, go_of (s := { s with heap := h' }) e c d (by decide) ⟨x, H, I1, ru, ⟨rfl, fun ys hy => by rw [I.list_inj hy hq]; exact hx⟩, st', fun b hb => (hf b hb).1⟩⟩
  done := by
    intro X hP hw hK hc i pins s σ H E I hf st hg
    subst hP hw hK
    obtain ⟨xs, hq, hx⟩ := hg
    obtain ⟨its, rv, p, hz⟩ := I.list hq
    obtain ⟨f0, f1, f2, f3, f4, f5⟩ := hf it (by simp)
    have hl := rv.length
    exact wpAny_pyNext_list_end (I.ok.hd hc) st p.isList (by simp; omega) fun h' eb => ⟨rfl, I.turned (t' := s.toks) (fun b o hb e => eb b o hb e) f0 f1 f3 f4 f5⟩
  self := fun _ _ _ _ _ st h => wpAny_pyIter_listiter st h
theorem turn_range {P : Program} {w : World} {K : PySem.W.Frag} {tg : Expr} (it : Addr) (lo : Int) (n : Nat) : Turn P w K tg (Itr lo n) [it] it (fun i h => IsRangeIter h it (lo + (i : Nat) * 1) ((n : Int) - (i : Nat)) 1) where
  mem := by simp
  obj := fun i h st b hb => by
    have e : b = it := by simpa using hb
    subst e
    exact ⟨_, st, fun v z => by
      have z' : Data.fields _ = Data.cell v := z
      cases z'⟩
  keep := fun i h h' st k => k it (by simp) _ st
  item := by
    intro X hP hw hK hc i pins s σ H E I hf st hg
    subst hP hw hK
    obtain ⟨f0, f1, f2, f3, f4, f5⟩ := hf it (by simp)
    have W := Walks.range (prog := X.prog) (w := X.w) (I.ok.hd hc) it lo 1 n
    refine W.item i s _ _ hg st fun v h' tk hv st' kk => ?_
    obtain ⟨t, rfl⟩ := hv
    have I1 : Inv X pins σ H { s with heap := h', toks := tk } := I.turned (fun b o hb e => kk b o (by simpa using hb) e) f0 f1 f3 f4 f5
    refine ⟨_, rfl, go_of (s := { s with heap := h', toks := tk }) (n := "range_iterator") st' rfl rfl (by decide) ⟨.int (lo + i), H, I1, ⟨t, ?_⟩, ⟨rfl, rfl⟩, st', fun b hb => (hf b hb).1⟩⟩
    rw [Int.mul_one]
  done := by
    intro X hP hw hK hc i pins s σ H E I hf st hg
    subst hP hw hK
    obtain ⟨f0, f1, f2, f3, f4, f5⟩ := hf it (by simp)
    exact wpAny_pyNext_range_end (I.ok.hd hc) st (by have : n ≤ i := hg; omega) fun h' eb => ⟨rfl, I.turned (t' := s.toks) (fun b o hb e => eb b o hb e) f0 f1 f3 f4 f5⟩
  self := fun _ _ _ _ _ st h => wpAny_pyIter_rangeiter st h
end L2

namespace L2
open PySem PySem.Spec PyProof.Rows
section
variable {X : Cx} {tg : Expr}
def iList (K : PySem.W.Frag) (tl : TE) : TI := fun σ H R => tl σ H fun x H1 => ∃ a, x = .ref a ∧ (∃ xs, SqL K H1 a xs) ∧ R (Itl K a) H1
def iTup (K : PySem.W.Frag) (tl : TE) : TI := fun σ H R => tl σ H fun x H1 => ∃ a, x = .ref a ∧ (∃ xs, SqT K H1 a xs) ∧ R (Itt K a) H1
theorem pi_list {l : Expr} {tl : TE} (hl : PE X l tl) : PI X tg l (iList X.K tl) := by
  intro pins s σ H R I h
  refine thn (hl pins s σ H _ I h) fun v s1 ⟨x, H1, I1, r1, q1⟩ => ?_
  obtain ⟨a, e, ⟨xs, hq⟩, q⟩ := q1
  subst e
  cases r1
  obtain ⟨its, rv, p, hz⟩ := I1.list hq
  refine wpAny_pyIter_list p.isList ?_
  refine ⟨s1.heap.objs.size, [s1.heap.objs.size], _, _, H1, rfl, I1.kept (t' := s1.toks) fun b o e => Heap.get?_push_of_some _ e, turn_list a _, ⟨_, Heap.get?_push_size _ rfl, rfl, rfl⟩, fun b hb => ?_, q⟩
  have e : b = s1.heap.objs.size := by simpa using hb
  subst e
  exact I1.fpOk (Nat.le_refl _) (I1.hok.fresh (Nat.le_refl _))
/-- a range object just made, walked -/
theorem range_it {pins : List (Addr × Obj)} {σ : St} {H : Hp} {s : Shared} {R : It → Hp → Prop} {E : Value → Shared → Prop} {lo hi : Int} {t u v : Tok} {tk : Nat} (I : Inv X pins σ H s) (h1 : -(2 ^ 62) ≤ lo) (h2 : lo < 2 ^ 62) (h3 : -(2 ^ 62) ≤ hi) (h4 : hi < 2 ^ 62)
    (q : R (Itr lo (hi - lo).toNat) H) : wpAny (model X.prog X.w) X.A (pyIter (.ref s.heap.objs.size)) (PIE X pins σ tg R) E { s with heap := s.heap.push { cls := .type "range", data := .fields #[.int lo t, .int hi u, .int 1 v] }, toks := tk } := by
  refine wpAny_pyIter_range (IsRange.new ..) (small_one h1 h2 h3 h4) ?_
  have I1 : Inv X pins σ H { s with heap := s.heap.push { cls := .type "range", data := .fields #[.int lo t, .int hi u, .int 1 v] }, toks := tk } := I.kept fun b o e => Heap.get?_push_of_some _ e
  refine ⟨(s.heap.push { cls := .type "range", data := .fields #[.int lo t, .int hi u, .int 1 v] }).objs.size, [(s.heap.push { cls := .type "range", data := .fields #[.int lo t, .int hi u, .int 1 v] }).objs.size], _, _, H, rfl,
    I1.kept (t' := tk) fun b o e => Heap.get?_push_of_some _ e, turn_range _ lo (hi - lo).toNat, ?_, fun b hb => ?_, q⟩
  · have e1 : lo + ((0 : Nat) : Int) * 1 = lo := by simp
    have e2 : (((hi - lo).toNat : Nat) : Int) - ((0 : Nat) : Int) = Builtin.Range.rangeSize lo hi 1 := by rw [rangeSize_one]; split <;> omega
    show IsRangeIter _ _ (lo + ((0 : Nat) : Int) * 1) ((((hi - lo).toNat : Nat) : Int) - ((0 : Nat) : Int)) 1
    rw [e1, e2]
    exact Heap.get?_push_size _ rfl
  · have e : b = (s.heap.push { cls := .type "range", data := .fields #[.int lo t, .int hi u, .int 1 v] }).objs.size := by simpa using hb
    subst e
    exact I1.fpOk (Nat.le_refl _) (I1.hok.fresh (Nat.le_refl _))
def iRng1 (ta : TA) : TI := fun σ H R => ta σ H fun vs H1 => ∃ j : Int, vs = [.int j] ∧ -(2 ^ 62) ≤ j ∧ j < 2 ^ 62 ∧ R (Itr 0 j.toNat) H1
def iRng2 (ta : TA) : TI := fun σ H R => ta σ H fun vs H1 => ∃ i j : Int, vs = [.int i, .int j] ∧ (-(2 ^ 62) ≤ i ∧ i < 2 ^ 62 ∧ -(2 ^ 62) ≤ j ∧ j < 2 ^ 62) ∧ R (Itr i (j - i).toNat) H1
theorem pi_range1 {a : Expr} {ta : TA} {p pos : Pos} (hg : Gl X "range") (hm : X.mg "range" = none) (ha : PA X [a] ta) (hs : starEach [a] X.env = [(false, eval a X.env)] := by rfl) : PI X tg (.Call (.Name "range" p) [a] [] pos) (iRng1 ta) := by
  intro pins s σ H R I h
  refine Call_ (ld_blt I hg hm boot_range (PyProof.Rows.callWith_type1 (thn (ha pos pins s σ H _ I h) fun us s1 ⟨vs, H1, I1, r1, q1⟩ => ?_) hs rfl))
  obtain ⟨j, e, q1, q2, q⟩ := q1
  subst e
  cases r1 with
  | cons r rr =>
    cases rr
    obtain ⟨t, rfl⟩ := r
    exact call_range_1 (range_it I1 (by omega) (by omega) q1 q2 (by simpa using q))
/-! ### for -/
/-- W: the invariant by the turn and a measure; N: what the body is to reach -/
def tFor (wi : TI) (g : TG) (tb : TS) : TS := fun D σ H => wi σ H fun J H1 => ∃ W : Nat → Nat → St → Hp → Prop, (∃ m, W 0 m σ H1) ∧ ∀ i m σ H, W i m σ H →
  (J.stop i H ∧ D.nx σ H) ∨ (J.go i H ∧ ∃ N : St → Hp → Prop, (∀ σ' H', N σ' H' → ∃ m', m' < m ∧ W (i + 1) m' σ' H') ∧ ∀ x H', J.yld i H x H' → g x σ H' fun σ2 H2 => tb { D with nx := N, ct := N, bk := D.nx } σ2 H2)
/-- the records at fp as they stand -/
def pinsAt (fp : List Addr) (h : Heap) : List (Addr × Obj) := fp.filterMap fun b => (h.get? b).map fun o => (b, o)
theorem mem_pinsAt {fp : List Addr} {h : Heap} {b : Addr} {o : Obj} (hb : b ∈ fp) (e : h.get? b = some o) : (b, o) ∈ pinsAt fp h := List.mem_filterMap.mpr ⟨b, hb, by rw [e]; rfl⟩
theorem of_pinsAt {fp : List Addr} {h : Heap} {p : Addr × Obj} (hp : p ∈ pinsAt fp h) : p.1 ∈ fp ∧ h.get? p.1 = some p.2 := by
  obtain ⟨b, hb, e⟩ := List.mem_filterMap.mp hp
  cases q : h.get? b with
  | none => rw [q] at e; cases e
  | some o =>
    rw [q] at e
    have e' : (b, o) = p := Option.some.inj e
    subst e'
    exact ⟨hb, q⟩
theorem Inv.pinned {pins : List (Addr × Obj)} {σ : St} {H : Hp} {s : Shared} {fp : List Addr} (I : Inv X pins σ H s) (hf : ∀ b ∈ fp, FpOk X pins H b) (ho : ∀ b ∈ fp, ∃ o, s.heap.get? b = some o ∧ ∀ v, o.data ≠ .cell v) : Inv X (pins ++ pinsAt fp s.heap) σ H s :=
  I.pins_of fun p hp => (List.mem_append.mp hp).elim (fun z => I.pin p (List.mem_append_right _ z)) fun z => by
    obtain ⟨hb, e⟩ := of_pinsAt z
    obtain ⟨f0, f1, f2, _⟩ := hf p.1 hb
    obtain ⟨o, e', d⟩ := ho p.1 hb
    rw [e] at e'; cases e'
    exact ⟨e, f0, f1, f2, d⟩
theorem Inv.unpinned {pins pl : List (Addr × Obj)} {σ : St} {H : Hp} {s : Shared} (I : Inv X (pins ++ pl) σ H s) : Inv X pins σ H s := I.pins_of fun p hp => I.pin p (List.mem_append_right _ (List.mem_append_left _ hp))
theorem ps_for {iter : Expr} {body : List Stmt} {wi : TI} {g : TG} {tb : TS} {pos : Pos} (hp : PassesOwn (model X.prog X.w) X.A X.env X.xe) (hc : X.calm = true) (hi : PI X tg iter wi) (hg : PG X tg g) (hb : PSs X body tb)
    (hs : ∀ x, foldedSetIterable iter X.env x = pure x := by intro _; rfl) : PS X (.For tg iter body [] pos) (tFor wi g tb) := by
  intro pins s σ H D I h
  refine wpAny_For (thn (hi pins s σ H _ I h) fun v s1 h1 => thn h1 fun itv s2 h2 => ?_) hs
  obtain ⟨it, fp, tn, J, H2, e, I2, T, st2, f2, W, ⟨m0, w0⟩, turn⟩ := h2
  subst e
  -- what stays true of the iterator's objects through the loop
  have stat : ∀ {H' : Hp}, (∀ b ∈ fp, H' b = none) → ∀ b ∈ fp, FpOk X pins H' b := fun hn b hb => ⟨hn b hb, (f2 b hb).2⟩
  refine codeAny_forLoop_any (fun n s' => ∃ i σ' H', Inv X pins σ' H' s' ∧ tn i s'.heap ∧ (∀ b ∈ fp, H' b = none) ∧ W i n σ' H') ?_ m0 ⟨0, σ, H2, I2, st2, fun b hb => (f2 b hb).1, w0⟩
  rintro n s3 ⟨i, σ3, H3, I3, st3, fr3, w3⟩
  rcases turn i n σ3 H3 w3 with ⟨stop, qn⟩ | ⟨go, N, hN, step⟩
  · refine wpAny_passesOwn hp (thn (T.done X rfl rfl rfl hc i pins s3 σ3 H3 X.xe I3 (stat fr3) st3 stop) fun r s4 ⟨hr, I4⟩ => ?_)
    subst hr
    exact wpAny_execs_nil ⟨σ3, H3, I4, qn⟩
  · refine wpAny_passesOwn hp (thn (T.item X rfl rfl rfl hc i pins s3 σ3 H3 X.xe I3 (stat fr3) st3 go) fun r s4 ⟨u, hr, h4⟩ => ?_)
    subst hr
    refine wpAny_passesOwn hp (thn h4 fun _ s5 ⟨x, H5, I5, r5, y5, st5, fr5⟩ => ?_)
    have I5' := I5.pinned (stat fr5) (T.obj _ _ st5)
    refine wpAny_passesOwn hp (thn (hg _ s5 σ3 H5 x u _ I5' r5 (step x H5 y5)) fun _ s6 ⟨σ6, H6, I6, q6⟩ => ?_)
    refine wpAny_passesOwn hp (thn (hb _ s6 σ6 H6 _ I6 q6) fun f s7 q7 => ?_)
    have again : ∀ {σ7 : St} {H7 : Hp}, Inv X (pins ++ pinsAt fp s5.heap) σ7 H7 s7 → N σ7 H7 → ∃ m, m < n ∧ ∃ i σ' H', Inv X pins σ' H' s7 ∧ tn i s7.heap ∧ (∀ b ∈ fp, H' b = none) ∧ W i m σ' H' := fun {σ7 H7} I7 n7 => by
      obtain ⟨m', hm, w7⟩ := hN σ7 H7 n7
      refine ⟨m', hm, i + 1, σ7, H7, I7.unpinned, T.keep _ _ _ st5 fun b hb o e => (I7.pin (b, o) (List.mem_append_right _ (List.mem_append_right _ (mem_pinsAt hb e)))).1, fun b hb => ?_, w7⟩
      obtain ⟨o, e, d⟩ := T.obj _ _ st5 b hb
      exact (I7.pin (b, o) (List.mem_append_right _ (List.mem_append_right _ (mem_pinsAt hb e)))).2.1
    cases f with
    | next => obtain ⟨σ7, H7, I7, n7⟩ := q7; exact again I7 n7
    | cont => obtain ⟨σ7, H7, I7, n7⟩ := q7; exact again I7 n7
    | brk => obtain ⟨σ7, H7, I7, q7⟩ := q7; exact ⟨σ7, H7, I7.unpinned, q7⟩
    | ret v => obtain ⟨x7, σ7, H7, I7, r7, q7⟩ := q7; exact ⟨x7, σ7, H7, I7.unpinned, r7, q7⟩
end

/-! ### the forms one uses -/
theorem for_range {lo : Int} {n : Nat} {g : TG} {tb : TS} {D : Ends} {σ : St} {H : Hp} (Pv : Nat → St → Hp → Prop) (h0 : Pv 0 σ H)
    (hs : ∀ i σ H, i < n → Pv i σ H → g (.int (lo + i)) σ H fun σ2 H2 => tb { D with nx := Pv (i + 1), ct := Pv (i + 1), bk := D.nx } σ2 H2) (hd : ∀ σ H, Pv n σ H → D.nx σ H) :
    ∃ W : Nat → Nat → St → Hp → Prop, (∃ m, W 0 m σ H) ∧ ∀ i m σ H, W i m σ H →
      ((Itr lo n).stop i H ∧ D.nx σ H) ∨ ((Itr lo n).go i H ∧ ∃ N : St → Hp → Prop, (∀ σ' H', N σ' H' → ∃ m', m' < m ∧ W (i + 1) m' σ' H') ∧ ∀ x H', (Itr lo n).yld i H x H' → g x σ H' fun σ2 H2 => tb { D with nx := N, ct := N, bk := D.nx } σ2 H2) := by
  refine ⟨fun i m σ H => m = n - i ∧ i ≤ n ∧ Pv i σ H, ⟨n, by simp, Nat.zero_le _, h0⟩, ?_⟩
  rintro i m σ H ⟨rfl, hi, p⟩
  by_cases hlt : i < n
  · refine .inr ⟨hlt, Pv (i + 1), fun σ' H' p' => ⟨n - (i + 1), by omega, rfl, hlt, p'⟩, fun x H' y => ?_⟩
    obtain ⟨e, y⟩ := y
    subst e y
    exact hs i σ _ hlt p
  · have e : i = n := by omega
    subst e
    exact .inl ⟨Nat.le_refl _, hd σ H p⟩
end L2

namespace L2
open PySem PySem.Spec PyProof.Rows

abbrev R2 := V → V → Hp → VK → Prop
/-- a two-place operation on values: f is binaryOp op, inplaceOp op or compareOp op -/
def OpR (X : Cx) (f : Value → Value → Sem Value) (r : R2) : Prop :=
  ∀ (pins : List (Addr × Obj)) (s : Shared) (σ : St) (H : Hp) (x y : V) (v u : Value) (Q : VK), Inv X pins σ H s → RelV x v → RelV y u → r x y H Q →
    wpAny (model X.prog X.w) X.A (f v u) (EP X pins σ Q) X.xe s
/-- a one-place operation -/
def UnR (X : Cx) (f : Value → Sem Value) (r : V → Hp → VK → Prop) : Prop :=
  ∀ (pins : List (Addr × Obj)) (s : Shared) (σ : St) (H : Hp) (x : V) (v : Value) (Q : VK), Inv X pins σ H s → RelV x v → r x H Q →
    wpAny (model X.prog X.w) X.A (f v) (EP X pins σ Q) X.xe s
/-- a call of a value that is known (a builtin, a type) with values -/
def CallR (X : Cx) (f : Value) (r : List V → Hp → VK → Prop) : Prop :=
  ∀ (pins : List (Addr × Obj)) (s : Shared) (σ : St) (H : Hp) (xs : List V) (us : List Value) (Q : VK), Inv X pins σ H s → Vals xs us → r xs H Q →
    wpAny (model X.prog X.w) X.A (call f us) (EP X pins σ Q) X.xe s
/-- a value's truth -/
def TruR (X : Cx) (r : V → Hp → (Bool → Hp → Prop) → Prop) : Prop :=
  ∀ (pins : List (Addr × Obj)) (s : Shared) (σ : St) (H : Hp) (x : V) (v : Value) (Q : Bool → Hp → Prop), Inv X pins σ H s → RelV x v → r x H Q →
    wpAny (model X.prog X.w) X.A (truthy v) (TP X pins σ Q) X.xe s

def tOp (r : R2) (ta tb : TE) : TE := fun σ H Q => ta σ H fun x H1 => tb σ H1 fun y H2 => r x y H2 Q
def tUn (r : V → Hp → VK → Prop) (ta : TE) : TE := fun σ H Q => ta σ H fun x H1 => r x H1 Q
/-- ints in, under C, and a value out -/
def rI (C : Int → Int → Prop) (g : Int → Int → V) : R2 := fun x y H Q => ∃ i j, x = .int i ∧ y = .int j ∧ C i j ∧ Q (g i j) H
def rI0 (g : Int → Int → V) : R2 := fun x y H Q => ∃ i j, x = .int i ∧ y = .int j ∧ Q (g i j) H
def rU (g : Int → V) : V → Hp → VK → Prop := fun x H Q => ∃ i, x = .int i ∧ Q (g i) H

section
variable {X : Cx} {a b c : Expr} {ta tb tc : TE} {pos : Pos}

theorem binT (ha : PE X a ta) (hb : PE X b tb) {pins : List (Addr × Obj)} {s : Shared} {σ : St} {H : Hp} {R : V → V → Hp → Prop} (I : Inv X pins σ H s)
    (h : ta σ H fun x H1 => tb σ H1 fun y H2 => R x y H2) {Q : Value → Shared → Prop} {f : Value → Value → Sem Value}
    (hf : ∀ v u s2 x y H2, Inv X pins σ H2 s2 → RelV x v → RelV y u → R x y H2 → wpAny (model X.prog X.w) X.A (f v u) Q X.xe s2) :
    wpAny (model X.prog X.w) X.A (eval a X.env) (fun v s₁ => wpAny (model X.prog X.w) X.A (eval b X.env) (fun u s₂ => wpAny (model X.prog X.w) X.A (f v u) Q X.xe s₂) X.xe s₁) X.xe s := by
  refine thn (ha pins s σ H _ I h) fun v s1 ⟨x, H1, I1, r1, q1⟩ => ?_
  refine thn (hb pins s1 σ H1 _ I1 q1) fun u s2 ⟨y, H2, I2, r2, q2⟩ => ?_
  exact hf v u s2 x y H2 I2 r1 r2 q2

theorem pe_op {op : Operator} {r : R2} (ho : OpR X (binaryOp op) r) (ha : PE X a ta) (hb : PE X b tb) : PE X (.BinOp a op b pos) (tOp r ta tb) := by
  intro pins s σ H Q I h
  exact wpAny_BinOp (binT ha hb I h fun v u s2 x y H2 I2 rx ry q => ho pins s2 σ H2 x y v u Q I2 rx ry q)
theorem pe_un {op : UnaryOp} {r : V → Hp → VK → Prop} (ho : UnR X (unaryOp op) r) (ha : PE X a ta) : PE X (.UnaryOp op a pos) (tUn r ta) := by
  intro pins s σ H Q I h
  exact UnaryOp_ (thn (ha pins s σ H _ I h) fun v s1 ⟨x, H1, I1, r1, q1⟩ => ho pins s1 σ H1 x v Q I1 r1 q1)
/-! ### ints -/
theorem opI {f : Value → Value → Sem Value} {C : Int → Int → Prop} {g : Int → Int → Int}
    (rule : ∀ (i j : Int) (t u : Tok) (s : Shared) (Q : Value → Shared → Prop) (E : Value → Shared → Prop), C i j → Q (.int (g i j) s.toks) { s with toks := s.toks + 1 } → wpAny (model X.prog X.w) X.A (f (.int i t) (.int j u)) Q E s) :
    OpR X f (rI C fun i j => .int (g i j)) := by
  intro pins s σ H x y v u Q I rx ry h
  obtain ⟨i, j, rfl, rfl, hc, q⟩ := h
  obtain ⟨t, rfl⟩ := rx
  obtain ⟨t', rfl⟩ := ry
  exact rule i j t t' s _ _ hc ⟨.int (g i j), H, I.tok _, ⟨_, rfl⟩, q⟩
theorem opI0 {f : Value → Value → Sem Value} {g : Int → Int → Int}
    (rule : ∀ (i j : Int) (t u : Tok) (s : Shared) (Q : Value → Shared → Prop) (E : Value → Shared → Prop), Q (.int (g i j) s.toks) { s with toks := s.toks + 1 } → wpAny (model X.prog X.w) X.A (f (.int i t) (.int j u)) Q E s) :
    OpR X f (rI0 fun i j => .int (g i j)) := by
  intro pins s σ H x y v u Q I rx ry h
  obtain ⟨i, j, rfl, rfl, q⟩ := h
  obtain ⟨t, rfl⟩ := rx
  obtain ⟨t', rfl⟩ := ry
  exact rule i j t t' s _ _ ⟨.int (g i j), H, I.tok _, ⟨_, rfl⟩, q⟩
theorem opB0 {f : Value → Value → Sem Value} {g : Int → Int → Bool}
    (rule : ∀ (i j : Int) (t u : Tok) (s : Shared) (Q : Value → Shared → Prop) (E : Value → Shared → Prop), Q (.bool (g i j)) s → wpAny (model X.prog X.w) X.A (f (.int i t) (.int j u)) Q E s) :
    OpR X f (rI0 fun i j => .bl (g i j)) := by
  intro pins s σ H x y v u Q I rx ry h
  obtain ⟨i, j, rfl, rfl, q⟩ := h
  obtain ⟨t, rfl⟩ := rx
  obtain ⟨t', rfl⟩ := ry
  exact rule i j t t' s _ _ ⟨.bl (g i j), H, I, rfl, q⟩

def CDiv (i j : Int) : Prop := 0 < j ∧ j < 1073741824
def CDivN (i j : Int) : Prop := j ≠ 0 ∧ j.natAbs < 1073741824
def CPow (i j : Int) : Prop := 0 ≤ j ∧ j ≤ 1000000 ∧ i.natAbs < 2 ^ 64
def CMul (i j : Int) : Prop := (-(2 ^ 64) < i ∧ i < 2 ^ 64) ∨ (-(2 ^ 64) < j ∧ j < 2 ^ 64)
theorem CMul.ok {i j : Int} (h : CMul i j) : IntMulOk i j := by
  rcases h with ⟨h1, h2⟩ | ⟨h1, h2⟩
  · exact .of_left (intBits_le_64 h1 h2)
  · exact .of_right (intBits_le_64 h1 h2)
theorem op_add : OpR X (binaryOp .Add) (rI0 fun i j => .int (i + j)) := opI0 fun _ _ _ _ _ _ _ q => add_int q
theorem op_sub : OpR X (binaryOp .Sub) (rI0 fun i j => .int (i - j)) := opI0 fun _ _ _ _ _ _ _ q => sub_int q
theorem op_mul : OpR X (binaryOp .Mult) (rI CMul fun i j => .int (i * j)) := opI fun _ _ _ _ _ _ _ hc q => mul_int q hc.ok
/-- // by a positive divisor -/
theorem op_fdiv : OpR X (binaryOp .FloorDiv) (rI CDiv fun i j => .int (i / j)) := opI fun i j _ _ _ _ _ hc q => by
  have h1 : (0 : Int) < j := hc.1
  have h2 : j < 1073741824 := hc.2
  exact floordiv_int (by omega) (by rw [Int.fdiv_eq_ediv_of_nonneg i (by omega)]; exact q) (.inl (PyProof.noPylong_small (by omega)))
/-- % by a positive divisor of any size -/
theorem op_mod : OpR X (binaryOp .Mod) (rI (fun _ j => 0 < j) fun i j => .int (i % j)) := opI fun i j _ _ _ _ _ hc q => by
  have h1 : (0 : Int) < j := hc
  exact mod_int' (by omega) (by rw [Int.fmod_eq_emod_of_nonneg i (by omega)]; exact q)
theorem op_pow : OpR X (binaryOp .Pow) (rI CPow fun i j => .int (i ^ j.toNat)) := opI fun _ _ _ _ _ _ _ hc q => pow_int_small hc.1 hc.2.1 hc.2.2 q
theorem unI {f : Value → Sem Value} {g : Int → Int}
    (rule : ∀ (i : Int) (t : Tok) (s : Shared) (Q : Value → Shared → Prop) (E : Value → Shared → Prop), Q (.int (g i) s.toks) { s with toks := s.toks + 1 } → wpAny (model X.prog X.w) X.A (f (.int i t)) Q E s) :
    UnR X f (rU fun i => .int (g i)) := by
  intro pins s σ H x v Q I rx h
  obtain ⟨i, rfl, q⟩ := h
  obtain ⟨t, rfl⟩ := rx
  exact rule i t s _ _ ⟨.int (g i), H, I.tok _, ⟨_, rfl⟩, q⟩
theorem un_neg : UnR X (unaryOp .USub) (rU fun i => .int (-i)) := unI fun _ _ _ _ _ q => neg_int q
/-! ### bools among ints: n += (a < b) -/
end

/-! ### comparisons -/
/-- the scalars that == tells apart as data does -/
def scal : V → V → Bool
  | .non, .non => true | .non, .int _ => true | .int _, .non => true | .non, .bl _ => true | .bl _, .non => true | .non, .str _ => true | .str _, .non => true
  | .int _, .int _ => true | .bl _, .bl _ => true | .str _, .str _ => true | .byt _, .byt _ => true
  | .int _, .str _ => true | .str _, .int _ => true | .bl _, .str _ => true | .str _, .bl _ => true
  | _, _ => false
def rEq : R2 := fun x y H Q => scal x y = true ∧ Q (.bl (decide (x = y))) H
def rNe : R2 := fun x y H Q => scal x y = true ∧ Q (.bl (!decide (x = y))) H

theorem dec_int {i j : Int} : decide (V.int i = V.int j) = (i == j) := by
  rw [Bool.eq_iff_iff]
  simp
theorem dec_bl {i j : Bool} : decide (V.bl i = V.bl j) = (i == j) := by
  rw [Bool.eq_iff_iff]
  simp
theorem dec_str {i j : Str} : decide (V.str i = V.str j) = (i == j) := by
  rw [Bool.eq_iff_iff]
  simp
theorem dec_byt {i j : Array UInt8} : decide (V.byt i = V.byt j) = (i.toList == j.toList) := by
  rw [Bool.eq_iff_iff]
  cases i
  cases j
  simp

section
variable {X : Cx} {a b c : Expr} {ta tb tc : TE} {pos : Pos}
theorem fin_bl {pins : List (Addr × Obj)} {σ : St} {H : Hp} {s : Shared} {Q : VK} {k k' : Bool} (I : Inv X pins σ H s) (q : Q (.bl k) H) (e : k = k') : EP X pins σ Q (.bool k') s := by
  subst e
  exact ⟨.bl k, H, I, rfl, q⟩
theorem op_eq : OpR X (compareOp .Eq) rEq := by
  intro pins s σ H x y v u Q I rx ry h
  obtain ⟨hs, q⟩ := h
  cases x with
  | non =>
    cases rx
    cases y with
    | non => cases ry; exact PySem.EqNone.eq_none_none (fin_bl I q (by simp))
    | bl j => cases ry; exact PySem.EqNone.eq_none_bool (fin_bl I q (by simp))
    | int j => obtain ⟨t', rfl⟩ := ry; exact PySem.EqNone.eq_none_int (fin_bl I q (by simp))
    | str j => obtain ⟨t', rfl⟩ := ry; exact PySem.EqNone.eq_none_str (fin_bl I q (by simp))
    | _ => exact absurd (show false = true from hs) Bool.false_ne_true
  | bl i =>
    cases rx
    cases y with
    | non => cases ry; exact PySem.EqNone.eq_bool_none (fin_bl I q (by simp))
    | bl j => cases ry; exact eq_bool (fin_bl I q dec_bl)
    | str j => obtain ⟨t', rfl⟩ := ry; exact PySem.EqMixed.eq_bool_str (fin_bl I q (by simp))
    | _ => exact absurd (show false = true from hs) Bool.false_ne_true
  | int i =>
    obtain ⟨t, rfl⟩ := rx
    cases y with
    | non => cases ry; exact PySem.EqNone.eq_int_none (fin_bl I q (by simp))
    | int j => obtain ⟨t', rfl⟩ := ry; exact eq_int (fin_bl I q dec_int)
    | str j => obtain ⟨t', rfl⟩ := ry; exact PySem.EqMixed.eq_int_str (fin_bl I q (by simp))
    | _ => exact absurd (show false = true from hs) Bool.false_ne_true
  | str i =>
    obtain ⟨t, rfl⟩ := rx
    cases y with
    | non => cases ry; exact PySem.EqNone.eq_str_none (fin_bl I q (by simp))
    | bl j => cases ry; exact PySem.EqMixed.eq_str_bool (fin_bl I q (by simp))
    | int j => obtain ⟨t', rfl⟩ := ry; exact PySem.EqMixed.eq_str_int (fin_bl I q (by simp))
    | str j => obtain ⟨t', rfl⟩ := ry; exact eq_str (fin_bl I q dec_str)
    | _ => exact absurd (show false = true from hs) Bool.false_ne_true
  | byt i =>
    obtain ⟨t, rfl⟩ := rx
    cases y with
    | byt j => obtain ⟨t', rfl⟩ := ry; exact PySem.W.eq_bytes (fin_bl I q dec_byt)
    | _ => exact absurd (show false = true from hs) Bool.false_ne_true
  | _ => cases y <;> exact absurd (show false = true from hs) Bool.false_ne_true
theorem op_ne : OpR X (compareOp .NotEq) rNe := by
  intro pins s σ H x y v u Q I rx ry h
  obtain ⟨hs, q⟩ := h
  cases x with
  | non =>
    cases rx
    cases y with
    | non => cases ry; exact PySem.EqNone.ne_none_none (fin_bl I q (by simp))
    | bl j => cases ry; exact PySem.EqNone.ne_none_bool (fin_bl I q (by simp))
    | int j => obtain ⟨t', rfl⟩ := ry; exact PySem.EqNone.ne_none_int (fin_bl I q (by simp))
    | str j => obtain ⟨t', rfl⟩ := ry; exact PySem.EqNone.ne_none_str (fin_bl I q (by simp))
    | _ => exact absurd (show false = true from hs) Bool.false_ne_true
  | bl i =>
    cases rx
    cases y with
    | non => cases ry; exact PySem.EqNone.ne_bool_none (fin_bl I q (by simp))
    | bl j => cases ry; exact ne_bool (fin_bl I q (congrArg not dec_bl))
    | str j => obtain ⟨t', rfl⟩ := ry; exact PySem.EqMixed.ne_bool_str (fin_bl I q (by simp))
    | _ => exact absurd (show false = true from hs) Bool.false_ne_true
  | int i =>
    obtain ⟨t, rfl⟩ := rx
    cases y with
    | non => cases ry; exact PySem.EqNone.ne_int_none (fin_bl I q (by simp))
    | int j => obtain ⟨t', rfl⟩ := ry; exact ne_int (fin_bl I q (congrArg not dec_int))
    | str j => obtain ⟨t', rfl⟩ := ry; exact PySem.EqMixed.ne_int_str (fin_bl I q (by simp))
    | _ => exact absurd (show false = true from hs) Bool.false_ne_true
  | str i =>
    obtain ⟨t, rfl⟩ := rx
    cases y with
    | non => cases ry; exact PySem.EqNone.ne_str_none (fin_bl I q (by simp))
    | bl j => cases ry; exact PySem.EqMixed.ne_str_bool (fin_bl I q (by simp))
    | int j => obtain ⟨t', rfl⟩ := ry; exact PySem.EqMixed.ne_str_int (fin_bl I q (by simp))
    | str j => obtain ⟨t', rfl⟩ := ry; exact ne_str (fin_bl I q (congrArg not dec_str))
    | _ => exact absurd (show false = true from hs) Bool.false_ne_true
  | byt i =>
    obtain ⟨t, rfl⟩ := rx
    cases y with
    | byt j => obtain ⟨t', rfl⟩ := ry; exact PySem.W.ne_bytes (fin_bl I q (congrArg not dec_byt))
    | _ => exact absurd (show false = true from hs) Bool.false_ne_true
  | _ => cases y <;> exact absurd (show false = true from hs) Bool.false_ne_true

theorem op_lt : OpR X (compareOp .Lt) (rI0 fun i j => .bl (decide (i < j))) := opB0 fun _ _ _ _ _ _ _ q => lt_int q
theorem op_le : OpR X (compareOp .LtE) (rI0 fun i j => .bl (decide (i ≤ j))) := opB0 fun _ _ _ _ _ _ _ q => le_int q
theorem op_gt : OpR X (compareOp .Gt) (rI0 fun i j => .bl (decide (j < i))) := opB0 fun _ _ _ _ _ _ _ q => gt_int q
theorem op_ge : OpR X (compareOp .GtE) (rI0 fun i j => .bl (decide (j ≤ i))) := opB0 fun _ _ _ _ _ _ _ q => ge_int q
/-- the one string within the other -/
theorem op_in_str : OpR X (compareOp .In) (fun x y H Q => ∃ i j, x = .str i ∧ y = .str j ∧ Q (.bl (!(Builtin.Str.occurrences j i 0 j.length 1).isEmpty)) H) := by
  intro pins s σ H x y v u Q I rx ry h
  obtain ⟨i, j, rfl, rfl, q⟩ := h
  obtain ⟨t, rfl⟩ := rx
  obtain ⟨t', rfl⟩ := ry
  exact in_str (fin_bl I q rfl)

/-- is None, is not None: the right side a value none -/
theorem op_isN : OpR X (compareOp .Is) (fun x y H Q => y = .non ∧ Q (.bl (decide (x = .non))) H) := by
  intro pins s σ H x y v u Q I rx ry h
  obtain ⟨rfl, q⟩ := h
  cases ry
  refine is_none_gen (fin_bl I q ?_)
  cases x <;> first
    | (cases rx; rfl)
    | (obtain ⟨t, rfl⟩ := rx; rfl)
theorem op_notin_str : OpR X (compareOp .NotIn) (fun x y H Q => ∃ i j, x = .str i ∧ y = .str j ∧ Q (.bl (!(!(Builtin.Str.occurrences j i 0 j.length 1).isEmpty))) H) := by
  intro pins s σ H x y v u Q I rx ry h
  obtain ⟨i, j, rfl, rfl, q⟩ := h
  obtain ⟨t, rfl⟩ := rx
  obtain ⟨t', rfl⟩ := ry
  exact notIn_str (fin_bl I q rfl)
/-- is, is not of two objects that are tracked lists or instances -/
def isObj : HO → Bool
  | .lst _ => true
  | .ins _ _ _ => true
  | _ => false
theorem nomark (b : Expr) {op : CmpOp} (h : op ≠ .In := by decide) (h2 : op ≠ .NotIn := by decide) : behindInMarks op b = false := by
  have e1 : (op == CmpOp.In) = false := by cases op <;> first | rfl | exact absurd rfl h
  have e2 : (op == CmpOp.NotIn) = false := by cases op <;> first | rfl | exact absurd rfl h2
  cases b <;> simp [behindInMarks, e1, e2]
/-- a comparison as a value; hm: nomark b, or (for in, not in) by with_unfolding_all rfl -/
theorem pe_cmpR {op : CmpOp} {r : R2} (ho : OpR X (compareOp op) r) (ha : PE X a ta) (hb : PE X b tb) (hm : behindInMarks op b = false) : PE X (.Compare a [op] [b] pos) (tOp r ta tb) := by
  intro pins s σ H Q I h
  exact wpAny_Compare1 (binT ha hb I h fun v u s2 x y H2 I2 rx ry q => ho pins s2 σ H2 x y v u Q I2 rx ry q) hm
/-- a reading of a value as a test -/
def tTest (t : TE) : TT := fun σ H Q => t σ H fun x H' => ∃ k, x = .bl k ∧ Q k H'
theorem pt_cmpR {op : CmpOp} {r : R2} (ho : OpR X (compareOp op) r) (ha : PE X a ta) (hb : PE X b tb) (hm : behindInMarks op b = false) : PT X (.Compare a [op] [b] pos) (tTest (tOp r ta tb)) := by
  intro pins s σ H Q I h
  refine wpAny_isTrue_Compare1 (thn (ha pins s σ H _ I h) fun v s1 ⟨x, H1, I1, r1, q1⟩ => thn (hb pins s1 σ H1 _ I1 q1) fun u s2 ⟨y, H2, I2, r2, q2⟩ =>
    thn (ho pins s2 σ H2 x y v u _ I2 r1 r2 q2) fun c s3 ⟨z, H3, I3, r3, k, e, q3⟩ => ?_) hm
  subst e
  cases r3
  exact wpAny_truthy_bool ⟨H3, I3, q3⟩
/-- a op1 b op2 c -/
def tChain (r r' : R2) (ta tb tc : TE) : TE := fun σ H Q => ta σ H fun x H1 => tb σ H1 fun y H2 => r x y H2 fun z H3 => ∃ k, z = .bl k ∧
  (if k = true then tc σ H3 fun w' H4 => r' y w' H4 Q else Q (.bl false) H3)
theorem pt_chain {op op' : CmpOp} {r r' : R2} (ho : OpR X (compareOp op) r) (ho' : OpR X (compareOp op') r') (ha : PE X a ta) (hb : PE X b tb) (hc : PE X c tc)
    (hm : lastMarks [op, op'] [b, c] = false := by with_unfolding_all rfl) : PT X (.Compare a [op, op'] [b, c] pos) (tTest (tChain r r' ta tb tc)) := by
  intro pins s σ H Q I h
  refine isTrue_chain (thn (ha pins s σ H _ I h) fun v s1 ⟨x, H1, I1, r1, q1⟩ => test_link (thn (hb pins s1 σ H1 _ I1 q1) fun u s2 ⟨y, H2, I2, r2, q2⟩ =>
    thn (ho pins s2 σ H2 x y v u _ I2 r1 r2 q2) fun d s3 ⟨z, H3, I3, r3, k, e, q3⟩ => ?_)) hm
  subst e
  cases r3
  refine wpAny_truthy_bool ?_
  cases k with
  | false =>
    obtain ⟨k', e', q'⟩ := q3
    cases e'
    exact ite_ff ⟨H3, I3, q'⟩
  | true =>
    refine ite_tt (test_last (thn (hc pins s3 σ H3 _ I3 q3) fun w' s4 ⟨z', H4, I4, r4, q4⟩ => thn (ho' pins s4 σ H4 y z' u w' _ I4 r2 r4 q4) fun d' s5 ⟨z2, H5, I5, r5, k2, e2, q5⟩ => ?_))
    subst e2
    cases r5
    exact wpAny_truthy_bool ⟨H5, I5, q5⟩

/-! ### truth -/
/-- a value's truth by the abstract heap -/
def TruV (K : PySem.W.Frag) (x : V) (H : Hp) (k : Bool) : Prop :=
  match x with
  | .non => k = false
  | .bl b => k = b
  | .int i => k = (i != 0)
  | .str y => y.length ≤ sizeLine ∧ k = ((y.length : Int) != 0)
  | .byt y => y.size ≤ sizeLine ∧ k = ((y.size : Int) != 0)
  | .ref p => (∃ xs, SqL K H p xs ∧ k = !xs.isEmpty) ∨ (∃ xs, SqT K H p xs ∧ k = !xs.isEmpty) ∨ ∃ kvs, H p = some (.dK kvs) ∧ k = !kvs.isEmpty
  | _ => False
theorem isEmpty_kv {κ : Type} {kvs : List (κ × V)} {vs : List (κ × Value)} (r : KV kvs vs) : (!vs.isEmpty) = !kvs.isEmpty := by
  cases r <;> rfl
theorem isEmpty_of {xs : List V} {its : List Value} (r : Vals xs its) : (!its.toArray.isEmpty) = !xs.isEmpty := by
  cases r <;> simp
theorem line63 : (sizeLine : Nat) < 2 ^ 63 := by rw [sizeLine_eq]; decide
theorem tru_ok : TruR X (fun x H Q => ∃ k, TruV X.K x H k ∧ Q k H) := by
  intro pins s σ H x v Q I rx h
  obtain ⟨k, e, q⟩ := h
  have hl := line63
  have hs : sizeLine = 16777216 := sizeLine_eq
  cases x with
  | non =>
    cases rx
    have e' : k = false := e
    subst e'
    exact truthy_none ⟨H, I, q⟩
  | bl b =>
    cases rx
    have e' : k = b := e
    subst e'
    exact wpAny_truthy_bool ⟨H, I, q⟩
  | int i =>
    obtain ⟨t, rfl⟩ := rx
    have e' : k = (i != 0) := e
    subst e'
    exact PySem.P.truthy_int ⟨H, I, q⟩
  | str y =>
    obtain ⟨t, rfl⟩ := rx
    obtain ⟨hy, e'⟩ : y.length ≤ sizeLine ∧ k = ((y.length : Int) != 0) := e
    subst e'
    exact PySem.P.truthy_str (by omega) ⟨H, I.tok _, q⟩
  | byt y =>
    obtain ⟨t, rfl⟩ := rx
    obtain ⟨hy, e'⟩ : y.size ≤ sizeLine ∧ k = ((y.size : Int) != 0) := e
    subst e'
    exact PySem.W.truthy_bytes (by omega) ⟨H, I.tok _, q⟩
  | ref p =>
    cases rx
    have e' : (∃ xs, SqL X.K H p xs ∧ k = !xs.isEmpty) ∨ (∃ xs, SqT X.K H p xs ∧ k = !xs.isEmpty) ∨ ∃ kvs, H p = some (.dK kvs) ∧ k = !kvs.isEmpty := e
    rcases e' with ⟨xs, hx, e'⟩ | ⟨xs, hx, e'⟩ | ⟨kvs, hx, e'⟩
    · subst e'
      obtain ⟨its, r, pl, hz⟩ := I.list hx
      have hlen := r.length
      exact wpAny_truthy_list pl.isList (by simp only [List.size_toArray]; omega) ⟨H, I.tok _, by rw [isEmpty_of r]; exact q⟩
    · subst e'
      obtain ⟨its, r, pl, hz⟩ := I.tuple hx
      have hlen := r.length
      exact truthy_tuple pl (by simp only [List.size_toArray]; omega) ⟨H, I.tok _, by rw [isEmpty_of r]; exact q⟩
    · subst e'
      obtain ⟨hz, hS, vs, r, m⟩ : kvs.length ≤ sizeLine ∧ (p == sysModules) = false ∧ ∃ vs, KV kvs vs ∧ s.heap.DictOf (mixKind X.prog X.w) p vs := I.hok p _ hx
      have hlen : kvs.length = vs.length := Paired.length r
      exact wpAny_truthy_dict hS m (by omega) ⟨H, I.tok _, by rw [isEmpty_kv r]; exact q⟩
  | _ => exact (show False from e).elim
/-! ### strs and bytes -/
theorem op_add_str : OpR X (binaryOp .Add) (fun x y H Q => ∃ i j, x = .str i ∧ y = .str j ∧ i.length + j.length ≤ sizeLine ∧ Q (.str (i ++ j)) H) := by
  intro pins s σ H x y v u Q I rx ry h
  obtain ⟨i, j, rfl, rfl, hz, q⟩ := h
  obtain ⟨t, rfl⟩ := rx
  obtain ⟨t', rfl⟩ := ry
  exact add_str (fun t' tk => ⟨.str (i ++ j), H, I.tok _, ⟨_, rfl⟩, q⟩) hz
def PlainIxT (b : Expr) : Prop := ∀ o i, subscripted b false o i = operate [o, i] (getItem o i)
/-! ### scalar builtins, by CallR -/
theorem vals1 {x : V} {us : List Value} (r : Vals [x] us) : ∃ u, us = [u] ∧ RelV x u := by
  cases r with
  | cons r1 r2 => cases r2; exact ⟨_, rfl, r1⟩
theorem vals2 {x y : V} {us : List Value} (r : Vals [x, y] us) : ∃ u w', us = [u, w'] ∧ RelV x u ∧ RelV y w' := by
  cases r with
  | cons r1 r2 =>
    cases r2 with
    | cons r3 r4 => cases r4; exact ⟨_, _, rfl, r1, r3⟩
theorem call_max2 (hc : X.calm = true) : CallR X (.builtin "max") (fun xs H Q => ∃ i j, xs = [.int i, .int j] ∧ Q (.int (if j > i then j else i)) H) := by
  intro pins s σ H xs us Q I r h
  obtain ⟨i, j, rfl, q⟩ := h
  obtain ⟨u, w', rfl, ⟨t, rfl⟩, ⟨t', rfl⟩⟩ := vals2 r
  refine max_two_ints (I.ok.hd hc) fun h' tk k => ⟨_, H, I.kept k, ?_, q⟩
  by_cases hj : j > i
  · rw [if_pos hj, if_pos hj]; exact ⟨_, rfl⟩
  · rw [if_neg hj, if_neg hj]; exact ⟨_, rfl⟩
theorem call_min2 (hc : X.calm = true) : CallR X (.builtin "min") (fun xs H Q => ∃ i j, xs = [.int i, .int j] ∧ Q (.int (if j < i then j else i)) H) := by
  intro pins s σ H xs us Q I r h
  obtain ⟨i, j, rfl, q⟩ := h
  obtain ⟨u, w', rfl, ⟨t, rfl⟩, ⟨t', rfl⟩⟩ := vals2 r
  refine min_two_ints (I.ok.hd hc) fun h' tk k => ⟨_, H, I.kept k, ?_, q⟩
  by_cases hj : j < i
  · rw [if_pos hj, if_pos hj]; exact ⟨_, rfl⟩
  · rw [if_neg hj, if_neg hj]; exact ⟨_, rfl⟩
/-- len of a str, a bytes, a list, a tuple -/
def LenV (K : PySem.W.Frag) (x : V) (H : Hp) (n : Nat) : Prop :=
  match x with
  | .str y => y.length ≤ sizeLine ∧ n = y.length
  | .byt y => y.size ≤ sizeLine ∧ n = y.size
  | .ref p => (∃ xs, SqL K H p xs ∧ n = xs.length) ∨ ∃ xs, SqT K H p xs ∧ n = xs.length
  | _ => False
/-- divmod: a new tuple -/
theorem call_divmod : CallR X (.builtin "divmod") (fun xs H Q => ∃ i j, xs = [.int i, .int j] ∧ CDiv i j ∧ ∀ p, H p = none → Q (.ref p) (upd H p (.tup [.int (i / j), .int (i % j)]))) := by
  intro pins s σ H xs us Q I r h
  obtain ⟨i, j, rfl, ⟨h1, h2⟩, q⟩ := h
  obtain ⟨u, w', rfl, ⟨t, rfl⟩, ⟨t', rfl⟩⟩ := vals2 r
  refine divmod_int (by omega) ?_ (.inl (PyProof.noPylong_small (by omega)))
  rw [Int.fdiv_eq_ediv_of_nonneg i (by omega), Int.fmod_eq_emod_of_nonneg i (by omega)]
  have hn : H s.heap.objs.size = none := I.hok.fresh (Nat.le_refl _)
  refine ⟨.ref s.heap.objs.size, _, ?_, rfl, q _ hn⟩
  refine I.laid (fun b o e => Heap.get?_push_of_some _ e) (Nat.le_refl _) ⟨by simp only [List.length_cons, List.length_nil]; rw [sizeLine_eq]; decide, [.int (i / j) s.toks, .int (i % j) (s.toks + 1)], .cons ⟨_, rfl⟩ (.cons ⟨_, rfl⟩ .nil), ?_⟩
  exact ⟨_, Heap.get?_push_size s.heap rfl, rfl, 0, rfl⟩
end
end L2

namespace L2
open PySem PySem.Spec PyProof.Rows

/-! ### an instance, its attributes a map -/
structure ObjM (h : Heap) (x dx C : Addr) (mA : Str → Option Value) : Prop where
  obj : h.get? x = some (PySem.W.instObj C dx)
  ns : h.Ns1 dx mA
  ne : dx ≠ x

theorem lookIn_ns {h : Heap} {dx : Addr} {mA : Str → Option Value} (n : h.Ns1 dx mA) : ∃ od, h.get? dx = some od ∧ ∀ name, PySem.W.lookIn name od = some (mA name) := by
  obtain ⟨o, es, ep, ho, hd, hk, _, hm⟩ := n
  refine ⟨o, ho, fun name => ?_⟩
  have e := hm name
  unfold nsFind findBy at e
  rw [← Array.find?_toList] at e
  unfold PySem.W.lookIn
  rw [hd]
  dsimp only
  split
  · rename_i y q
    rw [q] at e
    exact congrArg some e
  · rename_i q
    rw [q] at e
    have a : es.toList.any (·.refKey) = false := by
      rw [List.any_eq_false]
      intro y hy
      obtain ⟨z, t, hkey⟩ := hk y (Array.mem_toList_iff.mp hy)
      simp [DictEntry.refKey, hkey]
    have a' : ¬ es.toList.any (·.refKey) = true := by rw [a]; exact Bool.false_ne_true
    rw [if_neg a']
    exact congrArg some e

theorem ObjM.look {h : Heap} {x dx C : Addr} {mA : Str → Option Value} (I : ObjM h x dx C mA) : ∃ od, PySem.W.InstAt h x (PySem.W.instObj C dx) C (some od) ∧ ∀ name, PySem.W.lookIn name od = some (mA name) :=
  let ⟨od, ho, hl⟩ := lookIn_ns I.ns
  ⟨od, ⟨I.obj, rfl, rfl, ho⟩, hl⟩

section
variable {prog : Program} {w : World} {A : Around} {E : Value → Shared → Prop} {s : Shared} {K : PySem.W.Frag} {x dx C f : Addr} {mA : Str → Option Value} {name : Str} {v : Value}

theorem get_map {expr : Bool} {Q : Value → Shared → Prop} (X : K.In s.heap) (I : ObjM s.heap x dx C mA) (hg : PySem.W.plainGet K C name = true) (hh : PySem.W.hasDictIn K C = true)
    (ha : PySem.W.findIn K (.ref C) name = some none) (hv : mA name = some v) (hv' : PySem.W.handedIn v = true) (h : Q v { s with toks := s.toks + 1 }) :
    wpAny (model prog w) A (getAttr (.ref x) name expr) Q E s := by
  obtain ⟨od, J, hl⟩ := I.look
  exact PySem.W.get_value X J (PySem.W.plainGet_of hg).1 (PySem.W.findObj_own hh ha rfl (by rw [hl, hv])) hv' h

theorem get_meth {pl : Sem Bool} {Q : Value × List Value → Shared → Prop} (X : K.In s.heap) (I : ObjM s.heap x dx C mA) (hg : PySem.W.plainGet K C name = true)
    (hf : PySem.W.findIn K (.ref C) name = some (some (.ref f))) (ht : PySem.W.isFn K (.ref f) = true) (hv : mA name = none) (h : Q (.ref f, [.ref x]) s) :
    wpAny (model prog w) A (getMethod (.ref x) name pl) Q E s := by
  obtain ⟨od, J, hl⟩ := I.look
  exact PySem.W.method_fn X J (PySem.W.plainGet_of hg).1 (PySem.W.plainGet_of hg).2 hf (beq_iff_eq.mp ht) (by show (PySem.W.lookIn name od).map (·.isSome) = some false; rw [hl, hv]; rfl) h

theorem set_map {ns : List Str} {Q : Unit → Shared → Prop} (X : K.In s.heap) (I : ObjM s.heap x dx C mA)
    (hs : PySem.W.findIn K (.ref C) "__setattr__" = some (some (.builtin "object.__setattr__"))) (hp : PySem.W.plainOver K C = true) (ht : PySem.W.takerIn K C name = some none) (hh : PySem.W.hasDictIn K C = true)
    (hw : PySem.Within mA ns) (hsz : ns.length ≤ sizeLine)
    (h : ∀ h', ObjM h' x dx C (fun y => if y = name then some v else mA y) → Heap.SameBut dx s.heap h' → Q () { s with heap := h', toks := s.toks + 2 }) :
    wpAny (model prog w) A (setAttr (.ref x) name v) Q E s := by
  obtain ⟨od, J, hl⟩ := I.look
  refine PySem.W.set_plain X J hs (PySem.W.osa_open (s := { s with toks := s.toks + 1 }) (r := none) X J hp ht fun b => ?_)
  obtain ⟨cd, hc, hd'⟩ := PySem.W.any_some hh
  have hx : s.heap.get? x = some ⟨.ref C, some dx, .plain, #[]⟩ := I.obj
  refine wpAny_bind (wpAny_pure (wpAny_bind (wpAny_bind (wpAny_loadPart hx (wpAny_bind (PySem.W.Looks.here (s := { s with toks := s.toks + 1 }) (PySem.W.looks_clsIn X hc) ?_))))))
  rw [hd']
  refine wpAny_pure (a := some dx) (wpAny_bind (wpAny_pure (wpAny_bind ?_)))
  refine wpAny_nsSet1 (s := { s with toks := s.toks + 1 }) I.ns fun h' hn2 hs2 => ?_
  obtain ⟨oD, esD, epD, hoD, hdD, hcD⟩ := hn2.count (PySem.Within.cons name v hw)
  refine wpAny_bind (wpAny_lookBehind hoD (by rw [hdD]; exact pastItsLine_dict (Nat.le_trans hcD (by rw [List.length_cons]; omega))) ?_)
  exact wpAny_pure (h _ ⟨(hs2.2 _ (Ne.symm I.ne)).trans I.obj, hn2, I.ne⟩ hs2)

/-- C(..): the dict at the heap's end, the instance behind it; then its __init__ -/
theorem make_map {R : Result → Shared → Prop} {vs : List Value} {kw : List (Str × Value)} (X : K.In s.heap) (hm : PySem.W.makesIn K C = true)
    (hi : PySem.W.findIn K (.ref C) "__init__" = some (some (.ref f))) (hf : PySem.W.typeIn K (.ref f) = some (.type "function"))
    (h : codeAny (model prog w) (A.under (.builtin "type.__call__" ⟨.ref C :: vs, kw⟩)) (.call (.ref f) ⟨.ref (s.heap.objs.size + 1) :: vs, kw⟩) (PySem.W.InitBack (s.heap.objs.size + 1) R)
      { s with heap := (s.heap.push PySem.W.emptyDict).push (PySem.W.instObj C s.heap.objs.size) }) :
    codeAny (model prog w) A (.call (.ref C) ⟨vs, kw⟩) R s := by
  obtain ⟨hh, g, d, t, os⟩ := s
  exact PySem.W.make_core (PySem.W.makes_of X hm) (PySem.W.looks_findIn X hi) (fun self => PySem.W.bind_fn X self hf) (.inl rfl) h
end

/-! ### the attributes as a list of pairs -/
def putF (f : Str) (v : V) : List (Str × V) → List (Str × V)
  | [] => [(f, v)]
  | (g, x) :: r => if g = f then (g, v) :: r else (g, x) :: putF f v r
theorem lookup_putF (f g : Str) (v : V) : ∀ fs : List (Str × V), (putF f v fs).lookup g = if g = f then some v else fs.lookup g
  | [] => by
    show List.lookup g [(f, v)] = _
    by_cases h : g = f
    · have hb : (g == f) = true := beq_iff_eq.mpr h
      simp only [List.lookup, hb, if_pos h]
    · have hb : (g == f) = false := beq_eq_false_iff_ne.mpr h
      simp only [List.lookup, hb, if_neg h]
  | (k, x) :: r => by
    have ih := lookup_putF f g v r
    rw [show putF f v ((k, x) :: r) = (if k = f then (k, v) :: r else (k, x) :: putF f v r) from rfl]
    by_cases hk : k = f
    · rw [if_pos hk]
      by_cases h : g = k
      · have hb : (g == k) = true := beq_iff_eq.mpr h
        simp only [List.lookup, hb, if_pos (h.trans hk)]
      · have hb : (g == k) = false := beq_eq_false_iff_ne.mpr h
        simp only [List.lookup, hb, if_neg (fun e : g = f => h (e.trans hk.symm))]
    · rw [if_neg hk]
      by_cases h : g = k
      · have hb : (g == k) = true := beq_iff_eq.mpr h
        simp only [List.lookup, hb, if_neg (fun e : g = f => hk (h.symm.trans e))]
      · have hb : (g == k) = false := beq_eq_false_iff_ne.mpr h
        simp only [List.lookup, hb]
        exact ih
theorem keys_putF (f : Str) (v : V) : ∀ fs : List (Str × V), f ∈ (putF f v fs).map (·.1) ∧ ∀ g, g ∈ fs.map (·.1) → g ∈ (putF f v fs).map (·.1)
  | [] => ⟨by simp [putF], fun g h => by simp at h⟩
  | (k, x) :: r => by
    obtain ⟨i1, i2⟩ := keys_putF f v r
    rw [show putF f v ((k, x) :: r) = (if k = f then (k, v) :: r else (k, x) :: putF f v r) from rfl]
    by_cases hk : k = f
    · rw [if_pos hk]
      subst hk
      exact ⟨by simp, fun g h => by simpa using h⟩
    · rw [if_neg hk]
      refine ⟨?_, fun g h => ?_⟩
      · rw [List.map_cons]
        exact List.mem_cons_of_mem _ i1
      · rw [List.map_cons] at h ⊢
        rcases List.mem_cons.mp h with e | e
        · exact List.mem_cons.mpr (.inl e)
        · exact List.mem_cons_of_mem _ (i2 g e)
theorem length_putF (f : Str) (v : V) : ∀ fs : List (Str × V), (putF f v fs).length ≤ fs.length + 1
  | [] => by simp [putF]
  | (k, x) :: r => by
    have ih := length_putF f v r
    rw [show putF f v ((k, x) :: r) = (if k = f then (k, v) :: r else (k, x) :: putF f v r) from rfl]
    by_cases hk : k = f
    · rw [if_pos hk, List.length_cons, List.length_cons]; omega
    · rw [if_neg hk, List.length_cons, List.length_cons]; omega

theorem RelO.some_of {v : V} {o : Option Value} (r : RelO (some v) o) : ∃ u, o = some u ∧ RelV v u := by
  cases o with
  | none => exact (show False from r).elim
  | some u => exact ⟨u, rfl, r⟩
theorem RelO.none_of {o : Option Value} (r : RelO none o) : o = none := by
  cases o with
  | none => rfl
  | some u => exact (show False from r).elim
theorem handed_of {v : V} {u : Value} (r : RelV v u) : PySem.W.handedIn u = true := by
  cases v with
  | non => cases (show u = Value.none from r); rfl
  | bl b => cases (show u = Value.bool b from r); rfl
  | int i => obtain ⟨t, e⟩ := (show ∃ t, u = Value.int i t from r); cases e; rfl
  | str x => obtain ⟨t, e⟩ := (show ∃ t, u = Value.str x t from r); cases e; rfl
  | byt b => obtain ⟨t, e⟩ := (show ∃ t, u = Value.bytes b t from r); cases e; rfl
  | flt b => obtain ⟨t, e⟩ := (show ∃ t, u = Value.float b t from r); cases e; rfl
  | ref a => cases (show u = Value.ref a from r); rfl
  | ty n => cases (show u = Value.type n from r); rfl

section
variable {P : Program} {w : World} {H H' : Hp} {h h' : Heap} {a C dx : Addr} {fs fs' : List (Str × V)}
theorem ins_get (hok : HOk P w H h) (e : H a = some (.ins C dx fs)) : ∃ mA, ObjM h a dx C mA ∧ (∀ f, RelO (fs.lookup f) (mA f)) ∧ PySem.Within mA (fs.map (·.1)) ∧ fs.length ≤ 1000 ∧ H dx = some (.own a) := by
  obtain ⟨d, z, ne, ob, mA, n, r, q⟩ := (show ObjOk P w H h a (.ins C dx fs) from hok a _ e)
  exact ⟨mA, ⟨ob, n, ne⟩, r, q, z, d⟩
end

/-! ### what of the text a class must have -/
structure Cls (K : PySem.W.Frag) (C : Addr) : Prop where
  pg : PySem.W.plainGet K C Str.empty = true
  hd : PySem.W.hasDictIn K C = true
  po : PySem.W.plainOver K C = true
  sa : PySem.W.findIn K (.ref C) "__setattr__" = some (some (.builtin "object.__setattr__"))
theorem Cls.get {K : PySem.W.Frag} {C : Addr} (c : Cls K C) (f : Str) : PySem.W.plainGet K C f = true := c.pg
/-- no class of it has the name -/
def NoAttr (K : PySem.W.Frag) (C : Addr) (f : Str) : Prop := PySem.W.findIn K (.ref C) f = some none
theorem NoAttr.taker {K : PySem.W.Frag} {C : Addr} {f : Str} (n : NoAttr K C f) : PySem.W.takerIn K C f = some none := by
  unfold PySem.W.takerIn
  rw [show PySem.W.findIn K (.ref C) f = some none from n]
  rfl
/-- a constant of the class -/
structure Con (K : PySem.W.Frag) (C : Addr) (f : Str) (v : V) (u : Value) : Prop where
  at_ : PySem.W.findIn K (.ref C) f = some (some u)
  rel : RelV v u
  get : PySem.W.specialIn K u "__get__" = some none
  cp : PySem.W.copiedNames.contains f = false
/-- a method: a plain def of the class or of one above it -/
structure Meth (K : PySem.W.Frag) (C : Addr) (m : Str) (f : Addr) : Prop where
  at_ : PySem.W.findIn K (.ref C) m = some (some (.ref f))
  fn : PySem.W.isFn K (.ref f) = true
  kp : PySem.W.keepIn K (.ref f) = true

section
variable {X : Cx} {pins : List (Addr × Obj)} {σ : St} {H : Hp} {s : Shared} {a C dx : Addr} {fs : List (Str × V)} {f : Str} {v : V} {A : Around} {E : Value → Shared → Prop}

theorem getattr_ok {b : Bool} {Q : Value → Shared → Prop} (I : Inv X pins σ H s) (e : H a = some (.ins C dx fs)) (c : Cls X.K C) (n : NoAttr X.K C f) (l : fs.lookup f = some v)
    (h : ∀ u s', Inv X pins σ H s' → RelV v u → Q u s') : wpAny (model X.prog X.w) A (getAttr (.ref a) f b) Q E s := by
  obtain ⟨mA, O, r, _, _, _⟩ := ins_get I.hok e
  obtain ⟨u, hu, ru⟩ := RelO.some_of (v := v) (o := mA f) (by rw [← l]; exact r f)
  exact get_map I.kIn O (c.get f) c.hd n hu (handed_of ru) (h u _ (I.tok _) ru)

theorem getmeth_ok {m : Str} {g : Addr} {pl : Sem Bool} {Q : Value × List Value → Shared → Prop} (I : Inv X pins σ H s) (e : H a = some (.ins C dx fs)) (c : Cls X.K C) (k : Meth X.K C m g) (l : fs.lookup m = none)
    (h : Q (.ref g, [.ref a]) s) : wpAny (model X.prog X.w) A (getMethod (.ref a) m pl) Q E s := by
  obtain ⟨mA, O, r, _, _, _⟩ := ins_get I.hok e
  have hn : mA m = none := RelO.none_of (by rw [← l]; exact r m)
  exact get_meth I.kIn O (c.get m) k.at_ k.fn hn h

theorem setattr_ok {y : V} {u : Value} {Q : Unit → Shared → Prop} (I : Inv X pins σ H s) (e : H a = some (.ins C dx fs)) (c : Cls X.K C) (n : NoAttr X.K C f) (hl : fs.length < 1000) (ry : RelV y u)
    (h : ∀ s', Inv X pins σ (upd H a (.ins C dx (putF f y fs))) s' → Q () s') : wpAny (model X.prog X.w) A (setAttr (.ref a) f u) Q E s := by
  obtain ⟨mA, O, r, wi, _, ho⟩ := ins_get I.hok e
  have hz : (fs.map (·.1)).length ≤ sizeLine := by rw [List.length_map, sizeLine_eq]; omega
  refine set_map I.kIn O c.sa c.po n.taker c.hd wi hz fun h' O' sb => h _ ?_
  have hd : ∃ o, h'.get? dx = some o := let ⟨o, _, _, e', _⟩ := O'.ns; ⟨o, e'⟩
  refine I.write (x := a) (e := dx) (by rw [e]; exact True.intro) (.inr ho) (fun b q hb z => (sb.2 b hb).trans z) hd ?_
  refine ⟨by rw [upd_ne O.ne]; exact ho, ?_, O.ne, O'.obj, _, O'.ns, fun g => ?_, fun g hg => ?_⟩
  · have := length_putF f y fs; omega
  · show RelO ((putF f y fs).lookup g) (if g = f then some u else mA g)
    rw [lookup_putF]
    by_cases q : g = f
    · rw [if_pos q, if_pos q]; exact ry
    · rw [if_neg q, if_neg q]; exact r g
  · by_cases q : g = f
    · rw [q]; exact (keys_putF f y fs).1
    · refine (keys_putF f y fs).2 g (wi g fun z => hg ?_)
      show (if g = f then some u else mA g) = none
      rw [if_neg q]; exact z

/-- a new instance, tracked, without attributes -/
theorem Inv.made (I : Inv X pins σ H s) : Inv X pins σ (upd (upd H s.heap.objs.size (.own (s.heap.objs.size + 1))) (s.heap.objs.size + 1) (.ins C s.heap.objs.size []))
    { s with heap := (s.heap.push PySem.W.emptyDict).push (PySem.W.instObj C s.heap.objs.size) } := by
  have e1 : (s.heap.push PySem.W.emptyDict).get? s.heap.objs.size = some PySem.W.emptyDict := Heap.get?_push_size s.heap rfl
  have e2 : ((s.heap.push PySem.W.emptyDict).push (PySem.W.instObj C s.heap.objs.size)).get? (s.heap.objs.size + 1) = some (PySem.W.instObj C s.heap.objs.size) := by
    have := Heap.get?_push_size (s.heap.push PySem.W.emptyDict) (o := PySem.W.instObj C s.heap.objs.size) rfl
    rwa [Heap.size_push] at this
  have e3 : (s.heap.push PySem.W.emptyDict).Ns s.heap.objs.size (fun _ => none) := ⟨PySem.W.emptyDict, #[], _, e1, rfl, (fun e he => absurd he (by simp)), fun _ => rfl⟩
  have I1 := I.laid (a := s.heap.objs.size) (o := .own (s.heap.objs.size + 1)) (h' := s.heap.push PySem.W.emptyDict) (t' := s.toks) (fun b u q => Heap.get?_push_of_some _ q) (Nat.le_refl _) ⟨_, e1⟩
  refine I1.laid (a := s.heap.objs.size + 1) (o := .ins C s.heap.objs.size []) (t' := s.toks) (fun b u q => Heap.get?_push_of_some _ q) (Nat.le_of_eq (Heap.size_push _ _)) ?_
  have ne : s.heap.objs.size ≠ s.heap.objs.size + 1 := Nat.ne_of_lt (Nat.lt_succ_self _)
  refine ⟨by rw [upd_ne ne, upd_same], Nat.zero_le _, ne, e2, fun _ => none, (Heap.Ns1.of_empty e3).at fun o q => Heap.get?_push_of_some _ q, fun _ => True.intro, fun y hy => absurd rfl hy⟩

/-- e.f where nothing but the object is asked: through attributeBase (super) and the last hold -/
theorem attr_of {prog : Program} {w : World} {env : Env} {e : Expr} {f : Str} {pos : Pos} {s : Shared} {Q : Value → Shared → Prop} (hb : attributeBase e f env (eval e env) = eval e env)
    (h : wpAny (model prog w) A (eval e env) (fun o s₁ => wpAny (model prog w) A (getAttr o f true) Q E s₁) E s) : wpAny (model prog w) A (eval (.Attribute e f pos) env) Q E s :=
  Attribute_any_ h (by rw [arm_eval_Attribute, hb])
end

/-! ### readings and rules -/
/-- e.f, an attribute of the instance -/
def tFld (K : PySem.W.Frag) (ta : TE) (f : Str) : TE := fun σ H Q => ta σ H fun x H1 => ∃ a C dx fs v, x = .ref a ∧ H1 a = some (.ins C dx fs) ∧ Cls K C ∧ NoAttr K C f ∧ fs.lookup f = some v ∧ Q v H1
/-- e.f, a constant of the class -/
def tCon (K : PySem.W.Frag) (ta : TE) (f : Str) : TE := fun σ H Q => ta σ H fun x H1 => ∃ a C dx fs v u, x = .ref a ∧ H1 a = some (.ins C dx fs) ∧ Cls K C ∧ Con K C f v u ∧ fs.lookup f = none ∧ Q v H1
/-- e.f = value -/
def sFld (K : PySem.W.Frag) (ta tv : TE) (f : Str) : TS := fun D σ H => tv σ H fun y H1 => ta σ H1 fun x H2 => ∃ a C dx fs, x = .ref a ∧ H2 a = some (.ins C dx fs) ∧ Cls K C ∧ NoAttr K C f ∧ fs.length < 1000 ∧
  D.nx σ (upd H2 a (.ins C dx (putF f y fs)))
/-- an augmented operator on two values -/
def InOp (X : Cx) (op : Operator) (rd : V → V → Hp → VK → Prop) : Prop :=
  ∀ (pins : List (Addr × Obj)) (s : Shared) (σ : St) (H : Hp) (x y : V) (u v : Value) (Q : VK), Inv X pins σ H s → RelV x u → RelV y v → rd x y H Q → wpAny (model X.prog X.w) X.A (inplaceOp op u v) (EP X pins σ Q) X.xe s
/-- e.f op= value -/
def sFldAug (K : PySem.W.Frag) (ta tv : TE) (rd : V → V → Hp → VK → Prop) (f : Str) : TS := fun D σ H => ta σ H fun x H1 => ∃ a C dx fs v, x = .ref a ∧ H1 a = some (.ins C dx fs) ∧ Cls K C ∧ NoAttr K C f ∧ fs.lookup f = some v ∧
  tv σ H1 fun y H2 => rd v y H2 fun z H3 => ∃ dx' fs', H3 a = some (.ins C dx' fs') ∧ fs'.length < 1000 ∧ D.nx σ (upd H3 a (.ins C dx' (putF f z fs')))

section
variable {X : Cx} {o e value : Expr} {f : Str} {pos pos' tpos : Pos} {ta tv : TE}
theorem pe_fld (he : PE X e ta) (hb : attributeBase e f X.env (eval e X.env) = eval e X.env) : PE X (.Attribute e f pos) (tFld X.K ta f) := by
  intro pins s σ H Q I h
  refine attr_of hb (thn (he pins s σ H _ I h) fun u s1 ⟨x, H1, I1, rx, a, C, dx, fs, v, ex, ea, c, n, l, q⟩ => ?_)
  subst ex
  obtain rfl : u = Value.ref a := rx
  exact getattr_ok I1 ea c n l fun u' s2 I2 ru => ⟨v, H1, I2, ru, q⟩
theorem ps_fld (ha : PE X o ta) (hv : PE X value tv) (hs : swapsWith value (some (.Attribute o f pos')) pos.line X.env = pure false) : PS X (.Assign [.Attribute o f pos'] value pos) (sFld X.K ta tv f) := by
  intro pins s σ H D I h
  refine plainObj_wpAny_Assign_Attribute (thn (hv pins s σ H _ I h) fun u s1 ⟨y, H1, I1, ry, q⟩ => thn (ha pins s1 σ H1 _ I1 q) fun ov s2 ⟨x, H2, I2, rx, a, C, dx, fs, ex, ea, c, n, l, q2⟩ => ?_) hs
  subst ex
  obtain rfl : ov = Value.ref a := rx
  exact setattr_ok I2 ea c n l ry fun s3 I3 => ⟨σ, _, I3, q2⟩
def rAdd : V → V → Hp → VK → Prop := fun x y H Q => ∃ i j, x = .int i ∧ y = .int j ∧ Q (.int (i + j)) H
def rSub : V → V → Hp → VK → Prop := fun x y H Q => ∃ i j, x = .int i ∧ y = .int j ∧ Q (.int (i - j)) H
end

/-! ### isinstance -/
section
variable {X : Cx} {pins : List (Addr × Obj)} {σ : St} {H : Hp} {s : Shared} {A : Around} {E : Value → Shared → Prop} {Q : Value → Shared → Prop} {c : Value} {b : Bool}
/-- the type of a value, as the fragment's deciders take it; for an instance its class -/
inductive TyOf (K : PySem.W.Frag) (H : Hp) : V → Value → Prop where
  | non : TyOf K H .non (.type "NoneType")
  | bl (x : Bool) : TyOf K H (.bl x) (.type "bool")
  | int (i : Int) : TyOf K H (.int i) (.type "int")
  | str (x : Str) : TyOf K H (.str x) (.type "str")
  | flt (x : UInt64) : TyOf K H (.flt x) (.type "float")
  | lst {a : Addr} {xs : List V} (e : H a = some (.lst xs)) : TyOf K H (.ref a) (.type "list")
  | frz {a : Addr} {o : Obj} {xs : List V} (e : H a = some (.frz o (.lst xs))) : TyOf K H (.ref a) (.type "list")
  | tup {a : Addr} {xs : List V} (e : H a = some (.tup xs)) : TyOf K H (.ref a) (.type "tuple")
  | dK {a : Addr} {kvs : List (Key × V)} (e : H a = some (.dK kvs)) : TyOf K H (.ref a) (.type "dict")
  | dT {a : Addr} {kvs : List (List Key × V)} (e : H a = some (.dT kvs)) : TyOf K H (.ref a) (.type "dict")
  | ins {a C dx : Addr} {fs : List (Str × V)} (e : H a = some (.ins C dx fs)) (cl : Cls K C) (ha : PySem.W.findIn K (.ref C) "__class__" = some (some (.builtin "object.__class__")))
      (hn : PySem.W.specialIn K (.builtin "object.__class__") "__get__" = some (some (.builtin "getset_descriptor.__get__"))) (htk : PySem.W.takesIn K (.builtin "object.__class__") = some true)
      (hm : PySem.W.mroIn K C (.type "object") = some true) : TyOf K H (.ref a) (.ref C)
/-- isinstance(x, c) for one class c, a built-in or an own one: kitOne's answer -/
theorem isinst_ok {x : V} {u t : Value} (I : Inv X pins σ H s) (rx : RelV x u) (ty : TyOf X.K H x t) (e : PySem.W.kitOne X.K t c = some b) (h : ∀ tk, Q (.bool b) { s with toks := tk }) :
    wpAny (model X.prog X.w) A (call (.builtin "isinstance") [u, c]) Q E s := by
  cases ty with
  | non => cases (show u = Value.none from rx); exact PySem.W.kia_one PySem.W.kitx_none I.kIn True.intro e (fun z => nomatch z) h
  | bl y => cases (show u = Value.bool y from rx); exact PySem.W.kia_one PySem.W.kitx_bool I.kIn True.intro e (fun z => nomatch z) h
  | int i => obtain ⟨t, q⟩ := (show ∃ t, u = Value.int i t from rx); cases q; exact PySem.W.kia_one PySem.W.kitx_int I.kIn True.intro e (fun z => nomatch z) h
  | str y => obtain ⟨t, q⟩ := (show ∃ t, u = Value.str y t from rx); cases q; exact PySem.W.kia_one PySem.W.kitx_str I.kIn True.intro e (fun z => nomatch z) h
  | flt y => obtain ⟨t, q⟩ := (show ∃ t, u = Value.float y t from rx); cases q; exact PySem.W.kia_one PySem.W.kitx_float I.kIn True.intro e (fun z => nomatch z) h
  | @lst a xs ea =>
    cases (show u = Value.ref a from rx)
    obtain ⟨_, _, n, _, h1⟩ := (show ObjOk X.prog X.w H s.heap a (.lst xs) from I.hok a _ ea)
    exact PySem.W.kia_one PySem.W.kitx_list I.kIn ⟨_, h1, rfl⟩ e (fun z => nomatch z) h
  | @frz a ob xs ea =>
    cases (show u = Value.ref a from rx)
    obtain ⟨_, _, _, n, _, h1⟩ := (show ObjOk X.prog X.w H s.heap a (.frz ob (.lst xs)) from I.hok a _ ea)
    exact PySem.W.kia_one PySem.W.kitx_list I.kIn ⟨_, h1, rfl⟩ e (fun z => nomatch z) h
  | @tup a xs ea =>
    cases (show u = Value.ref a from rx)
    obtain ⟨_, _, _, p⟩ := (show ObjOk X.prog X.w H s.heap a (.tup xs) from I.hok a _ ea)
    obtain ⟨o, h1, h2, _⟩ := p
    exact PySem.W.kia_one PySem.W.kitx_tuple I.kIn ⟨o, h1, h2⟩ e (fun z => nomatch z) h
  | @dK a kvs ea =>
    cases (show u = Value.ref a from rx)
    obtain ⟨_, _, vs, _, p⟩ := (show ObjOk X.prog X.w H s.heap a (.dK kvs) from I.hok a _ ea)
    obtain ⟨o, es, ep, h1, h2, _⟩ := p
    exact PySem.W.kia_one PySem.W.kitx_dict I.kIn ⟨o, h1, h2.1⟩ e (fun z => nomatch z) h
  | @dT a kvs ea =>
    cases (show u = Value.ref a from rx)
    obtain ⟨_, _, xs, _, o, es, ep, h1, h2, _⟩ := (show ObjOk X.prog X.w H s.heap a (.dT kvs) from I.hok a _ ea)
    exact PySem.W.kia_one PySem.W.kitx_dict I.kIn ⟨o, h1, h2.1⟩ e (fun z => nomatch z) h
  | @ins a C dx fs ea cl ha hn htk hm =>
    cases (show u = Value.ref a from rx)
    obtain ⟨mA, O, _⟩ := ins_get I.hok ea
    obtain ⟨od, J, _⟩ := O.look
    exact PySem.W.kia_one (PySem.W.kitx_own (cl.get _) cl.hd ha hn htk hm) I.kIn J e (fun z => nomatch z) h
end
end L2

namespace L2
open PySem PySem.Spec PyProof.Rows

/-! ### room -/
structure Room (k : Nat) (A : Around) : Prop where
  hd : A.handled = none
  dp : A.depth + 3 * k + 5 < recursionLimit
  un : A.units + 16 * k + 200 < cLine
theorem Room.mono {j k : Nat} {A : Around} (r : Room k A) (h : j ≤ k) : Room j A := ⟨r.hd, by have := r.dp; omega, by have := r.un; omega⟩
theorem Room.deeper {k : Nat} {A : Around} (r : Room (k + 1) A) (env : Env) : Room k (A.deeper env) :=
  ⟨r.hd, by have := r.dp; show A.depth + 1 + 3 * k + 5 < _; omega, by have := r.un; show A.units + 3 + 16 * k + 200 < _; omega⟩
theorem make_depth {A : Around} {C : Addr} {us : List Value} {kw : List (Str × Value)} : (A.under (.builtin "type.__call__" ⟨.ref C :: us, kw⟩)).depth = A.depth + 1 := by
  first | rfl | simp [Around.under, Code.weight, Code.isCreation, Code.isGuard, Code.isCaller, Code.frames, Code.isFrame, guardIds]
theorem make_units {A : Around} {C : Addr} {us : List Value} {kw : List (Str × Value)} : (A.under (.builtin "type.__call__" ⟨.ref C :: us, kw⟩)).units = A.units + 1 := by
  first | rfl | simp [Around.under, Code.cUnits, Code.frames, Code.isFrame]
theorem Room.make {k : Nat} {A : Around} (r : Room (k + 1) A) (C : Addr) (us : List Value) (kw : List (Str × Value)) : Room k (A.under (.builtin "type.__call__" ⟨.ref C :: us, kw⟩)) :=
  ⟨r.hd, by have := r.dp; rw [make_depth]; omega, by have := r.un; rw [make_units]; omega⟩
theorem Room.depth {k : Nat} {A : Around} (r : Room k A) : A.depth < recursionLimit := by have := r.dp; omega
theorem Room.units0 {k : Nat} {A : Around} (r : Room k A) : A.units < cLine := by have := r.un; omega

/-! ### argument lists and displays -/
def tNil : TA := fun _ H Q => Q [] H
def tCons (ta : TE) (tr : TA) : TA := fun σ H Q => ta σ H fun x H1 => tr σ H1 fun xs H2 => Q (x :: xs) H2
section
variable {X : Cx} {e : Expr} {es : List Expr} {te : TE} {t : TA} {pos : Pos}
theorem pa_nil : PA X [] tNil := fun _ _ _ _ H Q I h => Calls.spliced_nil ⟨[], H, I, .nil, h⟩
theorem pa_cons (ha : PE X e te) (hr : PA X es t) (hs : starEach (e :: es) X.env = (false, eval e X.env) :: starEach es X.env := by rfl) : PA X (e :: es) (tCons te t) := by
  intro pos pins s σ H Q I h
  rw [hs]
  show wpAny _ _ (spliced ((false, eval e X.env) :: backTo pos (starEach es X.env))) _ _ s
  refine Calls.spliced_cons (thn (ha pins s σ H _ I h) fun u s1 ⟨x, H1, I1, r1, q1⟩ => ?_)
  exact thn (hr pos pins s1 σ H1 _ I1 q1) fun us s2 ⟨xs, H2, I2, r2, q2⟩ => ⟨x :: xs, H2, I2, .cons r1 r2, q2⟩

/-- a tuple, a list of written items -/
def tTup (t : TA) : TE := fun σ H Q => t σ H fun xs H1 => xs.length ≤ sizeLine ∧ ∀ p, H1 p = none → Q (.ref p) (upd H1 p (.tup xs))
def tLst (t : TA) : TE := fun σ H Q => t σ H fun xs H1 => xs.length ≤ sizeLine ∧ ∀ p, H1 p = none → Q (.ref p) (upd H1 p (.lst xs))
theorem pe_tup {x1} (h : PA X es t) : PE X (.Tuple es x1 pos) (tTup t) := by
  intro pins s σ H Q I hq
  refine wpAny_Tuple_spliced (thn (h pos pins s σ H _ I hq) fun us s1 ⟨xs, H1, I1, r, z, q⟩ => ⟨by rw [← r.length]; exact z, ?_⟩)
  have hf : H1 s1.heap.objs.size = none := I1.hok.fresh (Nat.le_refl _)
  refine ⟨.ref s1.heap.objs.size, upd H1 s1.heap.objs.size (.tup xs), I1.laid (t' := s1.toks) (fun b u e => Heap.get?_push_of_some _ e) (Nat.le_refl _) ?_, rfl, q _ hf⟩
  exact ⟨z, us, r, ⟨_, Heap.get?_push_size _ rfl, rfl, _, rfl⟩⟩
theorem pe_lst (h : PA X es t) : PE X (.List es pos) (tLst t) := by
  intro pins s σ H Q I hq
  refine wpAny_List_spliced (thn (h pos pins s σ H _ I hq) fun us s1 ⟨xs, H1, I1, r, z, q⟩ => ⟨by rw [← r.length]; exact z, ?_⟩)
  have hf : H1 s1.heap.objs.size = none := I1.hok.fresh (Nat.le_refl _)
  refine ⟨.ref s1.heap.objs.size, upd H1 s1.heap.objs.size (.lst xs), I1.laid (t' := s1.toks) (fun b u e => Heap.get?_push_of_some _ e) (Nat.le_refl _) ?_, rfl, q _ hf⟩
  exact ⟨z, us, 0, r, Heap.get?_push_size _ rfl⟩
end

/-! ### what a def promises -/
/-- a def's promise: the bound arguments in the parameters' order, the heap, the wanted end, the wanted exception -/
abbrev Sp := List V → Hp → VK → XK → Prop
/-- how an exception lies behind a call (file 08 gives it): the callers' frames, abstract heap and state ahead of the call, the wish, the exception, the state -/
abbrev CXT := List Env → Hp → Shared → XK → Value → Shared → Prop

/-- the state at a call -/
structure Env0 (P : Program) (w : World) (K : PySem.W.Frag) (mg : Str → Option Value) (base : Heap) (A : Around) (outer : List Env) (s : Shared) (H : Hp) : Prop where
  frames : A.frames = some outer
  mod : Mod K mg base
  bs : ∀ b o, base.get? b = some o → s.heap.get? b = some o ∧ H b = none
  bsz : base.objs.size ≤ s.heap.objs.size
  funs : s.heap.FunFrames base outer
  frf : ∀ b ∈ frs outer, H b = none
  hok : HOk P w H s.heap
  bare : AllBare s.gens
/-- a call's end -/
def CE (outer : List Env) (P : Program) (w : World) (H : Hp) (s : Shared) (Q : VK) (u : Value) (s' : Shared) : Prop :=
  ∃ v H', s'.os = s.os ∧ AllBare s'.gens ∧ Un (frs outer) [] H H' s.heap s'.heap ∧ HOk P w H' s'.heap ∧ RelV v u ∧ Q v H'
def CR (CX : CXT) (outer : List Env) (P : Program) (w : World) (H : Hp) (s : Shared) (Q : VK) (E : XK) (r : Result) (s' : Shared) : Prop :=
  match r with
  | .ok (.ret u) => CE outer P w H s Q u s'
  | .ok _ => False
  | .error e => CX outer H s E e s'
structure FnOk (P : Program) (w : World) (K : PySem.W.Frag) (mg : Str → Option Value) (base : Heap) (CX : CXT) (k : Nat) (f : Addr) (fd : FuncData) (ps : List Str) (sp : Sp) : Prop where
  len : ∀ vs H Q E, sp vs H Q E → vs.length = ps.length
  run : ∀ (A : Around) (outer : List Env) (s : Shared) (H : Hp) (args : Args) (us : List Value) (vs : List V) (Q : VK) (E : XK), Room k A → Env0 P w K mg base A outer s H → BindsTo s fd args (ps.zip us) → Vals vs us → sp vs H Q E →
    codeAny (model P w) A (.call (.ref f) args) (CR CX outer P w H s Q E) s
theorem FnOk.mono {P : Program} {w : World} {K : PySem.W.Frag} {mg : Str → Option Value} {base : Heap} {CX : CXT} {j k : Nat} {f : Addr} {fd : FuncData} {ps : List Str} {sp : Sp} (F : FnOk P w K mg base CX j f fd ps sp) (h : j ≤ k) :
    FnOk P w K mg base CX k f fd ps sp := ⟨F.len, fun A outer s H args us vs Q E hr => F.run A outer s H args us vs Q E (hr.mono h)⟩
/-- a weaker promise -/
theorem FnOk.imp {P : Program} {w : World} {K : PySem.W.Frag} {mg : Str → Option Value} {base : Heap} {CX : CXT} {k : Nat} {f : Addr} {fd : FuncData} {ps : List Str} {sp sp' : Sp} (F : FnOk P w K mg base CX k f fd ps sp)
    (h : ∀ vs H Q E, sp' vs H Q E → sp vs H Q E) : FnOk P w K mg base CX k f fd ps sp' :=
  ⟨fun vs H Q E q => F.len vs H Q E (h _ _ _ _ q), fun A outer s H args us vs Q E hr he hb hv hs => F.run A outer s H args us vs Q E hr he hb hv (h _ _ _ _ hs)⟩

theorem Env0.make {P : Program} {w : World} {K : PySem.W.Frag} {mg : Str → Option Value} {base : Heap} {A : Around} {outer : List Env} {s : Shared} {H : Hp} (e : Env0 P w K mg base A outer s H) (C : Addr) (us : List Value) (kw : List (Str × Value)) :
    Env0 P w K mg base (A.under (.builtin "type.__call__" ⟨.ref C :: us, kw⟩)) outer s H := ⟨by first | exact e.frames | (simpa [Around.under, Code.envs, Code.isFrame, pushEnvs] using e.frames), e.mod, e.bs, e.bsz, e.funs, e.frf, e.hok, e.bare⟩
section
variable {X : Cx} {pins : List (Addr × Obj)} {σ : St} {H : Hp} {s s' : Shared}
/-- from a body: what a callee wants -/
theorem Inv.env0 (I : Inv X pins σ H s) : Env0 X.prog X.w X.K X.mg X.base X.A X.stack s H :=
  ⟨I.ok.frames, I.ok.mod, I.bs, Nat.le_trans I.ok.bsz I.sz, I.stack, I.stkFree, I.hok, I.bare⟩
/-- behind a call -/
theorem Inv.after {Q : VK} {u : Value} (I : Inv X pins σ H s) (h : CE X.stack X.prog X.w H s Q u s') : EP X pins σ Q u s' := by
  obtain ⟨v, H', os, bare, un, hok, r, q⟩ := h
  obtain ⟨hh, g, d, t, os'⟩ := s'
  obtain rfl : os' = s.os := os
  exact ⟨v, H', I.call (h' := hh) (g' := g) (d' := d) (t' := t) (ch := []) un hok bare (fun b z => absurd z (by simp)), r, q⟩
end

/-! ### calls -/
/-- f(..): the written arguments, then the defaults dvs; E: what is wanted of an exception -/
def tCall (sp : Sp) (dvs : List V) (E : XK) (t : TA) : TE := fun σ H Q => t σ H fun vs H1 => sp (vs ++ dvs) H1 Q E
/-- o.m(..) of an instance of the class at C -/
def tMeth (C : Addr) (m : Str) (sp : Sp) (dvs : List V) (E : XK) (ta : TE) (t : TA) : TE := fun σ H Q => ta σ H fun x H1 => ∃ a dx fs, x = .ref a ∧ H1 a = some (.ins C dx fs) ∧ fs.lookup m = none ∧
  t σ H1 fun vs H2 => sp (x :: (vs ++ dvs)) H2 Q E
/-- C(..): a new instance and its dict, then __init__ -/
def tMake (C : Addr) (sp : Sp) (dvs : List V) (E : XK) (t : TA) : TE := fun σ H Q => t σ H fun vs H1 => ∀ x dx, H1 x = none → H1 dx = none → dx ≠ x →
  sp (.ref x :: (vs ++ dvs)) (upd (upd H1 dx (.own x)) x (.ins C dx [])) (fun v H2 => v = .non ∧ Q (.ref x) H2) E

/-- how the parameters are bound: us the positional arguments, kw the keywords' values by name, ds the defaults that fill up -/
def Binds (K : PySem.W.Frag) (fd : FuncData) (ps : List Str) (ds : List Value) : Prop :=
  ∀ (s : Shared) (us : List Value), K.In s.heap → (us ++ ds).length = ps.length → BindsTo s fd ⟨us, []⟩ (ps.zip (us ++ ds))
/-- every parameter is given -/
theorem Binds.all {K : PySem.W.Frag} {fd : FuncData} {ps : List Str} (h : ∀ us : List Value, us.length = ps.length → bindArgs fd ⟨us, []⟩ = pure (ps.zip us)) : Binds K fd ps [] := fun s us _ hl => by
  rw [List.append_nil] at hl ⊢
  exact .of_eq (h us hl)

/-- an exception of a callee reaches what this body wants of exceptions -/
def Passes (CX : CXT) (X : Cx) (E : XK) : Prop := ∀ (pins : List (Addr × Obj)) (σ : St) (H : Hp) (s : Shared) (e : Value) (s' : Shared), Inv X pins σ H s → CX X.stack H s E e s' → X.xe e s'

section
variable {X : Cx} {CX : CXT} {k : Nat} {f C : Addr} {fd : FuncData} {ps : List Str} {sp : Sp} {dvs : List V} {ds : List Value} {E : XK} {x m : Str} {p pos apos : Pos} {e o : Expr} {es : List Expr} {ta : TE} {t : TA}

/-- the callee runs -/
theorem run_fn {pins : List (Addr × Obj)} {σ : St} {H : Hp} {s : Shared} {Q : VK} {us : List Value} {vs : List V} (F : FnOk X.prog X.w X.K X.mg X.base CX k f fd ps sp) (hr : Room k X.A) (hb : Binds X.K fd ps ds) (hd : Vals dvs ds) (hx : Passes CX X E)
    (I : Inv X pins σ H s) (r : Vals vs us) (h : sp (vs ++ dvs) H Q E) : wpAny (model X.prog X.w) X.A (call (.ref f) us) (EP X pins σ Q) X.xe s := by
  have r2 : Vals (vs ++ dvs) (us ++ ds) := r.append hd
  have hl : (us ++ ds).length = ps.length := by rw [← r2.length]; exact F.len _ _ _ _ h
  refine wpAny_call (codeAny_mono (F.run X.A X.stack s H ⟨us, []⟩ (us ++ ds) (vs ++ dvs) Q E hr I.env0 (hb s us I.kIn hl) r2 h) fun r s' hq => ?_)
  cases r with
  | error e => exact hx pins σ H s e s' I hq
  | ok fl =>
    cases fl with
    | ret u => exact I.after hq
    | next => exact False.elim hq
    | brk => exact False.elim hq
    | cont => exact False.elim hq

theorem pe_call (F : FnOk X.prog X.w X.K X.mg X.base CX k f fd ps sp) (hr : Room k X.A) (hg : Gl X x) (hm : X.mg x = some (.ref f)) (hk : PySem.W.keepIn X.K (.ref f) = true) (hb : Binds X.K fd ps ds) (hd : Vals dvs ds) (hx : Passes CX X E)
    (ha : PA X (e :: es) t) (hdb : (x == ("__debug__" : Str)) = false := by decide) (he : starEach (e :: es) X.env = (false, eval e X.env) :: starEach es X.env := by rfl) (hpl : (backTo pos (starEach es X.env)).any (·.1) = false := by rfl) :
    PE X (.Call (.Name x p) (e :: es) [] pos) (tCall sp dvs E t) := by
  intro pins s σ H Q I h
  refine wpAny_Call_Name_kw (ld_glob I hg hm ?_ hdb)
  refine PySem.W.callWith_K (h₀ := X.base) I.ok.mod.kin hk (thn (ha pos pins s σ H _ I h) fun us s1 ⟨vs, H1, I1, r, q⟩ => ⟨I1.kIn, ?_⟩) he hpl
  exact run_fn F hr hb hd hx I1 r q
/-- o.m(e, ..) -/
theorem pe_meth {pl : Sem Bool} (he : PE X o ta) (c : Cls X.K C) (hm : Meth X.K C m f) (F : FnOk X.prog X.w X.K X.mg X.base CX k f fd ps sp) (hr : Room k X.A) (hb : Binds X.K fd ps ds) (hd : Vals dvs ds) (hx : Passes CX X E) (ha : PA X (e :: es) t)
    (hst : starEach (e :: es) X.env = (false, eval e X.env) :: starEach es X.env := by rfl) (hpl : (backTo pos (starEach es X.env)).any (·.1) = false := by rfl)
    (ht : eval (.Call (.Attribute o m apos) (e :: es) [] pos) X.env = (do
      let ov ← eval o X.env
      standAt apos.atName
      let (f, first) ← holding [ov] (getMethod ov m pl)
      callWith pos f first (backTo pos (starEach (e :: es) X.env)) (backToKw pos (keywordEach [] X.env))) := by rfl) :
    PE X (.Call (.Attribute o m apos) (e :: es) [] pos) (tMeth C m sp dvs E ta t) := by
  intro pins s σ H Q I h
  refine PySem.W.methodCall_KW (pl := pl) (thn (he pins s σ H _ I h) fun u s1 ⟨x, H1, I1, rx, a, dx, fs, ex, ea, l, q⟩ => ?_) ht
  subst ex
  obtain rfl : u = Value.ref a := rx
  refine getmeth_ok I1 ea c hm l ?_
  refine PySem.W.callWith_K (first := [.ref a]) (h₀ := X.base) I.ok.mod.kin hm.kp (thn (ha pos pins s1 σ H1 _ I1 q) fun us s2 ⟨vs, H2, I2, r, q2⟩ => ⟨I2.kIn, ?_⟩) hst hpl
  exact run_fn (us := .ref a :: us) (vs := .ref a :: vs) F hr hb hd hx I2 (.cons rfl r) q2
/-- what a class must have to be made -/
structure Mk (K : PySem.W.Frag) (C f : Addr) : Prop where
  makes : PySem.W.makesIn K C = true
  init : PySem.W.findIn K (.ref C) "__init__" = some (some (.ref f))
  fn : PySem.W.isFn K (.ref f) = true
  kp : PySem.W.keepIn K (.ref C) = true

theorem run_make {pins : List (Addr × Obj)} {σ : St} {H : Hp} {s : Shared} {Q : VK} {us : List Value} {vs : List V} (M : Mk X.K C f) (F : FnOk X.prog X.w X.K X.mg X.base CX k f fd ps sp) (hr : Room (k + 1) X.A) (hb : Binds X.K fd ps ds) (hd : Vals dvs ds)
    (hx : Passes CX X E) (I : Inv X pins σ H s) (r : Vals vs us)
    (h : ∀ x dx, H x = none → H dx = none → dx ≠ x → sp (.ref x :: (vs ++ dvs)) (upd (upd H dx (.own x)) x (.ins C dx [])) (fun v H2 => v = .non ∧ Q (.ref x) H2) E) :
    wpAny (model X.prog X.w) X.A (call (.ref C) us) (EP X pins σ Q) X.xe s := by
  have hq := h (s.heap.objs.size + 1) s.heap.objs.size (I.hok.fresh (Nat.le_succ _)) (I.hok.fresh (Nat.le_refl _)) (Nat.ne_of_lt (Nat.lt_succ_self _))
  have I2 := Inv.made (C := C) I
  have r2 : Vals (V.ref (s.heap.objs.size + 1) :: (vs ++ dvs)) (Value.ref (s.heap.objs.size + 1) :: (us ++ ds)) := .cons rfl (r.append hd)
  have hl : (Value.ref (s.heap.objs.size + 1) :: us ++ ds).length = ps.length := by
    have e := r2.length
    rw [F.len _ _ _ _ hq] at e
    exact e.symm
  refine wpAny_call (make_map (f := f) I.kIn M.makes M.init (beq_iff_eq.mp M.fn) (codeAny_mono (F.run _ X.stack _ _ ⟨Value.ref (s.heap.objs.size + 1) :: us, []⟩ (Value.ref (s.heap.objs.size + 1) :: (us ++ ds)) _ _ E (hr.make C us [])
    (I2.env0.make C us []) (hb _ (Value.ref (s.heap.objs.size + 1) :: us) I2.kIn hl) r2 hq) fun r s' hq' => ?_))
  cases r with
  | error e => exact hx pins σ _ _ e s' I2 hq'
  | ok fl =>
    cases fl with
    | ret u =>
      obtain ⟨v, H', I3, rv, ev, q3⟩ := I2.after hq'
      subst ev
      exact ⟨rv, ⟨V.ref (s.heap.objs.size + 1), H', I3, rfl, q3⟩⟩
    | next => exact False.elim hq'
    | brk => exact False.elim hq'
    | cont => exact False.elim hq'
theorem pe_make0 (M : Mk X.K C f) (F : FnOk X.prog X.w X.K X.mg X.base CX k f fd ps sp) (hr : Room (k + 1) X.A) (hg : Gl X x) (hm : X.mg x = some (.ref C)) (hb : Binds X.K fd ps ds) (hd : Vals dvs ds) (hx : Passes CX X E)
    (hdb : (x == ("__debug__" : Str)) = false := by decide) : PE X (.Call (.Name x p) [] [] pos) (tMake C sp dvs E tNil) := by
  intro pins s σ H Q I h
  refine wpAny_Call_Name_kw (ld_glob I hg hm ?_ hdb)
  exact PySem.W.callWith_K0 I.kIn M.kp (run_make (us := []) M F hr hb hd hx I .nil h)
end

/-! ### keywords -/
/-- the values of the keywords, from the left -/
def PK (X : Cx) (kws : List Keyword) (t : TA) : Prop :=
  ∀ (pos : Pos) (pins : List (Addr × Obj)) (s : Shared) (σ : St) (H : Hp) (Q : List V → Hp → Prop), Inv X pins σ H s → t σ H Q → wpAny (model X.prog X.w) X.A (evalAll ((backToKw pos (keywordEach kws X.env)).map (·.2))) (AP X pins σ Q) X.xe s
section
variable {X : Cx} {CX : CXT} {k : Nat} {f C : Addr} {fd : FuncData} {ps ks : List Str} {sp : Sp} {E : XK} {x m : Str} {p pos apos kpos : Pos} {e o : Expr} {es : List Expr} {kws : List Keyword} {te ta : TE} {t tk : TA} {nm : Option Str}
/-- how a call with keywords binds: g puts the positional values us and the keywords' values ws (names ks) in the parameters' order, defaults among them -/
structure KBinds (K : PySem.W.Frag) (fd : FuncData) (ps ks : List Str) (g : List Value → List Value → List Value) (gV : List V → List V → List V) : Prop where
  to : ∀ (s : Shared) (us ws : List Value), K.In s.heap → (g us ws).length = ps.length → BindsTo s fd ⟨us, ks.zip ws⟩ (ps.zip (g us ws))
  rel : ∀ {vs : List V} {us : List Value} {zs : List V} {ws : List Value}, Vals vs us → Vals zs ws → Vals (gV vs zs) (g us ws)
def tCallK (sp : Sp) (gV : List V → List V → List V) (E : XK) (t tk : TA) : TE := fun σ H Q => t σ H fun vs H1 => tk σ H1 fun zs H2 => sp (gV vs zs) H2 Q E
variable {g : List Value → List Value → List Value} {gV : List V → List V → List V}
end

/-! ### a def's body keeps its promise -/
/-- names: the parameters first -/
structure FnScope (N P : List Str) (sc : Scope) : Prop where
  kind : sc.kind = .function
  co : sc.isCoroutine = false
  gen : sc.isGenerator = false
  nd : N.Nodup
  pre : N.take P.length = P
  par : ∀ x ∈ P, sc.names.lookup x = some .local ∨ sc.names.lookup x = some .cell
  nofree : ∀ y ∈ sc.names, y.2 ≠ .free

theorem bindL_out {kindOf : Str → Option NameKind} {x : Str} : ∀ {binds : List (Str × Value)} {m : Str → Option Value}, (∀ v, (x, v) ∉ binds) → bindL kindOf binds m x = m x
  | [], _, _ => rfl
  | (n, v) :: r, m, h => by
    unfold bindL
    rw [bindL_out fun w hw => h w (List.mem_cons_of_mem _ hw)]
    split
    · have : x ≠ n := by rintro rfl; exact h v List.mem_cons_self
      simp [this]
    · rfl
theorem bindC_out {kindOf : Str → Option NameKind} {x : Str} : ∀ {binds : List (Str × Value)} {m : Str → Option Value}, (∀ v, (x, v) ∉ binds) → bindC kindOf binds m x = m x
  | [], _, _ => rfl
  | (n, v) :: r, m, h => by
    unfold bindC
    rw [bindC_out fun w hw => h w (List.mem_cons_of_mem _ hw)]
    split
    · rfl
    · have : x ≠ n := by rintro rfl; exact h v List.mem_cons_self
      simp [this]
theorem bindL_get {kindOf : Str → Option NameKind} {x : Str} {v : Value} : ∀ {P : List Str} {vs : List Value} {i : Nat} {m : Str → Option Value}, P.Nodup → P[i]? = some x → vs[i]? = some v → kindOf x = some .local →
    bindL kindOf (P.zip vs) m x = some v
  | [], _, _, _, _, h, _, _ => by simp at h
  | _ :: _, [], _, _, _, _, h, _ => by simp at h
  | p :: P, w :: vs, 0, m, nd, h1, h2, hk => by
    simp at h1 h2; subst h1; subst h2
    show bindL kindOf ((p, w) :: P.zip vs) m p = _
    unfold bindL
    rw [bindL_out fun v hv => (List.nodup_cons.mp nd).1 (List.of_mem_zip hv).1, if_pos hk]
    simp
  | p :: P, w :: vs, i + 1, m, nd, h1, h2, hk => by
    show bindL kindOf ((p, w) :: P.zip vs) m x = _
    unfold bindL
    exact bindL_get (i := i) (List.nodup_cons.mp nd).2 (by simpa using h1) (by simpa using h2) hk
theorem bindC_get {kindOf : Str → Option NameKind} {x : Str} {v : Value} : ∀ {P : List Str} {vs : List Value} {i : Nat} {m : Str → Option Value}, P.Nodup → P[i]? = some x → vs[i]? = some v → kindOf x ≠ some .local →
    bindC kindOf (P.zip vs) m x = some v
  | [], _, _, _, _, h, _, _ => by simp at h
  | _ :: _, [], _, _, _, _, h, _ => by simp at h
  | p :: P, w :: vs, 0, m, nd, h1, h2, hk => by
    simp at h1 h2; subst h1; subst h2
    show bindC kindOf ((p, w) :: P.zip vs) m p = _
    unfold bindC
    rw [bindC_out fun v hv => (List.nodup_cons.mp nd).1 (List.of_mem_zip hv).1, if_neg hk]
    simp
  | p :: P, w :: vs, i + 1, m, nd, h1, h2, hk => by
    show bindC kindOf ((p, w) :: P.zip vs) m x = _
    unfold bindC
    exact bindC_get (i := i) (List.nodup_cons.mp nd).2 (by simpa using h1) (by simpa using h2) hk

/-- the names' values at the entry -/
def start (N : List Str) (vs : List V) : St := vs.map some ++ List.replicate (N.length - vs.length) none

/-- the context of a def's body, at its entry; an exception leaves the frame, then lies as CX says -/
def cxOf (CX : CXT) (P : Program) (w : World) (K : PySem.W.Frag) (mg : Str → Option Value) (base : Heap) (N : List Str) (qual : Str) (scope : Scope) (f : Addr) (cd : Value) (A : Around) (outer : List Env) (s : Shared) (H : Hp) (E : XK) : Cx where
  prog := P
  w := w
  K := K
  mg := mg
  base := base
  A := A.deeper (envOfC qual scope s.heap.objs.size f cd)
  N := N
  s₀ := s
  H₀ := H
  env := envOfC qual scope s.heap.objs.size f cd
  outer := outer
  stack := envOfC qual scope s.heap.objs.size f cd :: outer
  ex := []
  calm := true
  fn := fun _ => true
  pn := []
  xe := fun e s' => wpAny (model P w) (A.deeper (envOfC qual scope s.heap.objs.size f cd)) (leaving (envOfC qual scope s.heap.objs.size f cd) e) (fun _ s'' => CX outer H s E e s'') (fun e' s'' => CX outer H s E e' s'') s'

theorem cell_has {sc : Scope} {n : Nat} {x : Str} (h : sc.names.lookup x = some .cell) : ∃ c, (cellsFrom n sc.names []).lookup x = some c := by
  have q := PySem.W.cellsFrom_some sc.names n [] (.inl h)
  exact Option.isSome_iff_exists.mp q

theorem inv_start {CX : CXT} {P : Program} {w : World} {K : PySem.W.Frag} {mg : Str → Option Value} {base : Heap} {N ps : List Str} {qual : Str} {scope : Scope} {f : Addr} {cd : Value} {A : Around} {outer : List Env} {s s1 : Shared} {H : Hp} {E : XK} {us : List Value} {vs : List V}
    (S : FnScope N ps scope) (hd : A.handled = none) (e0 : Env0 P w K mg base A outer s H) (hl : vs.length = ps.length) (r : Vals vs us)
    (x : InCallC s s.heap.objs.size (bindL (envOfC qual scope s.heap.objs.size f cd).kindOf (ps.zip us) fun _ => none) (cellsFrom (s.heap.objs.size + 1) scope.names []) (bindC (envOfC qual scope s.heap.objs.size f cd).kindOf (ps.zip us) fun _ => none) s1) :
    Inv (cxOf CX P w K mg base N qual scope f cd A outer s H E) [] (start N vs) H s1 := by
  have hpl : ps.length ≤ N.length := by have := congrArg List.length S.pre; rw [List.length_take] at this; omega
  obtain ⟨h1, tk, rfl, hk⟩ := x.done
  have noA : ∀ b : Addr, b ∉ (cxOf CX P w K mg base N qual scope f cd A outer s H E).ex := fun b z => absurd (show b ∈ ([] : List Addr) from z) (by simp)
  refine ⟨⟨e0.mod, S.kind, rfl, rfl, Nat.le_refl _, fun y z c h1 h2 => ?_, fun y hy => ?_, fun y c _ h => ?_, fun _ => hd, Around.frames_deeper e0.frames, .inr ⟨rfl, rfl⟩, fun b z => absurd z (noA b), e0.bs, e0.bsz, fun b _ _ => noA b, fun b z => absurd z (noA b), e0.funs, e0.frf⟩,
    rfl, e0.bare, Un.kept hk, ⟨_, x.toInCall.ns, fun i y v h1 h2 h3 => ?_⟩, fun y c h => ⟨_, x.cell y c h⟩, e0.hok.fresh (Nat.le_refl _), fun y c h => ?_, fun p hp => absurd (show p ∈ ([] : List (Addr × Obj)) from hp) (by simp), e0.hok.kept hk, ?_⟩
  · exact name_of_addr x.apart (PySem.mem_of_lookup h1) (PySem.mem_of_lookup h2)
  · have hy : scope.names.lookup y = some .cell ∨ scope.names.lookup y = some .free := hy
    rcases hy with hy | hy
    · exact cell_has hy
    · exact absurd rfl (S.nofree _ (PySem.mem_of_lookup hy))
  · exact Nat.le_of_lt (x.above y c (PySem.mem_of_lookup h))
  · have hi : i < vs.length := by
      unfold start at h2
      by_cases hi : i < vs.length
      · exact hi
      · rw [List.getElem?_append_right (by simpa using hi)] at h2
        rw [List.getElem?_replicate] at h2
        split at h2 <;> cases h2
    have ha : vs[i]? = some v := by
      unfold start at h2
      rw [List.getElem?_append_left (by simpa using hi), List.getElem?_map] at h2
      cases e : vs[i]? with
      | none => rw [e] at h2; cases h2
      | some a => rw [e] at h2; cases h2; rfl
    obtain ⟨u, hu, rv⟩ := r.get ha
    have hp : ps[i]? = some y := by
      rw [← S.pre, List.getElem?_take_of_lt (by omega)]; exact h1
    have ndP : ps.Nodup := by rw [← S.pre]; exact S.nd.sublist (List.take_sublist _ _)
    refine ⟨u, rv, ?_⟩
    rcases S.par y (List.mem_of_getElem? hp) with k | k
    · exact .inl ⟨k, bindL_get ndP hp hu k⟩
    · obtain ⟨c, e⟩ := cell_has (n := s.heap.objs.size + 1) k
      refine .inr ⟨.inl k, c, e, ?_⟩
      have q := x.cell y c e
      rw [bindC_get ndP hp hu (by show scope.names.lookup y ≠ _; rw [k]; decide)] at q
      exact q
  · exact e0.hok.fresh (Nat.le_of_lt (x.above y c (PySem.mem_of_lookup h)))
  · unfold start
    show _ = N.length
    rw [List.length_append, List.length_map, List.length_replicate]
    omega

/-- THE RULE: a def (or a method) of the text, by its body. The body's reading t is chosen for each entry; it is run at the parameters' values -/
theorem fn_of {CX : CXT} {P : Program} {w : World} {K : PySem.W.Frag} {mg : Str → Option Value} {base : Heap} {k : Nat} {f : Addr} {name qual : Str} {params : Arguments} {body : List Stmt} {scope : Scope} {dV kV doc pm cdv ct oc : Value} {an od : Option Addr}
    {osl : Array (Option Value)} {N ps : List Str} {sp : Sp} (lk : K.lookup f = some ⟨oc, od, .func (PySem.W.fnOf name qual params body scope dV kV doc pm an cdv ct), osl⟩) (hcd : PySem.W.codeIn K cdv qual = true) (S : FnScope N ps scope)
    (len : ∀ vs H Q E, sp vs H Q E → vs.length = ps.length)
    (hbody : ∀ (A : Around) (outer : List Env) (s : Shared) (H : Hp) (vs : List V) (Q : VK) (E : XK), Room k (A.deeper (envOfC qual scope s.heap.objs.size f cdv)) → sp vs H Q E →
      ∃ t, PSs (cxOf CX P w K mg base N qual scope f cdv A outer s H E) body t ∧ t { nx := fun _ H' => Q .non H', rt := Q } (start N vs) H) :
    FnOk P w K mg base CX (k + 1) f (PySem.W.fnOf name qual params body scope dV kV doc pm an cdv ct) ps sp := by
  refine ⟨len, fun A outer s H args us vs Q E hr e0 hb r hsp => ?_⟩
  have hl := len _ _ _ _ hsp
  have KX : K.In s.heap := e0.mod.kin.keeps fun b o e => (e0.bs b o e).1
  have lim : s.heap.NoLimit := e0.mod.nolimit.keeps fun b o e => (e0.bs b o e).1
  have hkind : ∀ y ∈ ps.zip us, scope.names.lookup y.1 = some .local ∨ (scope.names.lookup y.1 = some .cell ∧ ((cellsFrom (s.heap.objs.size + 1) scope.names []).lookup y.1).isSome = true) := fun ⟨n, v⟩ hy => by
    rcases S.par n (List.of_mem_zip hy).1 with q | q
    · exact .inl q
    · exact .inr ⟨q, PySem.W.cellsFrom_some _ _ _ (.inl q)⟩
  refine codeAny_call_function hr.depth (KX _ _ lk) rfl S.co S.gen rfl (PySem.W.codeRec_of KX hcd) (hb _ _ _ _ ?_)
  refine wpAny_newFunctionEnv_cells S.kind hkind fun env he s1 x => ?_
  subst he
  refine ⟨lim.keeps x.toInCall.keep, codeAny_func ?_⟩
  obtain ⟨t, ht, hq⟩ := hbody A outer s H vs Q E (hr.deeper _) hsp
  have I : Inv (cxOf CX P w K mg base N qual scope f cdv A outer s H E) [] (start N vs) H s1 := inv_start S hr.hd e0 hl r x
  refine wpAny_mono (ht [] s1 (start N vs) H _ I hq) (fun fl s' hs => ?_) fun e s' hs => hs
  have fin : ∀ {σ' : St} {H' : Hp} {v : V} {u : Value}, Inv (cxOf CX P w K mg base N qual scope f cdv A outer s H E) [] σ' H' s' → RelV v u → Q v H' → CE outer P w H s Q u s' :=
    fun {σ' H' v u} J rv q => ⟨v, H', J.os, J.bare, J.base, J.hok, rv, q⟩
  cases fl with
  | ret u =>
    obtain ⟨v, σ', H', J, rv, q⟩ := hs
    exact fin J rv q
  | next =>
    obtain ⟨σ', H', J, q⟩ := hs
    exact fin (v := V.non) (u := Value.none) J rfl q
  | brk =>
    obtain ⟨_, _, _, q⟩ := hs
    exact False.elim q
  | cont =>
    obtain ⟨_, _, _, q⟩ := hs
    exact False.elim q
end L2

namespace L2
open PySem PySem.Spec PyProof.Rows
section
variable {X : Cx} {x : Str} {p pos : Pos} {e : Expr} {es : List Expr} {t : TA} {id T : String} {r : List V → Hp → VK → Prop}

def tCB (r : List V → Hp → VK → Prop) (t : TA) : TE := fun σ H Q => t σ H fun vs H1 => r vs H1 Q
/-- f(e, ..), f a built-in function -/
theorem pe_callB (hc : CallR X (.builtin id) r) (hg : Gl X x) (hm : X.mg x = none) (hv : bootBuiltins x = some (.builtin id)) (ha : PA X (e :: es) t) (hn : x ≠ "__name__" := by decide) (hdb : (x == ("__debug__" : Str)) = false := by decide)
    (he : starEach (e :: es) X.env = (false, eval e X.env) :: starEach es X.env := by rfl) (hpl : (backTo pos (starEach es X.env)).any (·.1) = false := by rfl) : PE X (.Call (.Name x p) (e :: es) [] pos) (tCB r t) := by
  intro pins s σ H Q I h
  refine wpAny_Call_Name_kw (ld_blt I hg hm hv ?_ hn hdb)
  exact PyProof.Rows.callWith_builtin1 (thn (ha pos pins s σ H _ I h) fun us s1 ⟨vs, H1, I1, r1, q1⟩ => hc pins s1 σ H1 vs us Q I1 r1 q1) he hpl
/-- T(e, ..), T a built-in type -/
theorem pe_callTy (hc : CallR X (.type T) r) (hg : Gl X x) (hm : X.mg x = none) (hv : bootBuiltins x = some (.type T)) (ha : PA X (e :: es) t) (hn : x ≠ "__name__" := by decide) (hdb : (x == ("__debug__" : Str)) = false := by decide)
    (he : starEach (e :: es) X.env = (false, eval e X.env) :: starEach es X.env := by rfl) (hpl : (backTo pos (starEach es X.env)).any (·.1) = false := by rfl) : PE X (.Call (.Name x p) (e :: es) [] pos) (tCB r t) := by
  intro pins s σ H Q I h
  refine wpAny_Call_Name_kw (ld_blt I hg hm hv ?_ hn hdb)
  exact PyProof.Rows.callWith_type1 (thn (ha pos pins s σ H _ I h) fun us s1 ⟨vs, H1, I1, r1, q1⟩ => hc pins s1 σ H1 vs us Q I1 r1 q1) he hpl
end
end L2

namespace HT
open PySem PyProof.Rows

/-- t < u of tuples of ints -/
def lexLt : List Int → List Int → Bool
  | [], [] => false
  | [], _ :: _ => true
  | _ :: _, [] => false
  | x :: xs, y :: ys => if x = y then lexLt xs ys else decide (x < y)
section
open PySem.SeqAt
open PySem.AutoSeq1 (wpAny_loadPart')
open PySem.MeetsSeq PySem.MeetsSeq2 PySem.MeetsSeq3

end

section
variable {prog : Program} {w : World} {A : Around} {E : Value → Shared → Prop} {s : Shared}

/-! ### t[a:b], not the whole -/
/-- a slice's bound as a place among n (d where it is left out) -/
def sIx (n d : Nat) : Option Int → Nat
  | none => d
  | some v => if v < 0 then (v + (n : Int)).toNat else min v.toNat n
theorem sIx_none (n d : Nat) : sIx n d none = d := rfl
theorem sIx_nat (n d k : Nat) : sIx n d (some (k : Int)) = min k n := by
  show (if (k : Int) < 0 then ((k : Int) + (n : Int)).toNat else min (k : Int).toNat n) = min k n
  rw [if_neg (by omega), Int.toNat_natCast]
theorem sIx_le (n d : Nat) (hd : d ≤ n) (o : Option Int) : sIx n d o ≤ n := by
  cases o with
  | none => exact hd
  | some v =>
    show (if v < 0 then (v + (n : Int)).toNat else min v.toNat n) ≤ n
    by_cases hv : v < 0
    · rw [if_pos hv]; omega
    · rw [if_neg hv]; exact Nat.min_le_right _ _
theorem clip_eq (v : Int) (n d : Nat) : (if v < 0 then max (v + (n : Int)) 0 else min v (n : Int)) = ((sIx n d (some v) : Nat) : Int) := by
  show (if v < 0 then max (v + (n : Int)) 0 else min v (n : Int)) = (((if v < 0 then (v + (n : Int)).toNat else min v.toNat n) : Nat) : Int)
  by_cases hv : v < 0
  · simp only [if_pos hv]; omega
  · simp only [if_neg hv]; omega
end
end HT

namespace L2
open PySem PySem.Spec PyProof.Rows

/-! ### the parts of a slice -/
abbrev TO := St → Hp → (Option Int → Hp → Prop) → Prop
/-- a slice's part (left out, or an int) -/
def PO (X : Cx) (e : Option Expr) (t : TO) : Prop :=
  ∀ (pins : List (Addr × Obj)) (s : Shared) (σ : St) (H : Hp) (Q : Option Int → Hp → Prop), Inv X pins σ H s → t σ H Q →
    wpAny (model X.prog X.w) X.A (evalPart e X.env) (fun u s' => ∃ o H', Inv X pins σ H' s' ∧ IsPart u o ∧ Q o H') X.xe s
def tNoPart : TO := fun _ H Q => Q none H
def tPart (t : TE) : TO := fun σ H Q => t σ H fun x H1 => ∃ i, x = .int i ∧ Q (some i) H1

theorem intsAre_of {ns : List Int} : ∀ {us : List Value}, Vals (ns.map V.int) us → IntsAre us ns := by
  induction ns with
  | nil => intro us r; rw [List.map_nil] at r; cases r; exact .nil
  | cons n ns ih =>
    intro us r
    rw [List.map_cons] at r
    cases r with
    | cons r1 r2 =>
      obtain ⟨t, e⟩ := r1
      subst e
      exact .cons n t (ih r2)

section
variable {X : Cx} {e : Expr} {te : TE} {lo hi : Option Expr} {tl th : TO} {pos p2 : Pos}

theorem po_none : PO X none tNoPart := by
  intro pins s σ H Q I h
  rw [evalPart_none]
  exact wpAny_pure ⟨none, H, I, .none, h⟩
theorem po_some (h : PE X e te) : PO X (some e) (tPart te) := by
  intro pins s σ H Q I hw
  rw [evalPart_some]
  refine thn (h pins s σ H _ I hw) fun u s1 ⟨x, H1, I1, r1, q1⟩ => ?_
  obtain ⟨i, rfl, q⟩ := q1
  obtain ⟨t, rfl⟩ := r1
  exact ⟨some i, H1, I1, .int i t, q⟩

/-- what a slice of a value is, by values: the slice object stands at sl -/
def SlR (X : Cx) (r : V → Option Int → Option Int → Hp → VK → Prop) : Prop :=
  ∀ (pins : List (Addr × Obj)) (s : Shared) (σ : St) (H : Hp) (x : V) (v vl vu : Value) (lo hi : Option Int) (sl : Addr) (Q : VK), Inv X pins σ H s → RelV x v → s.heap.IsSliceOf sl vl vu .none → IsPart vl lo → IsPart vu hi → r x lo hi H Q →
    ∃ T id, typeLookup (.type T) "__getitem__" = pure (some (.builtin id)) ∧ s.TypeIs v T ∧ wpAny (model X.prog X.w) X.A (getItem v (.ref sl)) (EP X pins σ Q) X.xe s
def tSl (r : V → Option Int → Option Int → Hp → VK → Prop) (te : TE) (tl th : TO) : TE := fun σ H Q => te σ H fun x H1 => tl σ H1 fun l H2 => th σ H2 fun u H3 => r x l u H3 Q
/-- a[lo:hi], any a -/
theorem pe_slice {r : V → Option Int → Option Int → Hp → VK → Prop} (hr : SlR X r) (he : PE X e te) (hl : PO X lo tl) (hu : PO X hi th) : PE X (.Subscript e (.Slice lo hi none p2) pos) (tSl r te tl th) := by
  intro pins s σ H Q I h
  refine Subscript_ (thn (he pins s σ H _ I h) fun v s1 ⟨x, H1, I1, r1, q1⟩ => ?_)
  refine wpAny_Slice (thn (hl pins s1 σ H1 _ I1 q1) fun vl s2 ⟨l, H2, I2, pl, q2⟩ => thn (hu pins s2 σ H2 _ I2 q2) fun vu s3 ⟨u, H3, I3, pu, q3⟩ => ?_)
  rw [evalPart_none]
  refine wpAny_pure ?_
  have I4 : Inv X pins σ H3 { s3 with heap := s3.heap.push { cls := .type "slice", data := .fields #[vl, vu, .none] } } := I3.kept (t' := s3.toks) fun b ob q => Heap.get?_push_of_some _ q
  obtain ⟨T, id, hT, ht, hg⟩ := hr pins { s3 with heap := s3.heap.push { cls := .type "slice", data := .fields #[vl, vu, .none] } } σ H3 x v vl vu l u s3.heap.objs.size Q I4 r1 (Heap.IsSliceOf.new ..) pl pu q3
  show wpAny (model X.prog X.w) X.A (subscriptTail e (.Slice lo hi none p2) v (.ref s3.heap.objs.size)) (EP X pins σ Q) X.xe { s3 with heap := s3.heap.push { cls := .type "slice", data := .fields #[vl, vu, .none] } }
  exact tail_any (ops := [.ref s3.heap.objs.size, v]) ht hT hg (by with_unfolding_all rfl)

/-- the items of xs[lo:hi] -/
def cutV (xs : List V) (lo hi : Option Int) : List V := (xs.drop (HT.sIx xs.length 0 lo)).take (HT.sIx xs.length xs.length hi - HT.sIx xs.length 0 lo)
theorem cutV_length (xs : List V) (lo hi : Option Int) : (cutV xs lo hi).length ≤ xs.length := by
  unfold cutV
  rw [List.length_take, List.length_drop]
  omega
/-- t[lo:hi], not the whole of it (the whole would be t itself) -/
def rSlT (K : PySem.W.Frag) : V → Option Int → Option Int → Hp → VK → Prop := fun x lo hi H Q => ∃ a xs, x = .ref a ∧ SqT K H a xs ∧
  ¬ (HT.sIx xs.length 0 lo = 0 ∧ HT.sIx xs.length xs.length hi = xs.length) ∧ ∀ p, H p = none → Q (.ref p) (upd H p (.tup (cutV xs lo hi)))
/-! ### t < u, t + u -/
def rLtT (K : PySem.W.Frag) : R2 := fun x y H Q => ∃ a b ns ms, x = .ref a ∧ y = .ref b ∧ SqT K H a (ns.map V.int) ∧ SqT K H b (ms.map V.int) ∧ Q (.bl (HT.lexLt ns ms)) H
/-- t + u, t not empty: u empty gives t itself -/
def rCatT (K : PySem.W.Frag) : R2 := fun x y H Q => ∃ a b xs ys, x = .ref a ∧ y = .ref b ∧ SqT K H a xs ∧ SqT K H b ys ∧ xs ≠ [] ∧ xs.length + ys.length ≤ sizeLine ∧
  (ys = [] → Q (.ref a) H) ∧ (ys ≠ [] → ∀ p, H p = none → Q (.ref p) (upd H p (.tup (xs ++ ys))))
end
end L2

namespace L2
open PySem PySem.Spec PyProof.Rows

/-! ### places -/
/-- the place that an index of any sign means -/
def ixN (n : Nat) (i : Int) : Option Nat := if 0 ≤ i then (if i < n then some i.toNat else none) else if -(n : Int) ≤ i then some (i + n).toNat else none
def atI {α : Type} (xs : List α) (i : Int) : Option α := (ixN xs.length i).bind fun j => xs[j]?
theorem ixN_seq {n : Nat} {i : Int} {j : Nat} (h : ixN n i = some j) : seqIndex? i n = some j ∧ j < n ∧ -(n : Int) ≤ i ∧ i < n := by
  unfold ixN at h
  by_cases h0 : 0 ≤ i
  · rw [if_pos h0] at h
    by_cases h1 : i < n
    · rw [if_pos h1] at h
      have e : i.toNat = j := Option.some.inj h
      exact ⟨by rw [seqIndex_of h0 h1, e], by omega, by omega, h1⟩
    · rw [if_neg h1] at h; cases h
  · rw [if_neg h0] at h
    by_cases h1 : -(n : Int) ≤ i
    · rw [if_pos h1] at h
      have e : (i + n).toNat = j := Option.some.inj h
      exact ⟨by rw [seqIndex_neg (by omega) h1, e], by omega, h1, by omega⟩
    · rw [if_neg h1] at h; cases h
theorem atI_get {α : Type} {xs : List α} {i : Int} {v : α} (h : atI xs i = some v) : ∃ j, seqIndex? i xs.length = some j ∧ xs[j]? = some v ∧ j < xs.length ∧ -(xs.length : Int) ≤ i ∧ i < xs.length := by
  unfold atI at h
  cases e : ixN xs.length i with
  | none => rw [e] at h; cases h
  | some j =>
    rw [e] at h
    obtain ⟨h1, h2, h3, h4⟩ := ixN_seq e
    exact ⟨j, h1, h, h2, h3, h4⟩
theorem atI_nat {α : Type} {xs : List α} {j : Nat} {v : α} (h : xs[j]? = some v) : atI xs (j : Int) = some v := by
  have hj : j < xs.length := (List.getElem?_eq_some_iff.mp h).1
  have e : ixN xs.length (j : Int) = some j := by
    unfold ixN
    rw [if_pos (by omega), if_pos (by omega)]; simp
  unfold atI; rw [e]; exact h
/-! ### what may be subscripted -/
/-- what stands as an index of a plain subscript -/
def PlainIx (b : Expr) : Prop := ∀ o i, subscripted b false o i = operate [o, i] (getItem o i)
/-- a subscript by values -/
def IxR (X : Cx) (r : R2) : Prop :=
  ∀ (value slice : Expr) (pins : List (Addr × Obj)) (s : Shared) (σ : St) (H : Hp) (x y : V) (v u : Value) (Q : VK), Inv X pins σ H s → RelV x v → RelV y u → r x y H Q →
    subscripted slice false v u = operate [v, u] (getItem v u) → wpAny (model X.prog X.w) X.A (subscriptTail value slice v u) (EP X pins σ Q) X.xe s
/-- a call of a builtin's method by values: the receiver, the arguments -/
def MtR (X : Cx) (id : String) (r : V → List V → Hp → VK → Prop) : Prop :=
  ∀ (pins : List (Addr × Obj)) (s : Shared) (σ : St) (H : Hp) (x : V) (xs : List V) (v : Value) (us : List Value) (Q : VK), Inv X pins σ H s → RelV x v → Vals xs us → r x xs H Q →
    wpAny (model X.prog X.w) X.A (call (.builtin id) (v :: us)) (EP X pins σ Q) X.xe s
section
variable {X : Cx} {a b : Expr} {ta tb : TE} {pos : Pos}
/-- a[b] -/
theorem pe_ix {r : R2} (hr : IxR X r) (ha : PE X a ta) (hb : PE X b tb) (hs : PlainIx b) : PE X (.Subscript a b pos) (tOp r ta tb) := by
  intro pins s σ H Q I h
  exact Subscript_ (binT ha hb I h fun v u s2 x y H2 I2 rx ry q => hr a b pins s2 σ H2 x y v u Q I2 rx ry q (hs _ _))

def rIxL (K : PySem.W.Frag) : R2 := fun x y H Q => ∃ p xs i v, x = .ref p ∧ y = .int i ∧ SqL K H p xs ∧ atI xs i = some v ∧ Q v H
def rIxT (K : PySem.W.Frag) : R2 := fun x y H Q => ∃ p xs i v, x = .ref p ∧ y = .int i ∧ SqT K H p xs ∧ atI xs i = some v ∧ Q v H
def rIxS : R2 := fun x y H Q => ∃ z i c, x = .str z ∧ y = .int i ∧ z.length ≤ sizeLine ∧ atI z.cps.toList i = some c ∧ Q (.str ⟨#[c]⟩) H
theorem ix_list : IxR X (rIxL X.K) := by
  intro value slice pins s σ H x y v u Q I rx ry h hs
  obtain ⟨p, xs, i, z, rfl, rfl, hq, he, q⟩ := h
  cases rx
  obtain ⟨t, rfl⟩ := ry
  obtain ⟨its, r, pl, hz⟩ := I.list hq
  obtain ⟨j, h1, h2, h3, h4, h5⟩ := atI_get he
  obtain ⟨w, ew, rw'⟩ := r.get h2
  have hl := r.length
  have hn := line63
  have fin : EP X pins σ Q w s := ⟨z, H, I, rw', q⟩
  by_cases h0 : 0 ≤ i
  · have hj : i.toNat = j := by
      rw [seqIndex_of h0 h5] at h1
      exact Option.some.inj h1
    exact item_listR pl.isList h0 (by omega) (by rw [hj]; simpa using ew) fin hs
  · have hj : (i + (its.toArray.size : Int)).toNat = j := by
      rw [seqIndex_neg (by omega) h4] at h1
      rw [List.size_toArray, ← hl]
      exact Option.some.inj h1
    exact subscriptTail_builtinR (x := w) pl.isList.typeIs slot_list_getitem.lookup
      (wpAny_getItem_list_neg (Q := fun r s' => r = w ∧ EP X pins σ Q r s') pl.isList (by omega) (by rw [List.size_toArray] <;> omega) (by omega) (by rw [hj]; simpa using ew) ⟨rfl, fin⟩) hs
theorem ix_str : IxR X rIxS := by
  intro value slice pins s σ H x y v u Q I rx ry h hs
  obtain ⟨z, i, c, rfl, rfl, hz, he, q⟩ := h
  obtain ⟨t, rfl⟩ := rx
  obtain ⟨t', rfl⟩ := ry
  obtain ⟨j, h1, h2, h3, h4, h5⟩ := atI_get he
  have hl : z.cps.toList.length = z.length := by simp [Str.length]
  rw [hl] at h1 h4 h5
  have hn := line63
  exact tail_any (typeIs_str s z t) slot_str_getitem.lookup (getItem_str (c := c) (by
    have e1 : decide (i < -(2 ^ 63 : Int)) = false := decide_eq_false (by omega)
    have e2 : decide (i ≥ 2 ^ 63) = false := decide_eq_false (by omega)
    rw [e1, e2, Bool.or_false]) (by rw [h1]; simpa using h2) ⟨.str ⟨#[c]⟩, H, I.tok _, ⟨_, rfl⟩, q⟩) hs
/-- list, tuple or str -/
def rIx (K : PySem.W.Frag) : R2 := fun x y H Q => rIxL K x y H Q ∨ rIxT K x y H Q ∨ rIxS x y H Q
/-! ### xs[i] = v, any sign -/
/-- the list's object behind a store -/
theorem mapSeq_set (its : List Value) (n j : Nat) (u : Value) : Obj.mapSeq (·.setIfInBounds j u) { cls := .type "list", data := .seq its.toArray n } = { cls := .type "list", data := .seq (its.set j u).toArray n } := by
  simp [Obj.mapSeq]
theorem Inv.lst {pins : List (Addr × Obj)} {σ : St} {H : Hp} {s : Shared} {p : Addr} {xs : List V} (I : Inv X pins σ H s) (h : H p = some (.lst xs)) :
    ∃ (its : List Value) (n : Nat), Vals xs its ∧ s.heap.get? p = some { cls := .type "list", data := .seq its.toArray n } ∧ xs.length ≤ sizeLine := by
  obtain ⟨z, its, n, r, e⟩ := I.hok p _ h
  exact ⟨its, n, r, e, z⟩
/-- the list at p is written by an update of its object -/
theorem Inv.lstUpd {pins : List (Addr × Obj)} {σ : St} {H : Hp} {s : Shared} {p : Addr} {xs ys : List V} {its its' : List Value} {n n' : Nat} {f : Obj → Obj} (I : Inv X pins σ H s) (h : H p = some (.lst xs))
    (ho : s.heap.get? p = some { cls := .type "list", data := .seq its.toArray n }) (hf : f { cls := .type "list", data := .seq its.toArray n } = { cls := .type "list", data := .seq its'.toArray n' }) (r : Vals ys its') (hz : ys.length ≤ sizeLine) (t : Nat) :
    Inv X pins σ (upd H p (.lst ys)) { s with heap := s.heap.update p f, toks := t } := by
  have e : (s.heap.update p f).get? p = some { cls := .type "list", data := .seq its'.toArray n' } := by
    rw [Heap.get?_update_self f ho (by rw [hf] <;> rfl), hf]
  refine I.write (x := p) (e := p) (by rw [h]; trivial) (.inl rfl) (fun b u hb q => (Heap.get?_update_other _ _ (Ne.symm hb)).trans q) ⟨_, e⟩ ?_
  exact ⟨hz, its', n', r, e⟩
def rSetL : V → V → V → Hp → (Hp → Prop) → Prop := fun o i v H Q => ∃ p xs k j, o = .ref p ∧ i = .int k ∧ H p = some (.lst xs) ∧ ixN xs.length k = some j ∧ Q (upd H p (.lst (xs.set j v)))
theorem set_list : PSet X rSetL := by
  intro pins s σ H o i v ov iv u Q I ro ri rv h
  obtain ⟨p, xs, k, j, rfl, rfl, hp, hj, q⟩ := h
  cases ro
  obtain ⟨t, rfl⟩ := ri
  obtain ⟨its, n, r, ho, hz⟩ := I.lst hp
  obtain ⟨h1, h2, h3, h4⟩ := ixN_seq hj
  have hl := r.length
  have hn := line63
  have I' : Inv X pins σ (upd H p (.lst (xs.set j v))) { s with heap := s.heap.update p (Obj.mapSeq (·.setIfInBounds j u)) } :=
    I.lstUpd hp ho (mapSeq_set its n j u) (r.set rv j) (by rw [List.length_set]; exact hz) s.toks
  by_cases h0 : 0 ≤ k
  · have hk : k.toNat = j := by
      rw [seqIndex_of h0 h4] at h1
      exact Option.some.inj h1
    exact PySem.W.ki_setAt ho h0 (by omega) (by rw [List.size_toArray, ← hl]; exact h4) (by rw [hk]; exact ⟨_, I', q⟩)
  · have hk : (k + (its.toArray.size : Int)).toNat = j := by
      rw [seqIndex_neg (by omega) h3] at h1
      rw [List.size_toArray, ← hl]
      exact Option.some.inj h1
    exact PySem.W.ki_setBack ho (by omega) (by rw [List.size_toArray, ← hl]; exact h3) (by omega) (by rw [hk]; exact ⟨_, I', q⟩)

/-! ### slices -/
theorem slice_bounds (lo hi : Option Int) (n : Nat) : (sliceBounds lo hi none n).1 = ((HT.sIx n 0 lo : Nat) : Int) ∧ (sliceBounds lo hi none n).2.1 = ((HT.sIx n n hi : Nat) : Int) ∧ (sliceBounds lo hi none n).2.2 = 1 := by
  refine ⟨?_, ?_, rfl⟩
  · cases lo with
    | none => simp [sliceBounds, HT.sIx]
    | some i =>
      simp only [sliceBounds, HT.sIx, Option.getD_none, show (1 : Int) > 0 by decide, if_true]
      by_cases h : i < 0
      · simp only [h, if_true] <;> omega
      · simp only [h, if_false] <;> omega
  · cases hi with
    | none => simp [sliceBounds, HT.sIx]
    | some i =>
      simp only [sliceBounds, HT.sIx, Option.getD_none, show (1 : Int) > 0 by decide, if_true]
      by_cases h : i < 0
      · simp only [h, if_true] <;> omega
      · simp only [h, if_false] <;> omega
theorem slicePick_cut (its : List Value) (lo hi : Option Int) : slicePick its.toArray lo hi none = ((its.drop (HT.sIx its.length 0 lo)).take (HT.sIx its.length its.length hi - HT.sIx its.length 0 lo)).toArray := by
  obtain ⟨h1, h2, h3⟩ := slice_bounds lo hi its.toArray.size
  unfold slicePick
  rw [h1, h2, h3]
  simp only [sliceRange_one, pick_run, List.size_toArray] <;> rfl
/-- xs[lo:hi] of a list: a new list -/
def rSlL (K : PySem.W.Frag) : V → Option Int → Option Int → Hp → VK → Prop := fun x lo hi H Q => ∃ a xs, x = .ref a ∧ SqL K H a xs ∧ ∀ p, H p = none → Q (.ref p) (upd H p (.lst (cutV xs lo hi)))
theorem sl_list : SlR X (rSlL X.K) := by
  intro pins s σ H x v vl vu lo hi sl Q I rx hs pl pu h
  obtain ⟨a, xs, rfl, hx, q⟩ := h
  cases rx
  obtain ⟨its, r, ht, hz⟩ := I.list hx
  have hlen := r.length
  refine ⟨"list", _, slot_list_getitem.lookup, ht.isList.typeIs, ?_⟩
  refine wpAny_getItem_list_slice ht.isList hs pl pu .none (by simp) ?_ (by rw [List.size_toArray] <;> omega)
  rw [slicePick_cut, ← hlen]
  refine ⟨.ref s.heap.objs.size, _, I.laid (t' := s.toks) (o := .lst (cutV xs lo hi)) (fun b ob q => Heap.get?_push_of_some _ q) (Nat.le_refl _) ?_, rfl, q _ (I.hok.fresh (Nat.le_refl _))⟩
  exact ⟨Nat.le_trans (cutV_length xs lo hi) hz, _, 0, (r.drop (HT.sIx xs.length 0 lo)).take (HT.sIx xs.length xs.length hi - HT.sIx xs.length 0 lo), Heap.get?_push_size _ rfl⟩

/-! ### in, not in: flat items -/
def flatV : V → Bool
  | .non => true
  | .bl _ => true
  | .int _ => true
  | .str _ => true
  | _ => false
/-- == of flat values -/
def eqV : V → V → Bool
  | .non, .non => true
  | .bl a, .bl b => a == b
  | .bl a, .int b => (if a then 1 else 0) == b
  | .int a, .bl b => a == (if b then 1 else 0)
  | .int a, .int b => a == b
  | .str a, .str b => a == b
  | _, _ => false
theorem eqAt_V {A : Around} {s : Shared} {y x : V} {u v : Value} (ry : RelV y u) (rx : RelV x v) (fy : flatV y = true) (fx : flatV x = true) : SeqAt.EqAt A s u v (eqV y x) := by
  cases y with
  | non =>
    cases ry
    cases x with
    | non => cases rx; exact SeqAt.EqAt.same _
    | bl b => cases rx; exact SeqAt.EqAt.none_bool b
    | int b => obtain ⟨t, rfl⟩ := rx; exact SeqAt.EqAt.none_int b t
    | str b => obtain ⟨t, rfl⟩ := rx; exact SeqAt.EqAt.none_str b t
    | _ => exact absurd (show false = true from fx) Bool.false_ne_true
  | bl a =>
    cases ry
    cases x with
    | non => cases rx; exact SeqAt.EqAt.bool_none a
    | bl b => cases rx; exact SeqAt.EqAt.bool_bool a b
    | int b => obtain ⟨t, rfl⟩ := rx; exact SeqAt.EqAt.bool_int a b t
    | str b => obtain ⟨t, rfl⟩ := rx; exact SeqAt.EqAt.bool_str a b t
    | _ => exact absurd (show false = true from fx) Bool.false_ne_true
  | int a =>
    obtain ⟨t', rfl⟩ := ry
    cases x with
    | non => cases rx; exact SeqAt.EqAt.int_none a t'
    | bl b => cases rx; exact SeqAt.EqAt.int_bool a t' b
    | int b => obtain ⟨t, rfl⟩ := rx; exact SeqAt.EqAt.int_int a t' b t
    | str b => obtain ⟨t, rfl⟩ := rx; exact SeqAt.EqAt.int_str a t' b t
    | _ => exact absurd (show false = true from fx) Bool.false_ne_true
  | str a =>
    obtain ⟨t', rfl⟩ := ry
    cases x with
    | non => cases rx; exact SeqAt.EqAt.str_none a t'
    | bl b => cases rx; exact SeqAt.EqAt.str_bool a t' b
    | int b => obtain ⟨t, rfl⟩ := rx; exact SeqAt.EqAt.str_int a t' b t
    | str b => obtain ⟨t, rfl⟩ := rx; exact SeqAt.EqAt.str_str a t' b t
    | _ => exact absurd (show false = true from fx) Bool.false_ne_true
  | _ => exact absurd (show false = true from fy) Bool.false_ne_true
/-- the items' answers, read off the values (a value's own answer does not lean on its token) -/
def eqU (x : V) (u : Value) : Bool := match u with
  | .none => eqV .non x
  | .bool b => eqV (.bl b) x
  | .int i _ => eqV (.int i) x
  | .str z _ => eqV (.str z) x
  | _ => false
theorem eqU_of {x y : V} {u : Value} (r : RelV y u) (f : flatV y = true) : eqU x u = eqV y x := by
  cases y with
  | non => cases r; rfl
  | bl b => cases r; rfl
  | int i => obtain ⟨t, rfl⟩ := r; rfl
  | str z => obtain ⟨t, rfl⟩ := r; rfl
  | _ => exact absurd (show false = true from f) Bool.false_ne_true
theorem any_eqU {x : V} : ∀ {xs : List V} {us : List Value}, Vals xs us → xs.all flatV = true → us.any (eqU x) = xs.any fun y => eqV y x
  | _, _, .nil, _ => rfl
  | y :: xs, u :: us, .cons r t, f => by
    rw [List.all_cons, Bool.and_eq_true] at f
    rw [List.any_cons, List.any_cons, eqU_of r f.1, any_eqU t f.2]
theorem mem_eqAt {A : Around} {s : Shared} {x : V} {v : Value} (rx : RelV x v) (fx : flatV x = true) : ∀ {xs : List V} {us : List Value}, Vals xs us → xs.all flatV = true → ∀ u ∈ us, SeqAt.EqAt A s u v (eqU x u)
  | _, _, .nil, _ => fun u hu => by cases hu
  | y :: xs, u :: us, .cons r t, f => fun u' hu => by
    rw [List.all_cons, Bool.and_eq_true] at f
    rcases List.mem_cons.mp hu with rfl | hu
    · rw [eqU_of r f.1]; exact eqAt_V r rx f.1 fx
    · exact mem_eqAt rx fx t f.2 u' hu
def inV (x : V) (xs : List V) : Bool := xs.any fun y => eqV y x
/-- x in a list or tuple of flat items -/
def rIn (K : PySem.W.Frag) (neg : Bool) : R2 := fun x y H Q => ∃ p xs, y = .ref p ∧ (SqL K H p xs ∨ SqT K H p xs) ∧ flatV x = true ∧ xs.all flatV = true ∧ Q (.bl (if neg then !inV x xs else inV x xs)) H
theorem op_in_seq : OpR X (compareOp .In) (rIn X.K false) := by
  intro pins s σ H x y v u Q I rx ry h
  obtain ⟨p, xs, rfl, hq, fx, fs, q⟩ := h
  cases ry
  rcases hq with hq | hq
  · obtain ⟨its, r, pl, hz⟩ := I.list hq
    refine SeqAt.in_listAt (eqU x) pl.isList (fun w hw => mem_eqAt rx fx r fs w (by simpa using hw)) ⟨.bl _, H, I, rfl, ?_⟩
    rw [show its.toArray.any (eqU x) = its.any (eqU x) by simp, any_eqU r fs]
    exact q
  · obtain ⟨its, r, pl, hz⟩ := I.tuple hq
    refine SeqAt.in_tupleAt (eqU x) pl (fun w hw => mem_eqAt rx fx r fs w (by simpa using hw)) ⟨.bl _, H, I, rfl, ?_⟩
    rw [show its.toArray.any (eqU x) = its.any (eqU x) by simp, any_eqU r fs]
    exact q
theorem op_notIn_seq : OpR X (compareOp .NotIn) (rIn X.K true) := by
  intro pins s σ H x y v u Q I rx ry h
  obtain ⟨p, xs, rfl, hq, fx, fs, q⟩ := h
  cases ry
  rcases hq with hq | hq
  · obtain ⟨its, r, pl, hz⟩ := I.list hq
    refine SeqAt.notIn_listAt (eqU x) pl.isList (fun w hw => mem_eqAt rx fx r fs w (by simpa using hw)) ⟨.bl _, H, I, rfl, ?_⟩
    rw [show its.toArray.any (eqU x) = its.any (eqU x) by simp, any_eqU r fs]
    exact q
  · obtain ⟨its, r, pl, hz⟩ := I.tuple hq
    refine SeqAt.notIn_tupleAt (eqU x) pl (fun w hw => mem_eqAt rx fx r fs w (by simpa using hw)) ⟨.bl _, H, I, rfl, ?_⟩
    rw [show its.toArray.any (eqU x) = its.any (eqU x) by simp, any_eqU r fs]
    exact q
/-! ### len, list(x), tuple(x) of any list or tuple that is read -/
theorem call_len_seq : CallR X (.builtin "len") (fun xs H Q => ∃ p ys, xs = [.ref p] ∧ (SqL X.K H p ys ∨ SqT X.K H p ys) ∧ Q (.int ys.length) H) := by
  intro pins s σ H xs us Q I r h
  obtain ⟨p, ys, rfl, hq, q⟩ := h
  obtain ⟨u, rfl, rx⟩ := vals1 r
  cases rx
  have hn := line63
  rcases hq with hq | hq
  · obtain ⟨its, r', pl, hz⟩ := I.list hq
    have hlen := r'.length
    exact Calls.call_len_list pl.isList (by simp only [List.size_toArray] <;> omega) ⟨.int ys.length, H, I.tok _, ⟨s.toks + 1, by rw [List.size_toArray, hlen]⟩, q⟩
  · obtain ⟨its, r', pl, hz⟩ := I.tuple hq
    have hlen := r'.length
    exact len_tuple pl (by simp only [List.size_toArray] <;> omega) ⟨.int ys.length, H, I.tok _, ⟨s.toks + 1, by rw [List.size_toArray, hlen]⟩, q⟩
theorem call_len_str : CallR X (.builtin "len") (fun xs H Q => ∃ z, xs = [.str z] ∧ z.length ≤ sizeLine ∧ Q (.int z.length) H) := by
  intro pins s σ H xs us Q I r h
  obtain ⟨z, rfl, hz, q⟩ := h
  obtain ⟨u, rfl, t, rfl⟩ := vals1 r
  have hn := line63
  exact len_str (by omega) ⟨.int z.length, H, I.tok _, ⟨_, rfl⟩, q⟩
/-! ### the call of a builtin's method: o.m(..) -/
/-- the value is of that builtin type -/
def tyV (K : PySem.W.Frag) (T : String) (x : V) (H : Hp) : Prop := match x with
  | .str _ => T = "str"
  | .int _ => T = "int"
  | .ref p => (T = "list" ∧ ∃ xs, SqL K H p xs) ∨ (T = "tuple" ∧ ∃ o, K.lookup p = some o ∧ o.cls = .type "tuple" ∧ o.dict = none) ∨
      (T = "dict" ∧ ((∃ kvs, H p = some (.dK kvs)) ∨ ∃ kvs, H p = some (.dT kvs))) ∨ (T = "set" ∧ ∃ S n, H p = some (.set S n))
  | _ => False
theorem tyV_is {pins : List (Addr × Obj)} {σ : St} {H : Hp} {s : Shared} {T : String} {x : V} {v : Value} (I : Inv X pins σ H s) (r : RelV x v) (ty : tyV X.K T x H) :
    s.TypeIs v T ∧ ∀ a, v = .ref a → ∃ ob, s.heap.get? a = some ob ∧ ob.dict = none := by
  cases x with
  | str z =>
    obtain ⟨t, rfl⟩ := r
    cases (show T = "str" from ty)
    exact ⟨typeIs_str s z t, fun _ e => nomatch e⟩
  | int i =>
    obtain ⟨t, rfl⟩ := r
    cases (show T = "int" from ty)
    exact ⟨typeIs_int s i t, fun _ e => nomatch e⟩
  | ref p =>
    cases r
    rcases ty with ⟨rfl, xs, hq⟩ | ⟨rfl, o, hk, hc, hd⟩ | ⟨rfl, hk⟩ | ⟨rfl, S, n, hk⟩
    · obtain ⟨its, _, pl, _⟩ := I.list hq
      refine ⟨pl.isList.typeIs, fun a e => ?_⟩
      cases e
      obtain ⟨o, n, e, c, hd, _⟩ := pl
      exact ⟨o, e, hd⟩
    · refine ⟨⟨o, I.kIn p o hk, hc⟩, fun a e => ?_⟩
      cases e
      exact ⟨o, I.kIn _ o hk, hd⟩
    · have z : ∃ o, s.heap.get? p = some o ∧ o.ExactDict := by
        rcases hk with ⟨kvs, hk⟩ | ⟨kvs, hk⟩
        · obtain ⟨_, _, _, _, o, _, _, e, ex, _⟩ := I.hok p _ hk
          exact ⟨o, e, ex⟩
        · obtain ⟨_, _, _, _, o, _, _, e, ex, _⟩ := I.hok p _ hk
          exact ⟨o, e, ex⟩
      obtain ⟨o, e, ex⟩ := z
      refine ⟨⟨o, e, ex.1⟩, fun a e2 => ?_⟩
      cases e2
      exact ⟨o, e, ex.2.1⟩
    · obtain ⟨o, _, _, _, e, ex, _⟩ := I.hok p _ hk
      refine ⟨⟨o, e, ex.1⟩, fun a e2 => ?_⟩
      cases e2
      exact ⟨o, e, ex.2.1⟩
  | _ => exact False.elim ty
def tBM0 (K : PySem.W.Frag) (T : String) (r : V → List V → Hp → VK → Prop) (to : TE) : TE := fun σ H Q => to σ H fun x H1 => tyV K T x H1 ∧ r x [] H1 Q
def tBM (K : PySem.W.Frag) (T : String) (r : V → List V → Hp → VK → Prop) (to : TE) (t : TA) : TE := fun σ H Q => to σ H fun x H1 => tyV K T x H1 ∧ t σ H1 fun xs H2 => r x xs H2 Q
variable {o e : Expr} {es : List Expr} {to : TE} {t : TA} {name : Str} {apos cpos : Pos} {T id : String} {r : V → List V → Hp → VK → Prop}
theorem pe_bm0 (pa : PlainAttrs T) (slot : Slot T name id) (hty : typeOf (.builtin id) = pure (.type "method_descriptor")) (hm : MtR X id r) (ho : PE X o to)
    (hbase : attributeBase o name X.env (eval o X.env) = eval o X.env := by rfl) (hline : (apos.endLine == cpos.line) = true := by rfl) : PE X (.Call (.Attribute o name apos) [] [] cpos) (tBM0 X.K T r to) := by
  intro pins s σ H Q I h
  refine wpAny_Call_method0_late hbase hline (thn (ho pins s σ H _ I h) fun v s1 ⟨x, H1, I1, r1, ty, q1⟩ => ?_)
  obtain ⟨h1, h2⟩ := tyV_is I1 r1 ty
  exact ⟨T, id, pa, slot, hty, h1, h2, Calls.callWith_builtin rfl (PySem.evalArgs_none (hm pins s1 σ H1 x [] v [] Q I1 r1 .nil q1))⟩
theorem pe_bm (pa : PlainAttrs T) (slot : Slot T name id) (hty : typeOf (.builtin id) = pure (.type "method_descriptor")) (hm : MtR X id r) (ho : PE X o to) (ha : PA X (e :: es) t)
    (hbase : attributeBase o name X.env (eval o X.env) = eval o X.env := by rfl)
    (hfew : ((backTo cpos (starEach (e :: es) X.env)).all (fun x => !x.1) && (backToKw cpos (keywordEach [] X.env)).all (fun x => x.1.isSome)
      && decide ((e :: es).length + ([] : List Keyword).length + (if ([] : List Keyword).isEmpty then 0 else 1) < 30)) = true := by rfl)
    (hline : (apos.endLine == cpos.line) = true := by rfl) (hs : starEach (e :: es) X.env = (false, eval e X.env) :: starEach es X.env := by rfl) (hplain : (backTo cpos (starEach es X.env)).any (·.1) = false := by rfl) :
    PE X (.Call (.Attribute o name apos) (e :: es) [] cpos) (tBM X.K T r to t) := by
  intro pins s σ H Q I h
  refine wpAny_Call_method_late hbase hfew hline rfl (thn (ho pins s σ H _ I h) fun v s1 ⟨x, H1, I1, r1, ty, q1⟩ => ?_)
  obtain ⟨h1, h2⟩ := tyV_is I1 r1 ty
  refine ⟨T, id, pa, slot, hty, h1, h2, ?_⟩
  have hA := ha cpos pins s1 σ H1 _ I1 q1
  rw [hs] at hA ⊢
  refine Calls.callWith_builtin (by show (false || (backTo cpos (starEach es X.env)).any (·.1)) = false; rw [hplain] <;> rfl) (Calls.evalArgs_plain ?_)
  exact thn hA fun us s2 ⟨vs, H2, I2, r2, q2⟩ => hm pins s2 σ H2 x vs v us Q I2 r1 r2 q2
/- xs.append(e), list.index on a module's tuple .. are MtR facts of 06m -/
end
end L2

namespace L2
open PySem PySem.Spec PyProof.Rows

def MtM (X : Cx) (id : String) (r : V → List V → Hp → VK → Prop) : Prop :=
  ∀ (pins : List (Addr × Obj)) (s : Shared) (σ : St) (H : Hp) (x : V) (xs : List V) (v : Value) (us : List Value) (Q : VK), Inv X pins σ H s → RelV x v → Vals xs us → r x xs H Q →
    wpAny (model X.prog X.w) X.A (call (.builtin id) (v :: us)) (EP X pins σ Q) X.xe s

/-! ### lists of values -/
theorem Vals.one : ∀ {x : V} {us : List Value}, Vals [x] us → ∃ u, us = [u] ∧ RelV x u
  | _, _, .cons r .nil => ⟨_, rfl, r⟩
section
variable {X : Cx} {pins : List (Addr × Obj)} {σ : St} {H : Hp} {s : Shared} {l b : Addr} {xs ys zs : List V}

/-! ### the two steps: a tracked list is rewritten, a new list is laid -/
theorem Inv.lnew {its : List Value} {t' : Nat} (I : Inv X pins σ H s) (hv : Vals ys its) (hz : ys.length ≤ sizeLine) :
    Inv X pins σ (upd H s.heap.objs.size (.lst ys)) { s with heap := s.heap.push { cls := .type "list", data := .seq its.toArray }, toks := t' } :=
  I.laid (fun _ _ q => Heap.get?_push_of_some _ q) (Nat.le_refl _) ⟨hz, its, 0, hv, Heap.get?_push_size _ rfl⟩
theorem Inv.fresh (I : Inv X pins σ H s) : H s.heap.objs.size = none := I.hok.fresh (Nat.le_refl _)
theorem Inv.lstM (I : Inv X pins σ H s) (hH : H l = some (.lst xs)) : xs.length ≤ sizeLine ∧ ∃ (its : List Value) (n : Nat), Vals xs its ∧ xs.length = its.length ∧ s.heap.get? l = some { cls := .type "list", data := .seq its.toArray n } := by
  obtain ⟨z, its, n, r, e⟩ := I.hok l _ hH
  exact ⟨z, its, n, r, r.length, e⟩

theorem notLongL {n : Nat} (h : n ≤ sizeLine) : Builtin.List.listTooLong n = false := by
  unfold Builtin.List.listTooLong
  exact decide_eq_false (by omega)
end

section
variable {X : Cx}

/-! ### methods -/
def rAppend : V → List V → Hp → VK → Prop := fun x vs H Q => ∃ l xs y, x = .ref l ∧ vs = [y] ∧ H l = some (.lst xs) ∧ xs.length < sizeLine ∧ Q .non (upd H l (.lst (xs ++ [y])))
def rExtend : V → List V → Hp → VK → Prop := fun x vs H Q => ∃ l b xs zs, x = .ref l ∧ vs = [.ref b] ∧ H l = some (.lst xs) ∧ H b = some (.lst zs) ∧ xs.length + zs.length ≤ sizeLine ∧ Q .non (upd H l (.lst (xs ++ zs)))
def rPop : V → List V → Hp → VK → Prop := fun x vs H Q => ∃ l xs y, x = .ref l ∧ vs = [] ∧ H l = some (.lst xs) ∧ xs[xs.length - 1]? = some y ∧ Q y (upd H l (.lst xs.dropLast))
def rPopAt : V → List V → Hp → VK → Prop := fun x vs H Q => ∃ l xs i k y, x = .ref l ∧ vs = [.int i] ∧ H l = some (.lst xs) ∧ -(2 ^ 63) ≤ i ∧ i < 2 ^ 63 ∧ seqIndex? i xs.length = some k ∧ xs[k]? = some y ∧ Q y (upd H l (.lst (xs.eraseIdx k)))
def rReverse : V → List V → Hp → VK → Prop := fun x vs H Q => ∃ l xs, x = .ref l ∧ vs = [] ∧ H l = some (.lst xs) ∧ Q .non (upd H l (.lst xs.reverse))
def rClear : V → List V → Hp → VK → Prop := fun x vs H Q => ∃ l xs, x = .ref l ∧ vs = [] ∧ H l = some (.lst xs) ∧ Q .non (upd H l (.lst []))
/-! ### list + list, list += list, list * int -/
def rCat : R2 := fun x y H Q => ∃ l b xs zs, x = .ref l ∧ y = .ref b ∧ H l = some (.lst xs) ∧ H b = some (.lst zs) ∧ xs.length + zs.length ≤ sizeLine ∧ ∀ p, H p = none → Q (.ref p) (upd H p (.lst (xs ++ zs)))
theorem op_cat : OpR X (binaryOp .Add) rCat := by
  intro pins s σ H x y v u Q I rx ry h
  obtain ⟨l, b, xs, zs, rfl, rfl, hH, hB, hz, q⟩ := h
  cases rx
  cases ry
  obtain ⟨z, its, n, r, hl, e⟩ := I.lstM hH
  obtain ⟨z2, its2, n2, r2, hl2, e2⟩ := I.lstM hB
  refine PySem.P.add_list e e2 ?_ (by rw [List.size_toArray, List.size_toArray]; omega)
  have ea : its.toArray ++ its2.toArray = (its ++ its2).toArray := by simp
  rw [ea]
  exact ⟨.ref _, _, I.lnew (t' := s.toks) (r.append r2) (by rw [List.length_append]; omega), rfl, q _ I.fresh⟩
/-- a list times an int (a negative one is nothing) -/
def rRep : R2 := fun x y H Q => ∃ l k xs, x = .ref l ∧ y = .int k ∧ H l = some (.lst xs) ∧ -(2 ^ 63) ≤ k ∧ k < 2 ^ 63 ∧ xs.length * k.toNat ≤ sizeLine ∧
  ∀ p, H p = none → Q (.ref p) (upd H p (.lst (List.replicate k.toNat xs).flatten))
/-! ### del xs[i] -/
end

/-! ### xs[a:b] = ys -/
section
variable {prog : Program} {w : World} {A : Around} {E : Value → Shared → Prop} {s : Shared}
end

section
variable {X : Cx}
end
end L2

namespace Att
open PySem PySem.W PySem.Calls PyProof.Rows

/-! ### the script -/
theorem ints_of_wellAll {P : Params} {h : Heap} : ∀ (ns : List Int) (vs : List Value), WellAll P h vs (ns.map WData.int) → IntsAre vs ns := by
  intro ns
  induction ns with
  | nil =>
    intro vs w
    rw [List.map_nil] at w
    cases w
    exact .nil
  | cons n ns ih =>
    intro vs w
    rw [List.map_cons] at w
    cases w with
    | cons a b =>
      cases a
      exact .cons _ _ (ih _ b)

theorem script_of {l : OpenLaw} {n : Nat} (hn : l.most = some n) {P : Params} {h : Heap} {args : List WData} {vals : List Value}
    (hpre : l.row.toRowW.claim.pre args = true) (hwl : WellAll P h vals args) :
    ∃ a vs ns, vals = [Value.ref a] ∧ args = [WData.list (ns.map WData.int)] ∧ h.get? a = some { cls := .type "list", data := .seq vs.toArray } ∧ IntsAre vs ns ∧ ns.length ≤ n := by
  have hsh : WShape.hasAll [] args [.list .int] = true := (pre_splitW hpre).1
  have hc : l.pre.holds [] { args := args } = true := (pre_splitW hpre).2
  obtain ⟨d, r, rfl, h1, h2⟩ := hasAllW_cons hsh
  obtain rfl := hasAllW_nil h2
  obtain ⟨xs, rfl, h3⟩ := hasW_list h1
  obtain ⟨ns, rfl⟩ := items_int h3
  have hlen : ns.length ≤ n := by
    unfold OpenLaw.pre at hc
    have h4 : (WTm.not (.lt (.lit (.int (n : Int))) (.len (.arg 0)))).holds [] { args := [.list (ns.map .int)] } = true := by
      have h4 := (holds_andW hc).1
      rw [hn] at h4
      exact h4
    have h5 := condW_of h4 (w_not (w_lt w_lit (w_len_list (w_arg rfl))))
    rw [List.length_map] at h5
    refine Nat.le_of_not_lt fun q => ?_
    have q' : (n : Int) < ((ns.length : Nat) : Int) := by omega
    first
      | (rw [decide_eq_true q'] at h5; exact absurd h5 (by decide))
      | (simp at h5; omega)
  cases hwl with
  | cons w1 w2 =>
    cases w2
    cases w1 with
    | list ho hall => exact ⟨_, _, ns, rfl, rfl, ho, ints_of_wellAll ns _ hall, hlen⟩

theorem post_true (l : OpenLaw) (args : List WData) : l.row.toRowW.claim.post args (.bool true) args = true :=
  postW_of (r := l.row.toRowW) (X := (true == true))
    (show WShape.has [] (.bool true) .bool = true by first | rfl | decide | simp [WShape.has, WShape.arms, WShape.armsAll])
    (show (WTm.eq .res (.lit (.bool true))).value [] { args := args, res := some (.bool true), after := args } = some (.bool (true == true)) from w_eq_bool (w_res rfl) w_lit) rfl

/-! ### the attachment: holds_open's last premise (the goal 'hc' behind k_head) from a wpAny of the law's body -/
/-- the same from a codeAny of the CALL (for a layer whose function contracts speak of calls) -/
theorem attach_call {l : OpenLaw} {n : Nat} {q : Program} {loose : List Str} {XP : (Str → Option Value) → Heap → Prop} {YP : World → Heap → Prop} {d : DefRec}
    (hn : l.most = some n) (hdf : d.params.defaults = [])
    (call : ∀ (w : World) (s₀ s₁ : Shared) (mg mb : Str → Option Value) (fa : Addr) (o : Obj) (pm cd doc : Value) (a : Addr) (vs : List Value) (ns : List Int),
      Ground q loose [] XP w s₀ mg mb s₁.heap → YP w s₁.heap →
      s₁.heap.get? fa = some o → o.data = .func (docDef d.name d.params d.body d.scope pm cd doc) → s₁.heap.CodeRec cd d.name → mg d.name = some (.ref fa) →
      s₁.heap.get? a = some { cls := .type "list", data := .seq vs.toArray } → IntsAre vs ns → ns.length ≤ n → s₁.gens = #[] →
      codeAny (model l.prog w) callerA (.call (.ref fa) ⟨[.ref a], []⟩) (fun r s' => r = .ok (.ret (.bool true)) ∧ OldK s₁.heap s'.heap ∧ s'.os = s₁.os ∧ AllBare s'.gens) s₁) :
    WalkO q loose XP YP l.row.toRowW d [] (fun f vs => PySem.call f vs) := by
  intro w s₀ s₁ mg mb G Y fa o pm cd doc dV kV ho hd hcd hD hmg hg args vals as hpre hlay hrd hwl hlo
  obtain rfl : dV = .none := Dflts.none hD hdf
  obtain rfl : kV = .none := Dflts.noKw hD
  obtain ⟨a, vs, ns, rfl, rfl, hobj, hints, hlen⟩ := script_of hn hpre hwl
  refine enter_call (codeAny_mono (call w s₀ s₁ mg mb fa o pm cd doc a vs ns G Y ho (fd_plain hd) hcd hmg hobj hints hlen hg) fun r s' hq => ?_)
  obtain ⟨rfl, h2, h3, h4⟩ := hq
  exact ⟨.inl ⟨.bool true, .bool true, [], rfl, fun _ => rfl, .bool true, post_true l _, fun _ => ⟨List.Pairwise.nil, fun _ hm => (nomatch hm)⟩⟩, h2, h3, h4⟩

/-! ### rules over ANY heap (no ledger) from facts about the written part K: the library's own take a ledger (News) for what they write -/
section
variable {prog : Program} {w : World} {A : Around} {E : Value → Shared → Prop} {s : Shared} {K : Frag}

/-! the whole heap as the ledger: makes every rule that writes through a ledger a rule over any heap -/
def noObjs (h : Heap) : Heap := { h with objs := #[] }
def ledger (h : Heap) (L d : Addr) : List (Addr × Obj) := (List.range h.objs.size).filterMap fun a => if a = L ∨ a = d then none else (h.get? a).map fun o => (a, o)
end
end Att

namespace L2
open PySem PySem.Spec PyProof.Rows

theorem vals_ints : ∀ {vs : List Value} {ns : List Int}, IntsAre vs ns → Vals (ns.map V.int) vs
  | _, _, .nil => .nil
  | _, _, .cons n t h => .cons ⟨t, rfl⟩ (vals_ints h)

/-- nothing is tracked but the script, known to the object (or it is an object of the module) -/
def Only (H : Hp) : Prop := ∀ b, H b = none ∨ ∃ o xs, H b = some (.frz o (.lst xs))

/-- THE HEAD: the law's promise, at the heap behind the top. F, the promise of the law's def, may use that base is part of the heap (so K.In base, base.Ns mainGlobals mg stand in Mod) -/
theorem law_call {P : Program} {w : World} {K : PySem.W.Frag} {mg mb : Str → Option Value} {CX : CXT} {k : Nat} {fa a : Addr} {fd : FuncData} {x : Str} {sp : Sp} {s₁ : Shared} {vs : List Value} {ns : List Int}
    (KX : K.In s₁.heap) (hns : s₁.heap.Ns mainGlobals mg) (hb : s₁.heap.Ns builtinsNs mb) (hbb : ∀ x : Str, x ≠ "__name__" → mb x = bootBuiltins x) (hlim : s₁.heap.NoLimit) (hg : s₁.gens = #[])
    (ha : s₁.heap.get? a = some { cls := .type "list", data := .seq vs.toArray }) (hi : IntsAre vs ns) (hl : ns.length ≤ sizeLine) (hr : Room k callerA)
    (F : ∀ base : Heap, K.In base → base.Ns mainGlobals mg → FnOk P w K mg base CX k fa fd [x] sp) (hbind : ∀ (s : Shared) (u : Value), BindsTo s fd ⟨[u], []⟩ [(x, u)])
    (hsp : ∀ H : Hp, Only H → SqL K H a (ns.map V.int) → sp [.ref a] H (fun v _ => v = .bl true) fun _ _ _ => False)
    (hCX : ∀ H e s', CX [] H s₁ (fun _ _ _ => False) e s' → False) :
    codeAny (model P w) callerA (.call (.ref fa) ⟨[.ref a], []⟩) (fun r s' => r = .ok (.ret (.bool true)) ∧ OldK s₁.heap s'.heap ∧ s'.os = s₁.os ∧ AllBare s'.gens) s₁ := by
  have rv := vals_ints hi
  have lenV := hi.length
  -- from an abstract heap in which nothing but the script may be tracked
  have core : ∀ H : Hp, Only H → SqL K H a (ns.map V.int) → HOk P w H s₁.heap → (∀ b, H b ≠ none → b = a) → (H a ≠ none → K.lookup a = none) →
      codeAny (model P w) callerA (.call (.ref fa) ⟨[.ref a], []⟩) (fun r s' => r = .ok (.ret (.bool true)) ∧ OldK s₁.heap s'.heap ∧ s'.os = s₁.os ∧ AllBare s'.gens) s₁ := by
    intro H hO hS hok hA hK
    have base_of : ∀ {b : Addr} {o : Obj}, s₁.heap.get? b = some o → H b = none → (hidT s₁.heap H).get? b = some o := fun e n => hidT_get e n
    have noA : ∀ {b : Addr} {o : Obj} {es : Array DictEntry} {ep : Nat}, s₁.heap.get? b = some o → o.data = .dict es ep → H b = none := fun {b o es ep} e d => by
      cases q : H b with
      | none => rfl
      | some u =>
        have e' : b = a := hA b (by rw [q]; simp)
        subst e'
        rw [ha] at e; cases e
        have d' : Data.seq vs.toArray _ = Data.dict es ep := d
        cases d'
    have nsK : ∀ {b : Addr} {m : Str → Option Value}, s₁.heap.Ns b m → (hidT s₁.heap H).Ns b m := fun {b m} ⟨o, es, ep, e, d, r⟩ => ⟨o, es, ep, base_of e (noA e d), d, r⟩
    have hKb : K.In (hidT s₁.heap H) := fun b o e => base_of (KX b o e) (by
      cases q : H b with
      | none => rfl
      | some u =>
        have e' : b = a := hA b (by rw [q]; simp)
        subst e'
        rw [hK (by rw [q]; simp)] at e; cases e)
    have hM : Mod K mg (hidT s₁.heap H) := ⟨hKb, nsK hns, ⟨mb, nsK hb, hbb⟩, let ⟨mc, h1, h2⟩ := hlim; ⟨mc, nsK h1, h2⟩⟩
    have e0 : Env0 P w K mg (hidT s₁.heap H) callerA [] s₁ H := ⟨rfl, hM, fun b o e => of_hidT e, Nat.le_of_eq (hidT_size _ _), trivial, fun b hb => absurd (show b ∈ ([] : List Addr) from hb) (by simp), hok, .of_eq hg⟩
    refine codeAny_mono ((F _ hKb (nsK hns)).run callerA [] s₁ H ⟨[.ref a], []⟩ [.ref a] [.ref a] _ _ hr e0 (hbind s₁ (.ref a)) (.cons rfl .nil) (hsp H hO hS)) fun r s' h => ?_
    cases r with
    | error e => exact (hCX H e s' h).elim
    | ok fl =>
      cases fl with
      | next => exact False.elim h
      | brk => exact False.elim h
      | cont => exact False.elim h
      | ret u =>
        obtain ⟨v, H', os, bare, un, hok', r', q⟩ := h
        have q' : v = .bl true := q
        subst q'
        obtain rfl : u = Value.bool true := r'
        refine ⟨rfl, OldK.of_keep fun b o e => ?_, os, bare⟩
        cases q : H b with
        | none => exact un.keep b o e q (by intro z; exact absurd (show b ∈ ([] : List Addr) from z) (by simp)) (by simp)
        | some u =>
          rcases hO b with z | ⟨ob, xs, z⟩
          · rw [q] at z; cases z
          · have z2 := un.frzs b ob _ z
            obtain ⟨e1, _⟩ := hok b _ z
            obtain ⟨e2, _⟩ := hok' b _ z2
            rw [e] at e1; cases e1
            exact e2
  cases hk : K.lookup a with
  | some o =>
    -- the script is one of the module's own objects
    have e := KX a o hk
    rw [ha] at e
    cases e
    refine core (fun _ => none) (fun _ => .inl rfl) (.inr ⟨_, vs.toArray, _, hk, rfl, rfl, rfl, by rw [List.size_toArray, lenV]; exact hl, by simpa using rv⟩) (fun b u z => by have z' : (none : Option HO) = some u := z; cases z') (fun b z => absurd rfl z) fun z => absurd rfl z
  | none =>
    refine core (fun b => if b = a then some (.frz { cls := .type "list", data := .seq vs.toArray } (.lst (ns.map V.int))) else none) (fun b => ?_) (.inl (.inr ⟨{ cls := .type "list", data := .seq vs.toArray }, if_pos rfl⟩)) (fun b u z => ?_) (fun b z => ?_) fun _ => hk
    · by_cases hb : b = a
      · exact .inr ⟨_, _, if_pos hb⟩
      · exact .inl (if_neg hb)
    · by_cases hb : b = a
      · have z' := (if_pos hb).symm.trans z
        cases z'
        subst hb
        exact ⟨ha, by rw [List.length_map]; exact hl, vs, _, rv, ha⟩
      · have z' := (if_neg hb).symm.trans z
        cases z'
    · by_cases hb : b = a
      · exact hb
      · exact absurd (if_neg hb) z
end L2

namespace L2
open PySem PySem.Spec PyProof.Rows

abbrev KOf {K : PySem.W.Frag} {h : Heap} (_ : K.In h) : PySem.W.Frag := K

/-- the goal that k_head leaves (case hc), from the law's promise. F gives the function object fd (K's own) once, then the promise over every base -/
theorem walk_of {l : PySem.W.OpenLaw} {n k : Nat} {q : Program} {loose : List Str} {XP : (Str → Option Value) → Heap → Prop} {YP : World → Heap → Prop} {d : DefRec} {K : Params → PySem.W.Frag} {CX : World → CXT} {sp : World → Sp} {x : Str}
    (hn : l.most = some n) (hn2 : n ≤ sizeLine) (hdf : d.params.defaults = []) (hr : Room k callerA)
    (hY : ∀ (w : World) (h : Heap), YP w h → (K w.params).In h)
    (F : ∀ (w : World) (mg : Str → Option Value) (fa : Addr) (h : Heap), (K w.params).In h → h.Ns mainGlobals mg → mg d.name = some (.ref fa) →
      ∃ fd : FuncData, (∀ (s : Shared) (u : Value), BindsTo s fd ⟨[u], []⟩ [(x, u)]) ∧
        ∀ base : Heap, (K w.params).In base → base.Ns mainGlobals mg → FnOk l.prog w (K w.params) mg base (CX w) k fa fd [x] (sp w))
    (hsp : ∀ (w : World) (H : Hp) (a : Addr) (ns : List Int), ns.length ≤ n → Only H → SqL (K w.params) H a (ns.map V.int) → sp w [.ref a] H (fun v _ => v = .bl true) fun _ _ _ => False)
    (hCX : ∀ (w : World) (H : Hp) (s : Shared) (e : Value) (s' : Shared), CX w [] H s (fun _ _ _ => False) e s' → False) :
    PySem.W.WalkO q loose XP YP l.row.toRowW d [] (fun f vs => PySem.call f vs) := by
  refine Att.attach_call hn hdf fun w s₀ s₁ mg mb fa o pm cd doc a vs ns G Y ho hd hcd hmg hobj hints hlen hg => ?_
  have KX := hY w _ Y
  obtain ⟨fd, hb, hF⟩ := F w mg fa _ KX G.T.g hmg
  exact law_call KX G.T.g G.T.b G.T.builtins G.T.nolimit hg hobj hints (Nat.le_trans hlen hn2) hr hF hb (fun H hO hS => hsp w H a ns hlen hO hS) fun H e s' => hCX w H s₁ e s'
end L2

/- THE LAST THEOREM (shape; LID, My.* are yours):
   My.Adr: a structure of the addresses that your layer names (classes, functions); My.Txt K t: a structure (Prop) of the equations over K;
   My.txt_mk : {K} {implicit addresses ..} (e1 : nsIn K mainGlobals "law" = some (some (.ref f))) (e2 : K.lookup f = some ⟨oc, od, .func (fnOf "law" "law" params body scope dV kV doc pm an cdv ct), sl⟩) (e3 : codeIn K cdv "law" = true) .. : ∃ t, My.Txt K t

set_option maxRecDepth 100000 in
set_option maxHeartbeats 0 in
theorem PySem.Challenge.cw_LID_holds : PySem.Challenge.rw_LID.Holds := by
  w_on; o_law; k_head; (case hw => w_witness2)
  k_fill
  refine L2.walk_of (l := PySem.Challenge.rw_LID) (n := 63) (k := 40) (x := "script") (CX := fun w => ..) (sp := fun _ => My.sp_law) rfl (by decide) rfl ⟨rfl, by decide, by decide⟩ (fun w h Y => PySem.W.kIn_of Y) ?F ?S ?C
  case F =>
    intro w mg fa h KX G hmg
    have T : ∃ t, My.Txt (L2.KOf KX) t := by
      dsimp only [L2.KOf]                          -- K must stand as «<heap const> w.params» for k_is
      refine' My.txt_mk ?e1 ?e2 ?e3 ..
      (case e1 => PySem.W.k_is)                    -- in the order: a name -> its address -> its object -> its parts
      (case e2 => PySem.W.k_is)
      ..
    obtain ⟨t, T⟩ := T
    have e0 := hmg.symm.trans (PySem.W.mg_of KX G T.law)
    cases e0                                       -- fa is the law's own address
    exact ⟨_, fun s u => .of_eq rfl, fun base kb nb => My.law_fn T kb nb⟩     -- if «.of_eq rfl» comes too early: refine' ⟨_, ?b, fun base kb nb => My.law_fn T kb nb⟩; exact fun s u => .of_eq rfl
  case S => exact fun w H a ns hl hO hS => ..
  case C => exact ..
(the tactic k_is has no namespace: write k_is) -/

/-! SHORT WORDS over the layer: a def of the text, its body, what a loop and a test want. -/
namespace L2
open PySem PySem.Spec PyProof.Rows

/-! ### the text by places -/
/-- the j-th statement of a class's body -/
def inClass (s : Stmt) (j : Nat) : Stmt := match s with
  | .ClassDef _ _ _ body _ _ _ _ _ _ _ => body.getD j (.Pass ⟨0, 0, 0, 0⟩)
  | _ => .Pass ⟨0, 0, 0, 0⟩
def defArgs (s : Stmt) : Arguments := match s with
  | .FunctionDef _ a _ _ _ _ _ _ _ _ => a
  | _ => { posonlyargs := [], args := [], vararg := none, kwonlyargs := [], kw_defaults := [], kwarg := none, defaults := [] }
def defBody (s : Stmt) : List Stmt := match s with
  | .FunctionDef _ _ b _ _ _ _ _ _ _ => b
  | _ => []
def defScope (s : Stmt) : Scope := match s with
  | .FunctionDef _ _ _ _ _ _ sc _ _ _ => sc
  | _ => { kind := .function, names := [], isGenerator := false, isCoroutine := false }

/-! ### no exception leaves a def -/
abbrev CX0 : CXT := fun _ _ _ _ _ _ => False
abbrev E0 : XK := fun _ _ _ => False
theorem pass0 {X : Cx} : Passes CX0 X E0 := fun _ _ _ _ _ _ _ h => h.elim

/-! ### a def (or method) of the text as it stands behind the top -/
structure Fun (K : PySem.W.Frag) (x qual : Str) (st : Stmt) (f : Addr) (fd : FuncData) : Prop where
  ex : ∃ (oc : Value) (od : Option Addr) (kV doc pm : Value) (an : Option Addr) (cdv ct : Value) (osl : Array (Option Value)),
    fd = PySem.W.fnOf x qual (defArgs st) (defBody st) (defScope st) .none kV doc pm an cdv ct ∧ K.lookup f = some ⟨oc, od, .func fd, osl⟩ ∧ PySem.W.codeIn K cdv qual = true
  kp : PySem.W.keepIn K (.ref f) = true
section
variable {P : Program} {w : World} {K : PySem.W.Frag} {mg : Str → Option Value} {base : Heap}
/-- THE RULE for a def: its body as a term of rules, and the reading of that term -/
theorem Fun.ok {x qual : Str} {st : Stmt} {f : Addr} {fd : FuncData} {N ps : List Str} {k : Nat} {sp : Sp} (F : Fun K x qual st f fd) (S : FnScope N ps (defScope st)) (len : ∀ vs H Q E, sp vs H Q E → vs.length = ps.length)
    (hbody : ∀ (cdv : Value) (A : Around) (outer : List Env) (s : Shared) (H : Hp) (vs : List V) (Q : VK) (E : XK), Room k (A.deeper (envOfC qual (defScope st) s.heap.objs.size f cdv)) → sp vs H Q E →
      ∃ t, PSs (cxOf CX0 P w K mg base N qual (defScope st) f cdv A outer s H E).nox (defBody st) t ∧ t { nx := fun _ H' => Q .non H', rt := Q } (start N vs) H) : FnOk P w K mg base CX0 (k + 1) f fd ps sp := by
  obtain ⟨oc, od, kV, doc, pm, an, cdv, ct, osl, rfl, lk, hcd⟩ := F.ex
  refine fn_of lk hcd S len fun A outer s H vs Q E hr hsp => ?_
  obtain ⟨t, h, q⟩ := hbody cdv A outer s H vs Q E hr hsp
  exact ⟨t, h.nox, q⟩
/-- how its arguments bind (no defaults): h is «fun _ _ _ _ _ _ us hl => match us, hl with | [_, _], _ => rfl», one _ a parameter -/
theorem Fun.binds {x qual : Str} {st : Stmt} {f : Addr} {fd : FuncData} {ps : List Str} (F : Fun K x qual st f fd)
    (h : ∀ (kV doc pm : Value) (an : Option Addr) (cdv ct : Value) (us : List Value), us.length = ps.length → bindArgs (PySem.W.fnOf x qual (defArgs st) (defBody st) (defScope st) .none kV doc pm an cdv ct) ⟨us, []⟩ = pure (ps.zip us)) : Binds K fd ps [] := by
  obtain ⟨oc, od, kV, doc, pm, an, cdv, ct, osl, rfl, lk, hcd⟩ := F.ex
  exact .all (h kV doc pm an cdv ct)
theorem fun_mk {x qual : Str} {st : Stmt} {f : Addr} {oc : Value} {od an : Option Addr} {osl : Array (Option Value)} {kV doc pm cdv ct : Value} (l : K.lookup f = some ⟨oc, od, .func (PySem.W.fnOf x qual (defArgs st) (defBody st) (defScope st) .none kV doc pm an cdv ct), osl⟩)
    (c : PySem.W.codeIn K cdv qual = true) (k : PySem.W.keepIn K (.ref f) = true) : Fun K x qual st f (PySem.W.fnOf x qual (defArgs st) (defBody st) (defScope st) .none kV doc pm an cdv ct) := ⟨⟨oc, od, kV, doc, pm, an, cdv, ct, osl, rfl, l, c⟩, k⟩
end
/-! ### expressions in short: the name that stands in the i-th slot -/
section
variable {X : Cx}
theorem pv (i : Nat) {x : Str} {pos : Pos} (hN : X.N[i]? = some x := by rfl) (hv : Vis X.env.scope x := by first | exact Or.inl rfl | exact Or.inr (Or.inl rfl) | exact Or.inr (Or.inr rfl)) (hd : (x == ("__debug__" : Str)) = false := by decide)
    (hcd : (x == ("__classdict__" : Str)) = false := by decide) : PE X (.Name x pos) (tVar i) := pe_var hN hv hd hcd
end

/-! ### tests -/
theorem iteF {A B : Prop} (h : B) : if false = true then A else B := by
  rw [if_neg Bool.false_ne_true]
  exact h
theorem iteT {A B : Prop} (h : A) : if true = true then A else B := by
  rw [if_pos rfl]
  exact h
theorem ite2 {c A B : Prop} [Decidable c] (h1 : c → A) (h2 : ¬ c → B) : if c then A else B := by
  by_cases h : c
  · rw [if_pos h]
    exact h1 h
  · rw [if_neg h]
    exact h2 h
/-! ### heaps -/
/-- all that was tracked is as it was -/
def Same (H H' : Hp) : Prop := ∀ b o, H b = some o → H' b = some o
theorem Same.refl (H : Hp) : Same H H := fun _ _ h => h
theorem Same.trans {H H1 H2 : Hp} (a : Same H H1) (b : Same H1 H2) : Same H H2 := fun c o h => b c o (a c o h)
theorem Same.free {H H' : Hp} (e : Same H H') {l : Addr} (h : H' l = Option.none) : H l = Option.none := by
  cases q : H l with
  | none => rfl
  | some o =>
    rw [e l o q] at h
    cases h
theorem Same.seq {K : PySem.W.Frag} {H H' : Hp} {a : Addr} {xs : List V} (e : Same H H') (h : SqL K H a xs) : SqL K H' a xs := by
  rcases h with (h | ⟨o, h⟩) | h
  · exact .inl (.inl (e _ _ h))
  · exact .inl (.inr ⟨o, e _ _ h⟩)
  · exact .inr h

end L2

namespace L2
open PySem PySem.Spec PyProof.Rows

/-! ### lists of pairs as tables -/
section
variable {κ : Type} [DecidableEq κ]
def valV (kvs : List (κ × V)) (k : κ) : Option V := (kvs.find? fun kv => decide (kv.1 = k)).map (·.2)
/-- in its place, or at the end -/
def putK (kvs : List (κ × V)) (k : κ) (v : V) : List (κ × V) :=
  if (kvs.any fun kv => decide (kv.1 = k)) = true then kvs.map (fun kv => if kv.1 = k then (kv.1, v) else kv) else kvs ++ [(k, v)]
def dropK (kvs : List (κ × V)) (k : κ) : List (κ × V) := kvs.filter fun kv => decide (kv.1 ≠ k)

theorem valV_nil {k : κ} : valV ([] : List (κ × V)) k = none := rfl
theorem valV_pos {p : κ × V} {r : List (κ × V)} {k : κ} (e : p.1 = k) : valV (p :: r) k = some p.2 := by simp [valV, List.find?_cons, e]
theorem valV_neg {p : κ × V} {r : List (κ × V)} {k : κ} (e : ¬ p.1 = k) : valV (p :: r) k = valV r k := by simp [valV, List.find?_cons, e]
theorem length_putK (kvs : List (κ × V)) (k : κ) (v : V) : (putK kvs k v).length ≤ kvs.length + 1 := by
  unfold putK
  split
  · rw [List.length_map]; omega
  · rw [List.length_append, List.length_cons, List.length_nil]; omega
theorem RelO.isSome_eq {o : Option V} {u : Option Value} (r : RelO o u) : o.isSome = u.isSome := by
  cases o with
  | none => cases u with
    | none => rfl
    | some _ => exact (show False from r).elim
  | some _ => cases u with
    | none => exact (show False from r).elim
    | some _ => rfl
/-- raw tables of the same keys -/
theorem KV.val {kvs : List (κ × V)} {vs : List (κ × Value)} (r : KV kvs vs) (k : κ) : RelO (valV kvs k) (valueAt vs k) := by
  unfold KV at r
  induction r with
  | nil => exact True.intro
  | @cons p q ps qs h t ih =>
    obtain ⟨h1, h2⟩ := h
    by_cases e : p.1 = k
    · have e' : q.1 = k := h1.symm.trans e
      have b : valueAt (q :: qs) k = some q.2 := by simp [valueAt, List.find?_cons, e']
      rw [valV_pos e, b]; exact h2
    · have e' : ¬ q.1 = k := fun z => e (h1.trans z)
      have b : valueAt (q :: qs) k = valueAt qs k := by simp [valueAt, List.find?_cons, e']
      rw [valV_neg e, b]; exact ih
theorem KV.any {kvs : List (κ × V)} {vs : List (κ × Value)} (r : KV kvs vs) (k : κ) : (kvs.any fun kv => decide (kv.1 = k)) = vs.any fun kv => decide (kv.1 = k) := by
  unfold KV at r
  induction r with
  | nil => rfl
  | cons h t ih => rw [List.any_cons, List.any_cons, ih, h.1]
theorem KV.repl {kvs : List (κ × V)} {vs : List (κ × Value)} (r : KV kvs vs) (k : κ) {y : V} {u : Value} (ry : RelV y u) :
    KV (kvs.map fun kv => if kv.1 = k then (kv.1, y) else kv) (vs.map fun kv => if kv.1 = k then (kv.1, u) else kv) := by
  unfold KV at r ⊢
  induction r with
  | nil => exact .nil
  | @cons p q ps qs h t ih =>
    rw [List.map_cons, List.map_cons]
    refine .cons ?_ ih
    obtain ⟨h1, h2⟩ := h
    by_cases e : p.1 = k
    · rw [if_pos e, if_pos (h1.symm.trans e)]; exact ⟨h1, ry⟩
    · rw [if_neg e, if_neg (fun z => e (h1.trans z))]; exact ⟨h1, h2⟩
theorem KV.put {kvs : List (κ × V)} {vs : List (κ × Value)} (r : KV kvs vs) (k : κ) {y : V} {u : Value} (ry : RelV y u) : KV (putK kvs k y) (stored vs k u) := by
  unfold putK stored
  rw [r.any k]
  by_cases e : (vs.any fun kv => decide (kv.1 = k)) = true
  · rw [if_pos e, if_pos e]; exact r.repl k ry
  · rw [if_neg e, if_neg e]; exact Paired.snoc r ⟨rfl, ry⟩
end


/-! ### a tracked dict, its keys ints and texts or tuples of these -/
theorem kV_is {P : Program} {w : World} {k : Key} {u : Value} (r : RelV (kV k) u) : (mixKind P w).is k u = true := by
  cases k with
  | inl i => obtain ⟨t, e⟩ := (show ∃ t, u = Value.int i t from r); subst e; exact mixKind_int P w i t
  | inr x => obtain ⟨t, e⟩ := (show ∃ t, u = Value.str x t from r); subst e; exact mixKind_str P w x t
/-- raw entries of a dict with tuple keys -/
abbrev KT (H : Hp) : List (List Key × V) → List (List Key × Addr × Value) → Prop := Paired fun p q => p.1 = q.1 ∧ H q.2.1 = some (.tup (p.1.map kV)) ∧ RelV p.2 q.2.2
section
variable {P : Program} {w : World} {H : Hp} {h : Heap} {a : Addr}
theorem rd_of {u : HO} (ok : HOk P w H h) (e : Rd H a u) : ObjOk P w H h a u := e.ok ok
theorem dk_rd {kvs : List (Key × V)} (ok : HOk P w H h) (e : Rd H a (.dK kvs)) : kvs.length ≤ sizeLine ∧ (a == sysModules) = false ∧ ∃ vs, KV kvs vs ∧ h.DictOf (mixKind P w) a vs :=
  show ObjOk P w H h a (.dK kvs) from rd_of ok e
theorem dk_of {kvs : List (Key × V)} (ok : HOk P w H h) (e : H a = some (.dK kvs)) : kvs.length ≤ sizeLine ∧ (a == sysModules) = false ∧ ∃ vs, KV kvs vs ∧ h.DictOf (mixKind P w) a vs := dk_rd ok (.inl e)
end

/-- what the dict at a holds at the key y -/
def DGet (H : Hp) (a : Addr) (y : V) (r : Option V) : Prop :=
  (∃ kvs k, Rd H a (.dK kvs) ∧ y = kV k ∧ r = valV kvs k) ∨ ∃ kvs k b, Rd H a (.dT kvs) ∧ y = .ref b ∧ H b = some (.tup (k.map kV)) ∧ r = valV kvs k
/-- the heap behind a[y] = v -/
def DPut (H : Hp) (a : Addr) (y v : V) (H' : Hp) : Prop :=
  (∃ kvs k, H a = some (.dK kvs) ∧ y = kV k ∧ kvs.length < sizeLine ∧ H' = upd H a (.dK (putK kvs k v))) ∨
  ∃ kvs k b, H a = some (.dT kvs) ∧ y = .ref b ∧ H b = some (.tup (k.map kV)) ∧ kvs.length < sizeLine ∧ H' = upd H a (.dT (putK kvs k v))
section
variable {X : Cx} {pins : List (Addr × Obj)} {σ : St} {H : Hp} {s : Shared} {a : Addr} {y v : V} {u r : Value} {o : Option V} {A : Around} {E : Value → Shared → Prop}

theorem Inv.big (I : Inv X pins σ H s) : sysModules < s.heap.objs.size := by
  have h : mainGlobals < s.heap.objs.size := (I.mod.glob.keeps I.bk).lt
  exact Nat.lt_trans (by decide) h

/-- a dict's object is replaced -/
theorem d_write {h' : Heap} {t' : Nat} {ob : HO} (I : Inv X pins σ H s) (mu : Mut (H a)) (hs : Heap.SameBut a s.heap h') (he : ∃ q, h'.get? a = some q) (new : ObjOk X.prog X.w (upd H a ob) h' a ob) :
    Inv X pins σ (upd H a ob) { s with heap := h', toks := t' } :=
  I.write (x := a) (e := a) mu (.inl rfl) (fun b q hb z => (hs.2 b hb).trans z) he new
theorem dk_new {P : Program} {w : World} {H' : Hp} {h' : Heap} {kvs : List (Key × V)} {vs : List (Key × Value)} (z : kvs.length ≤ sizeLine) (hd : (a == sysModules) = false) (rel : KV kvs vs) (dd : h'.DictOf (mixKind P w) a vs) :
    ObjOk P w H' h' a (.dK kvs) := ⟨z, hd, vs, rel, dd⟩
end

section
variable {X : Cx} {pins : List (Addr × Obj)} {σ : St} {H : Hp} {s : Shared} {a : Addr} {kvs : List (Key × V)} {k : Key} {u : Value} {A : Around} {E : Value → Shared → Prop}
end


/-! ### readings and rules -/
/-- the element of a subscription, not a slice -/
def NoSl (i : Expr) : Prop := ∀ ov iv, subscripted i false ov iv = operate [ov, iv] (getItem ov iv)
theorem subD_of {prog : Program} {w : World} {A : Around} {E : Value → Shared → Prop} {s : Shared} {env : Env} {value slice : Expr} {pos : Pos} {T id : String} {Q : Value → Shared → Prop}
    (hl : typeLookup (.type T) "__getitem__" = pure (some (.builtin id))) (hs : NoSl slice)
    (h : wpAny (model prog w) A (eval value env) (fun o s₁ => wpAny (model prog w) A (eval slice env) (fun i s₂ => s₂.TypeIs o T ∧ wpAny (model prog w) A (getItem o i) Q E s₂) E s₁) E s) :
    wpAny (model prog w) A (eval (.Subscript value slice pos) env) Q E s := by
  refine Subscript_ (wpAny_mono h (fun o s₁ h₁ => wpAny_mono h₁ (fun i s₂ h₂ => ?_) fun _ _ x => x) fun _ _ x => x)
  obtain ⟨hT, h₂⟩ := h₂
  unfold subscriptTail
  refine wpAny_bind ?_
  rw [getitemInPython_of_ne hT.not_modules]
  refine wpAny_bind (wpAny_specialOf hT hl ?_)
  have fin : wpAny (model prog w) A (subscripted slice false o i) (fun r s₃ => wpAny (model prog w) A (letTemporaryGo value o r >>= fun _ => pure r) Q E s₃) E s₂ := by
    rw [hs o i]
    exact wpAny_operating (wpAny_mono h₂ (fun r s₃ h₃ => wpAny_bind (wpAny_letTemporaryGo (wpAny_pure h₃))) fun _ _ x => x)
  first
    | exact wpAny_pure (wpAny_bind fin)
    | exact wpAny_bind (wpAny_pure (wpAny_bind fin))
    | exact wpAny_bind fin

/-- d[y] -/
def tDGet (td ty : TE) : TE := fun σ H Q => td σ H fun x H1 => ty σ H1 fun y H2 => ∃ a v, x = .ref a ∧ DGet H2 a y (some v) ∧ Q v H2
/-- y in d, y not in d -/
def tDIn (ty td : TE) : TE := fun σ H Q => ty σ H fun y H1 => td σ H1 fun x H2 => ∃ a o, x = .ref a ∧ DGet H2 a y o ∧ Q (.bl o.isSome) H2
def tDNotIn (ty td : TE) : TE := fun σ H Q => ty σ H fun y H1 => td σ H1 fun x H2 => ∃ a o, x = .ref a ∧ DGet H2 a y o ∧ Q (.bl (!o.isSome)) H2
/-- d[y] = v -/
def sDPut (td ty tv : TE) : TS := fun D σ H => tv σ H fun v H1 => td σ H1 fun x H2 => ty σ H2 fun y H3 => ∃ a H4, x = .ref a ∧ DPut H3 a y v H4 ∧ D.nx σ H4
/-- d[y] op= v -/
def sDAug (td ty tv : TE) (rd : V → V → Hp → VK → Prop) : TS := fun D σ H => td σ H fun x H1 => ty σ H1 fun y H2 => ∃ a v, x = .ref a ∧ DGet H2 a y (some v) ∧
  tv σ H2 fun y2 H3 => rd v y2 H3 fun z H4 => ∃ H5, DPut H4 a y z H5 ∧ D.nx σ H5
/-- del d[y] -/
def sDDel (td ty : TE) : TS := fun D σ H => td σ H fun x H1 => ty σ H1 fun y H2 => ∃ a kvs k, x = .ref a ∧ H2 a = some (.dK kvs) ∧ y = kV k ∧ (valV kvs k).isSome = true ∧ D.nx σ (upd H2 a (.dK (dropK kvs k)))

section
variable {X : Cx} {o i e value : Expr} {pos pos' tpos : Pos} {td ty tv : TE}
end


/-! ### displays -/
theorem dk_empty {P : Program} {w : World} {H : Hp} (h : Heap) (hb : sysModules < h.objs.size) : ObjOk P w H (h.push { cls := .type "dict", data := .dict #[] }) h.objs.size (.dK []) :=
  ⟨Nat.zero_le _, beq_eq_false_iff_ne.mpr (Ne.symm (Nat.ne_of_lt hb)), [], .nil, Heap.DictOf.new h⟩
/-- {}, to be a dict of the kind that is wanted -/
def tDNewK : TE := fun _ H Q => ∀ p, H p = none → Q (.ref p) (upd H p (.dK []))
def tDNewT : TE := fun _ H Q => ∀ p, H p = none → Q (.ref p) (upd H p (.dT []))
section
variable {X : Cx} {pos : Pos}
end

/-- the pairs of a display, from the left -/
def tPairs : List (TE × TE) → St → Hp → (List (V × V) → Hp → Prop) → Prop
  | [], _, H, Q => Q [] H
  | (tk, tv) :: r, σ, H, Q => tk σ H fun x H1 => tv σ H1 fun y H2 => tPairs r σ H2 fun ps H3 => Q ((x, y) :: ps) H3
abbrev VV : List (V × V) → List (Value × Value) → Prop := Paired fun p q => RelV p.1 q.1 ∧ RelV p.2 q.2
def PPs (X : Cx) (pos : Pos) (keys : List (Option Expr)) (values : List Expr) (trs : List (TE × TE)) : Prop :=
  ∀ (pins : List (Addr × Obj)) (s : Shared) (σ : St) (H : Hp) (Q : List (V × V) → Hp → Prop), Inv X pins σ H s → tPairs trs σ H Q →
    wpAny (model X.prog X.w) X.A (evalPairs (pairTrees keys values X.env pos)) (fun vs s' => ∃ ps H', Inv X pins σ H' s' ∧ VV ps vs ∧ Q ps H') X.xe s
theorem pps_nil {X : Cx} {pos : Pos} : PPs X pos [] [] [] := fun pins s σ H Q I h => pairTrees_nil_walk ⟨[], H, I, .nil, h⟩
theorem pps_cons {X : Cx} {pos : Pos} {k v : Expr} {ks : List (Option Expr)} {vs : List Expr} {tk tv : TE} {trs : List (TE × TE)} (hk : PE X k tk) (hv : PE X v tv) (hr : PPs X pos ks vs trs) :
    PPs X pos (some k :: ks) (v :: vs) ((tk, tv) :: trs) := fun pins s σ H Q I h =>
  pairTrees_cons_walk (thn (hk pins s σ H _ I h) fun u s1 ⟨x, H1, I1, rx, q1⟩ => thn (hv pins s1 σ H1 _ I1 q1) fun w2 s2 ⟨y, H2, I2, ry, q2⟩ =>
    thn (hr pins s2 σ H2 _ I2 q2) fun ws s3 ⟨ps, H3, I3, rel, q3⟩ => ⟨(x, y) :: ps, H3, I3, .cons ⟨rx, ry⟩ rel, q3⟩)

def mergeK (kvs more : List (Key × V)) : List (Key × V) := more.foldl (fun acc kv => putK acc kv.1 kv.2) kvs
theorem KV.merge : ∀ {more : List (Key × V)} {rs : List (Key × Value)} {kvs : List (Key × V)} {vs : List (Key × Value)}, KV more rs → KV kvs vs → KV (mergeK kvs more) (merged vs rs) := by
  intro more rs kvs vs r
  unfold KV at r
  induction r generalizing kvs vs with
  | nil => intro q; exact q
  | @cons p q ps qs h t ih =>
    intro r0
    have e : KV (putK kvs p.1 p.2) (stored vs q.1 q.2) := by
      have := r0.put p.1 h.2
      rw [← h.1]; exact this
    exact ih e
theorem length_mergeK : ∀ (more kvs : List (Key × V)), (mergeK kvs more).length ≤ kvs.length + more.length
  | [], kvs => by show kvs.length ≤ kvs.length + 0; omega
  | p :: r, kvs => by
    have h1 := length_mergeK r (putK kvs p.1 p.2)
    have h2 := length_putK kvs p.1 p.2
    show (mergeK (putK kvs p.1 p.2) r).length ≤ _
    rw [List.length_cons]; omega
theorem carries_of {P : Program} {w : World} : ∀ {kvs : List (Key × V)} {ws : List (Value × Value)}, VV (kvs.map fun kv => (kV kv.1, kv.2)) ws → ∃ rs, Carries (mixKind P w) ws rs ∧ KV kvs rs
  | [], _, r => by rw [List.map_nil] at r; cases r; exact ⟨[], True.intro, .nil⟩
  | p :: kvs, _, r => by
    rw [List.map_cons] at r
    cases r with
    | @cons a b as bs h t =>
      obtain ⟨rs, c, q⟩ := carries_of (P := P) (w := w) t
      obtain ⟨b1, b2⟩ := b
      exact ⟨(p.1, b2) :: rs, ⟨kV_is h.1, rfl, c⟩, .cons ⟨rfl, h.2⟩ q⟩
/-- {k: v, ..} with keys ints and texts; the new dict stands empty while the pairs are made -/
def tDisp (trs : List (TE × TE)) : TE := fun σ H Q => ∀ p, H p = none → tPairs trs σ (upd H p (.dK [])) fun ps H2 => H2 p = some (.dK []) ∧ ∃ kvs : List (Key × V), ps = kvs.map (fun kv => (kV kv.1, kv.2)) ∧ kvs.length ≤ 15 ∧ Q (.ref p) (upd H2 p (.dK (mergeK [] kvs)))
theorem pe_disp {X : Cx} {pos : Pos} {keys : List (Option Expr)} {values : List Expr} {trs : List (TE × TE)} (h : PPs X pos keys values trs) (hall : keys.all (·.isSome) = true) (hl : keys.length = values.length) (h0 : keys ≠ [])
    (h15 : keys.length ≤ 15) : PE X (.Dict keys values pos) (tDisp trs) := by
  intro pins s σ H Q I q
  have hn := I.hok.fresh (Nat.le_refl s.heap.objs.size)
  have I1 := I.laid (a := s.heap.objs.size) (o := .dK []) (h' := s.heap.push { cls := .type "dict", data := .dict #[] }) (t' := s.toks) (fun _ _ q => Heap.get?_push_of_some _ q) (Nat.le_refl _) (dk_empty s.heap I.big)
  refine wpAny_Dict_walk (knd := mixKind X.prog X.w) hall hl h0 h15 (thn (h pins _ σ _ _ I1 (q _ hn)) fun ws s2 ⟨ps, H2, I2, rel, e, kvs, ep, lk, q2⟩ => ?_)
  subst ep
  obtain ⟨rs, c, rk⟩ := carries_of (P := X.prog) (w := X.w) rel
  obtain ⟨z, hd, vs0, r0, dd⟩ := dk_of I2.hok e
  cases r0
  refine ⟨rs, c, dd, fun h' dd' hs => ⟨.ref s.heap.objs.size, _, ?_, rfl, q2⟩⟩
  have hz : (mergeK [] kvs).length ≤ sizeLine := by
    have h1 := length_mergeK kvs []
    rw [List.length_nil] at h1
    rw [sizeLine_eq]; omega
  have he : ∃ q, h'.get? s.heap.objs.size = some q := let ⟨q, _, _, hq, _⟩ := dd'; ⟨q, hq⟩
  exact d_write I2 (by rw [e]; exact True.intro) hs he (dk_new hz hd (rk.merge .nil) dd')


/-! ### methods -/
/-- a method call o.m(e) of a built-in, with one argument: what must be seen of the text -/
structure M1 (X : Cx) (o : Expr) (m : Str) (apos : Pos) (e : Expr) (cpos : Pos) : Prop where
  base : attributeBase o m X.env (eval o X.env) = eval o X.env
  few : ((backTo cpos (starEach [e] X.env)).all (fun x => !x.1) && (backToKw cpos (keywordEach [] X.env)).all (fun x => x.1.isSome)
    && decide (([e] : List Expr).length + ([] : List Keyword).length + (if ([] : List Keyword).isEmpty then 0 else 1) < 30)) = true
  line : (apos.endLine == cpos.line) = true
  trees : backTo cpos (starEach [e] X.env) = [(false, eval e X.env)]
structure M2 (X : Cx) (o : Expr) (m : Str) (apos : Pos) (e f : Expr) (cpos : Pos) : Prop where
  base : attributeBase o m X.env (eval o X.env) = eval o X.env
  few : ((backTo cpos (starEach [e, f] X.env)).all (fun x => !x.1) && (backToKw cpos (keywordEach [] X.env)).all (fun x => x.1.isSome)
    && decide (([e, f] : List Expr).length + ([] : List Keyword).length + (if ([] : List Keyword).isEmpty then 0 else 1) < 30)) = true
  line : (apos.endLine == cpos.line) = true
  trees : backTo cpos (starEach [e, f] X.env) = [(false, eval e X.env), (false, eval f X.env)]

/-- a is a dict, whatever its keys -/
def IsD (H : Hp) (a : Addr) : Prop := (∃ kvs, Rd H a (.dK kvs)) ∨ ∃ kvs, Rd H a (.dT kvs)
section
variable {X : Cx} {pins : List (Addr × Obj)} {σ : St} {H : Hp} {s : Shared} {a : Addr} {y d : V} {u r : Value} {o : Option V} {A : Around} {E : Value → Shared → Prop}
end

def tDGet1 (td ty : TE) : TE := fun σ H Q => td σ H fun x H1 => ∃ a, x = .ref a ∧ IsD H1 a ∧ ty σ H1 fun y H2 => ∃ o, DGet H2 a y o ∧ Q (o.getD .non) H2
def tDGet2 (td ty tx : TE) : TE := fun σ H Q => td σ H fun x H1 => ∃ a, x = .ref a ∧ IsD H1 a ∧ ty σ H1 fun y H2 => tx σ H2 fun z H3 => ∃ o, DGet H3 a y o ∧ Q (o.getD z) H3
/-- d.pop(k): there; d.pop(k, x): there or not -/
def tDPop1 (td ty : TE) : TE := fun σ H Q => td σ H fun x H1 => ∃ a, x = .ref a ∧ IsD H1 a ∧ ty σ H1 fun y H2 => ∃ kvs k v, H2 a = some (.dK kvs) ∧ y = kV k ∧ valV kvs k = some v ∧ Q v (upd H2 a (.dK (dropK kvs k)))
def tDPop2 (td ty tx : TE) : TE := fun σ H Q => td σ H fun x H1 => ∃ a, x = .ref a ∧ IsD H1 a ∧ ty σ H1 fun y H2 => tx σ H2 fun z H3 => ∃ kvs k, H3 a = some (.dK kvs) ∧ y = kV k ∧
  (∀ v, valV kvs k = some v → Q v (upd H3 a (.dK (dropK kvs k)))) ∧ (valV kvs k = none → Q z H3)
section
variable {X : Cx} {o e f : Expr} {apos cpos : Pos} {td ty tx : TE}
end

/-! ### dict(d): a copy -/
section
variable {X : Cx} {pins : List (Addr × Obj)} {σ : St} {H : Hp} {s : Shared} {a : Addr} {kvs : List (Key × V)} {A : Around} {E : Value → Shared → Prop}
end


section
variable {X : Cx} {pins : List (Addr × Obj)} {σ : St} {H : Hp} {s : Shared} {a : Addr} {y : V} {u : Value} {A : Around} {E : Value → Shared → Prop}
end
end L2
namespace L2
open PySem PySem.Spec PyProof.Rows

/-! ### comprehensions -/
theorem nof {α : Type} {M : Model} {A : Around} {t : Sem α} {Q : α → Shared → Prop} {E : Value → Shared → Prop} {s : Shared} (h : wpAny M A t Q (fun _ _ => False) s) : wpAny M A t Q E s :=
  wpAny_mono h (fun _ _ x => x) fun _ _ f => f.elim

/-- the tests of a clause -/
def PTs (X : Cx) (ifs : List Expr) (t : TT) : Prop :=
  ∀ (pins : List (Addr × Obj)) (s : Shared) (σ : St) (H : Hp) (Q : Bool → Hp → Prop), Inv X pins σ H s → t σ H Q →
    wpAny (model X.prog X.w) X.A (forIn ifs true fun c r => if r = true then do let ok ← isTrue c X.env (eval c X.env); pure (ForInStep.yield ok) else pure (ForInStep.yield r)) (TP X pins σ Q) X.xe s
def tYes : TT := fun _ H Q => Q true H
theorem pts_nil {X : Cx} : PTs X [] tYes := fun _ _ _ H _ I h => wpAny_tests_nil ⟨H, I, h⟩
theorem pts_one {X : Cx} {c : Expr} {t : TT} (h : PT X c t) : PTs X [c] t := fun pins s σ H Q I hq => wpAny_tests_one (h pins s σ H Q I hq)

/-- the block's names at its start: its own one, then those of the frame around -/
def cst (ix : List Nat) (σ : St) : St := none :: ix.map fun j => (σ[j]?).getD none

/-- the context of a comprehension's block -/
def cmpCx (X : Cx) (Nc : List Str) (scope : Scope) (cl : List (Str × Addr)) (C : Addr) (fp : List Addr) (s : Shared) (H : Hp) : Cx where
  prog := X.prog
  w := X.w
  K := X.K
  mg := X.mg
  base := X.base
  A := X.A
  N := Nc
  s₀ := s
  H₀ := H
  env := compEnvC scope cl C X.env
  outer := X.stack
  stack := X.stack
  ex := fp
  fn := fun _ => false
  calm := X.calm
  pn := []
  xe := fun _ _ => False

/-- each name of the frame around that the block reads -/
def FreeOk (X : Cx) (scope : Scope) (cl : List (Str × Addr)) : List Str → List Nat → Prop
  | [], [] => True
  | y :: ys, i :: ix => (X.N[i]? = some y ∧ X.env.kindOf y = some .cell ∧ cl.lookup y = X.env.cells.lookup y ∧ (relabel scope X.env).names.lookup y = some .cell) ∧ FreeOk X scope cl ys ix
  | _, _ => False
theorem FreeOk.len {X : Cx} {scope : Scope} {cl : List (Str × Addr)} : ∀ {ys : List Str} {ix : List Nat}, FreeOk X scope cl ys ix → ix.length = ys.length
  | [], [], _ => rfl
  | _ :: _, _ :: _, h => by simp [FreeOk.len h.2]
  | [], _ :: _, h => h.elim
  | _ :: _, [], h => h.elim
theorem FreeOk.at {X : Cx} {scope : Scope} {cl : List (Str × Addr)} : ∀ {ys : List Str} {ix : List Nat}, FreeOk X scope cl ys ix → ∀ (j : Nat) (y : Str), ys[j]? = some y →
    ∃ i, ix[j]? = some i ∧ X.N[i]? = some y ∧ X.env.kindOf y = some .cell ∧ cl.lookup y = X.env.cells.lookup y ∧ (relabel scope X.env).names.lookup y = some .cell
  | [], [], _, j, y, e => by simp at e
  | z :: _, i :: _, h, 0, y, e => by
    simp at e
    subst e
    exact ⟨i, rfl, h.1⟩
  | _ :: _, _ :: _, h, j + 1, y, e => by
    obtain ⟨i, e1, e2⟩ := FreeOk.at h.2 j y (by simpa using e)
    exact ⟨i, by simpa using e1, e2⟩
  | [], _ :: _, h, _, _, _ => h.elim
  | _ :: _, [], h, _, _, _ => h.elim

def SubOk (X : Cx) : List (Str × Addr) → Prop
  | [] => True
  | p :: r => X.env.cells.lookup p.1 = some p.2 ∧ SubOk X r
theorem SubOk.mem {X : Cx} : ∀ {cl : List (Str × Addr)}, SubOk X cl → ∀ p ∈ cl, X.env.cells.lookup p.1 = some p.2
  | [], _, p, hp => absurd hp (by simp)
  | _ :: _, h, p, hp => by
    rcases List.mem_cons.mp hp with e | e
    · subst e; exact h.1
    · exact SubOk.mem h.2 p e
structure CompNames (X : Cx) (scope : Scope) (cl : List (Str × Addr)) (x : Str) (ys : List Str) (ix : List Nat) : Prop where
  clos : closureFor scope X.env = pure cl
  cell : (scope.names.all fun y => !(y.2 == NameKind.cell)) = true
  kind : scope.kind = .function
  names : (scope.names.all fun y => !(y.2 == NameKind.local) || scope.names.lookup y.1 == some NameKind.local) = true
  hx : scope.names.lookup x = some .local
  nd : (x :: ys).Nodup
  sub : SubOk X cl
  has : ((relabel scope X.env).names.all fun p => !(p.2 == NameKind.cell || p.2 == NameKind.free) || (cl.lookup p.1).isSome) = true
  free : FreeOk X scope cl ys ix

theorem lookup_mem {α β : Type} [BEq α] [LawfulBEq α] {k : α} {v : β} : ∀ {l : List (α × β)}, l.lookup k = some v → (k, v) ∈ l
  | [], h => by simp at h
  | (a, b) :: r, h => by
    rw [List.lookup_cons] at h
    cases q : k == a with
    | true =>
      rw [q] at h
      have e := eq_of_beq q
      subst e
      cases h
      exact List.mem_cons_self
    | false =>
      rw [q] at h
      exact List.mem_cons_of_mem _ (lookup_mem h)

section
variable {X : Cx} {scope : Scope} {cl : List (Str × Addr)} {x : Str} {ys : List Str} {ix : List Nat}
theorem CompNames.sub' (n : CompNames X scope cl x ys ix) : ∀ y c, cl.lookup y = some c → X.env.cells.lookup y = some c := fun y c e => by
  exact n.sub.mem (y, c) (lookup_mem e)
theorem CompNames.has' (n : CompNames X scope cl x ys ix) : ∀ y, ((relabel scope X.env).names.lookup y = some .cell ∨ (relabel scope X.env).names.lookup y = some .free) → ∃ c, cl.lookup y = some c := fun y h => by
  have : ∃ k : NameKind, (y, k) ∈ (relabel scope X.env).names ∧ (k = .cell ∨ k = .free) := by
    rcases h with h | h
    · exact ⟨_, lookup_mem h, .inl rfl⟩
    · exact ⟨_, lookup_mem h, .inr rfl⟩
  obtain ⟨k, hm, hk⟩ := this
  have q := List.all_eq_true.mp n.has (y, k) hm
  have : (k == NameKind.cell || k == NameKind.free) = true := by
    rcases hk with rfl | rfl <;> decide
  simp only [this, Bool.not_true, Bool.false_or] at q
  exact Option.isSome_iff_exists.mp q
theorem CompNames.cell' (n : CompNames X scope cl x ys ix) : ∀ y ∈ scope.names, y.2 ≠ .cell := fun y hy e => by
  have q := List.all_eq_true.mp n.cell y hy
  rw [e] at q
  exact absurd q (by decide)
theorem CompNames.names' (n : CompNames X scope cl x ys ix) : ∀ y ∈ scope.names, y.2 = .local → scope.names.lookup y.1 = some .local := fun y hy e => by
  have q := List.all_eq_true.mp n.names y hy
  rw [e] at q
  have z : (NameKind.local == NameKind.local) = true := by decide
  simp only [z, Bool.not_true, Bool.false_or] at q
  exact eq_of_beq q
end

/-- [te for x in wi if tt]: W the turn, a measure, what is gathered, the heap -/
def tComp (wi : TI) (ix : List Nat) (tt : TT) (te : TE) : TE := fun σ H Q => wi σ H fun J H1 => ∃ W : Nat → Nat → List V → Hp → Prop, (∃ m, W 0 m [] H1) ∧ ∀ i m ys H2, W i m ys H2 →
  (J.stop i H2 ∧ ys.length ≤ sizeLine ∧ ∀ p, H2 p = none → Q (.ref p) (upd H2 p (.lst ys))) ∨
  (J.go i H2 ∧ ys.length ≤ sizeLine ∧ ∀ x H3, J.yld i H2 x H3 → tt ((cst ix σ).set 0 (some x)) H3 fun b H4 =>
    if b = true then te ((cst ix σ).set 0 (some x)) H4 fun v H5 => ∃ m', m' < m ∧ W (i + 1) m' (ys ++ [v]) H5 else ∃ m', m' < m ∧ W (i + 1) m' ys H4)

section
variable {X : Cx} {scope : Scope} {cl : List (Str × Addr)} {x : Str} {ys : List Str} {ix : List Nat}

theorem cmp_start {pins : List (Addr × Obj)} {σ : St} {H : Hp} {s : Shared} {fp : List Addr} {D C : Addr} {h₁ : Heap} {tk : Nat} {ob : Obj} {m : Str → Option Value} (n : CompNames X scope cl x ys ix) (I : Inv X pins σ H s)
    (f : ∀ b ∈ fp, FpOk X pins H b) (fo : ∀ b ∈ fp, b < s.heap.objs.size) (hD : s.heap.objs.size ≤ D) (hC : s.heap.objs.size ≤ C) (hDC : D ≠ C) (old : ∀ b o, s.heap.get? b = some o → h₁.get? b = some o) (hns : h₁.Ns C m) (hob : h₁.get? D = some ob)
    (hcell : ∀ v, ob.data ≠ .cell v) : Inv (cmpCx X (x :: ys) scope cl C fp s H) [(D, ob)] (cst ix σ) H { s with heap := h₁, toks := tk } := by
  have nst : ∀ b, s.heap.objs.size ≤ b → b ∉ frs X.stack := fun b hb z => by
    rcases List.mem_cons.mp (I.stkSub b z) with e | e
    · exact absurd (Nat.lt_of_lt_of_le I.lt (by rw [← e]; exact hb)) (Nat.lt_irrefl _)
    · exact I.nofs hb e
  have lt_cell : ∀ y c, cl.lookup y = some c → c < s.heap.objs.size := fun y c e => by
    obtain ⟨v, q⟩ := I.cell y c (n.sub' y c e)
    exact q.lt
  refine ⟨⟨I.ok.mod, n.kind, I.ok.glob, I.ok.blt, hC, fun y z c h1 h2 => I.ok.inj y z c (n.sub' y c h1) (n.sub' z c h2), n.has', (fun y c h => absurd (show false = true from h) (by decide)), I.ok.hd, I.ok.frames, .inl rfl, fun b hb => ⟨?_, fun y c e => ?_⟩, I.bs,
    Nat.le_trans I.ok.bsz I.sz, fun b o e hb => ?_, fun b hb z => ?_, I.stack, I.stkFree⟩, rfl, I.bare, Un.kept old, ⟨m, hns, fun i y v h1 h2 h3 => ?_⟩, fun y c e => ?_, I.hok.fresh hC, fun y c e => I.freeC y c (n.sub' y c e), fun p hp => ?_, I.hok.kept old, ?_⟩
  · exact Nat.ne_of_lt (Nat.lt_of_lt_of_le (fo b hb) hC)
  · exact (f b hb).2.2.2.2.1 y c (n.sub' y c e)
  · rcases (f b hb).2.2.2.1 with z | z
    · exact I.ok.noex b o e z
    · exact absurd (Nat.lt_of_lt_of_le (Heap.lt_size e) (Nat.le_trans I.ok.bsz z)) (Nat.lt_irrefl _)
  · rcases List.mem_cons.mp (I.stkSub b z) with e | e
    · exact (f b hb).2.1 e
    · exact (f b hb).2.2.1 e
  · cases i with
    | zero =>
      have h2' : (none : Option V) = some v := Option.some.inj h2
      cases h2'
    | succ j =>
      have h1' : ys[j]? = some y := h1
      obtain ⟨i, e1, e2, e3, e4, e5⟩ := n.free.at j y h1'
      have h2' : (ix.map fun j => (σ[j]?).getD none)[j]? = some (some v) := by simpa [cst] using h2
      rw [List.getElem?_map, e1] at h2'
      have h2'' : (σ[i]?).getD none = some v := Option.some.inj h2'
      have h4 : σ[i]? = some (some v) := by
        cases q : σ[i]? with
        | none => rw [q] at h2''; cases h2''
        | some o => rw [q] at h2''; exact congrArg some h2''
      obtain ⟨m', hn', hl⟩ := I.loc
      obtain ⟨u, r, look⟩ := hl i y v e2 h4 (.inr (.inl e3))
      refine ⟨u, r, .inr ⟨.inl e5, ?_⟩⟩
      rcases look with ⟨k, _⟩ | ⟨_, c, e, z⟩
      · rw [e3] at k; cases k
      · refine ⟨c, e4.trans e, ?_⟩
        obtain ⟨o, ho, hd⟩ := z
        exact ⟨o, old _ _ ho, hd⟩
  · obtain ⟨v, o, ho, hd⟩ := I.cell y c (n.sub' y c e)
    exact ⟨v, o, old _ _ ho, hd⟩
  · have hp' : p ∈ [(D, ob)] := hp
    have e := List.mem_singleton.mp hp'
    subst e
    exact ⟨hob, I.hok.fresh hD, hDC, nst D hD, hcell⟩
  · show (none :: ix.map _).length = (x :: ys).length
    simp [n.free.len]

/-- a comprehension's block, whatever is done with the list behind it -/
theorem comp_block {elt iter : Expr} {ifs : List Expr} {px pos : Pos} {tt : TT} {te : TE} {pins : List (Addr × Obj)} {σ : St} {H2 : Hp} {s2 : Shared} {it : Addr} {fp : List Addr} {tn : Nat → Heap → Prop} {J : It} {W : Nat → Nat → List V → Hp → Prop} {m0 : Nat} {Z : List V → Hp → Prop} {RR : Value → Addr → Result → Shared → Prop}
    {E : Value → Shared → Prop} (n : CompNames X scope cl x ys ix) (hc : X.calm = true)
    (ht : ∀ C fp s H, PTs (cmpCx X (x :: ys) scope cl C fp s H) ifs tt) (he : ∀ C fp s H, PE (cmpCx X (x :: ys) scope cl C fp s H) elt te)
    (I2 : Inv X pins σ H2 s2) (T : Turn X.prog X.w X.K (.Name x px) J fp it tn) (st2 : tn 0 s2.heap) (f2 : ∀ b ∈ fp, FpOk X pins H2 b) (w0 : W 0 m0 [] H2)
    (turn : ∀ i m ys H2, W i m ys H2 → (J.stop i H2 ∧ ys.length ≤ sizeLine ∧ Z ys H2) ∨ (J.go i H2 ∧ ys.length ≤ sizeLine ∧ ∀ x H3, J.yld i H2 x H3 → tt ((cst ix σ).set 0 (some x)) H3 fun b H4 =>
      if b = true then te ((cst ix σ).set 0 (some x)) H4 fun v H5 => ∃ m', m' < m ∧ W (i + 1) m' (ys ++ [v]) H5 else ∃ m', m' < m ∧ W (i + 1) m' ys H4))
    (hRR : ∀ (D C : Addr) (s4 : Shared) (H3 : Hp) (zs : List V) (m : Str → Option Value), Inv X pins σ (upd H3 D (.lst zs)) s4 → s4.heap.Ns C m → FpOk X pins (upd H3 D (.lst zs)) C → H3 D = none → Z zs H3 → RR (.ref D) C (.ok .next) s4) :
    wpAny (model X.prog X.w) X.A (newList []) (fun acc s₃ => wpAny (model X.prog X.w) X.A (newFunctionEnv scope X.env.globals cl [] X.env.qual none .none (some X.env)) (fun cenv s₄ =>
      codeAny (model X.prog X.w) X.A (.compStart (.ListComp elt [⟨.Name x px, iter, ifs, 0⟩] scope pos) 0 (.ref it) acc { cenv with scope := relabel scope X.env }) (RR acc cenv.locals) s₄) E s₃) E s2 := by
  have fo : ∀ b ∈ fp, b < s2.heap.objs.size := fun b hb => let ⟨_, e, _⟩ := T.obj _ _ st2 b hb; Heap.lt_size e
  refine wpAny_newObj_type (wpAny_newFunctionEnv n.cell' (by intro y hy; simp at hy) (fun h₁ hns₁ hsb₁ => ?_) n.kind)
  dsimp only at hns₁ hsb₁ ⊢
  generalize hH3 : s2.heap.push { cls := .type "list", dict := none, data := .seq ([] : List Value).toArray } = G at hns₁ hsb₁ ⊢
  have hC : G.objs.size = s2.heap.objs.size + 1 := by rw [← hH3, Heap.size_push]
  have hDC : s2.heap.objs.size ≠ G.objs.size := by rw [hC]; exact Nat.ne_of_lt (Nat.lt_succ_self _)
  have hCle : s2.heap.objs.size ≤ G.objs.size := by rw [hC]; exact Nat.le_succ _
  have below : ∀ b, b < s2.heap.objs.size → b ≠ G.objs.size ∧ b ≠ s2.heap.objs.size := fun b hb => ⟨by rw [hC]; exact Nat.ne_of_lt (Nat.lt_succ_of_lt hb), Nat.ne_of_lt hb⟩
  have old : ∀ b o, s2.heap.get? b = some o → h₁.get? b = some o := fun b o e => hsb₁.extBut b o (below b (Heap.lt_size e)).1 (Heap.get?_push_of_some _ (hH3 ▸ Heap.get?_push_of_some _ e))
  have hacc : h₁.get? s2.heap.objs.size = some { cls := .type "list", data := .seq ([] : List Value).toArray 0 } := hsb₁.extBut _ _ hDC (Heap.get?_push_of_some _ (hH3 ▸ Heap.get?_push_size _ rfl))
  have st1 : tn 0 h₁ := T.keep _ _ _ st2 fun b _ o e => old b o e
  have stat : ∀ {H' : Hp} {ob : Obj}, (∀ b ∈ fp, H' b = none) → ∀ b ∈ fp, FpOk (cmpCx X (x :: ys) scope cl G.objs.size fp s2 H2) [(s2.heap.objs.size, ob)] H' b := fun {H' ob} hn b hb =>
    ⟨hn b hb, (below b (fo b hb)).1, fun z => by
      rcases List.mem_cons.mp (I2.stkSub b z) with e | e
      · exact (f2 b hb).2.1 e
      · exact (f2 b hb).2.2.1 e, .inl hb, fun y c e => (f2 b hb).2.2.2.2.1 y c (n.sub' y c e), fun p hp => by
      have hp' : p ∈ [(s2.heap.objs.size, ob)] := hp
      have e := List.mem_singleton.mp hp'
      subst e
      exact Ne.symm (below b (fo b hb)).2⟩
  have hfin : ∀ (s4 : Shared) (H3 : Hp) (zs : List V) (its : List Value) (k : Nat) (m' : Str → Option Value), Inv (cmpCx X (x :: ys) scope cl G.objs.size fp s2 H2) [(s2.heap.objs.size, { cls := .type "list", data := .seq its.toArray k })] (cst ix σ) H3 s4 → Vals zs its →
      zs.length ≤ sizeLine → Z zs H3 → RR (.ref s2.heap.objs.size) G.objs.size (.ok .next) s4 := by
    intro s4 H3 zs its k m' I4 rv hz q
    obtain ⟨m4, hn4, _⟩ := I4.loc
    obtain ⟨eD, nD, _, _, _⟩ := I4.pin (s2.heap.objs.size, { cls := .type "list", data := .seq its.toArray k }) (by show _ ∈ [] ++ [_]; simp)
    have nC : H3 G.objs.size = none := I4.free
    have hok : HOk X.prog X.w (upd H3 s2.heap.objs.size (.lst zs)) s4.heap := fun b u e => by
      by_cases hb : b = s2.heap.objs.size
      · subst hb
        rw [upd_same] at e
        cases e
        exact ⟨hz, its, k, rv, eD⟩
      · rw [upd_ne hb] at e
        exact (I4.hok b u e).stay (fun c w hc qq => qq) (fun c qq => by rw [upd_ne (ne_of_none qq nD)]; exact qq) fun c xs qq => by rw [upd_ne (ne_of_none qq nD)]; exact qq
    have un : Un (frs X.stack) fp H2 (upd H3 s2.heap.objs.size (.lst zs)) s2.heap s4.heap := by
      have u4 : Un (frs X.stack) fp H2 H3 s2.heap s4.heap := I4.base
      refine ⟨u4.keep, u4.slot, fun b o e nn hx => ?_, u4.there, fun b xs e => ?_, fun b o u e => ?_, fun b ps e => ?_⟩
      · rw [upd_ne (below b (Heap.lt_size e)).2]
        exact u4.free b o e nn hx
      · have z := u4.tups b xs e
        rw [upd_ne (ne_of_none z nD)]
        exact z
      · have z := u4.frzs b o u e
        rw [upd_ne (ne_of_none z nD)]
        exact z
      · obtain ⟨more, z⟩ := u4.tbls b ps e
        exact ⟨more, by rw [upd_ne (ne_of_none z nD)]; exact z⟩
    have I5 : Inv X pins σ (upd H3 s2.heap.objs.size (.lst zs)) s4 := I2.call' (ch := fp) I4.os un hok I4.bare (fun b hb => ⟨(f2 b hb).2.2.2.1, (f2 b hb).2.1, (f2 b hb).2.2.2.2.1, (f2 b hb).2.2.2.2.2⟩)
    exact hRR _ _ s4 H3 zs m4 I5 hn4 (I2.fpOk hCle (by rw [upd_ne (Ne.symm hDC)]; exact nC)) nD q
  have loop : ∀ s₃ : Shared, s₃ = { s2 with heap := h₁, toks := s2.toks + ([] : List (Str × Value)).length } →
      codeAny (model X.prog X.w) X.A (.compLoop (.ListComp elt [⟨.Name x px, iter, ifs, 0⟩] scope pos) 0 (.ref it) (.ref s2.heap.objs.size) (compEnvC scope cl G.objs.size X.env))
        (RR (.ref s2.heap.objs.size) G.objs.size) s₃ := by
    rintro s₃ rfl
    refine codeAny_compLoop_tests (fun m s' => ∃ (i : Nat) (zs : List V) (its : List Value) (k : Nat) (H' : Hp),
        Inv (cmpCx X (x :: ys) scope cl G.objs.size fp s2 H2) [(s2.heap.objs.size, { cls := .type "list", data := .seq its.toArray k })] (cst ix σ) H' s' ∧ Vals zs its ∧ tn i s'.heap ∧ (∀ b ∈ fp, H' b = none) ∧ W i m zs H') ?_ m0
      ⟨0, [], [], 0, H2, cmp_start n I2 f2 fo (Nat.le_refl _) hCle hDC old hns₁ hacc (fun v z => by cases z), .nil, st1, fun b hb => (f2 b hb).1, w0⟩
    rintro m s3 ⟨i, zs, its, k, H3, I3, rv, st3, fr3, w3⟩
    rcases turn i m zs H3 w3 with ⟨stop, hz, qn⟩ | ⟨go, hz, step⟩
    · refine nof (thn (T.done (cmpCx X (x :: ys) scope cl G.objs.size fp s2 H2) rfl rfl rfl hc i _ s3 _ H3 _ I3 (stat fr3) st3 stop) fun r s4 ⟨hr, I4⟩ => ?_)
      subst hr
      exact hfin s4 H3 zs its k (fun _ => none) I4 rv hz qn
    · refine nof (thn (T.item (cmpCx X (x :: ys) scope cl G.objs.size fp s2 H2) rfl rfl rfl hc i _ s3 _ H3 _ I3 (stat fr3) st3 go) fun r s4 ⟨u, hr, h4⟩ => ?_)
      subst hr
      have go_on : ∀ {s5 s7 : Shared} {y : V} {H5 H7 : Hp}, (∀ b ∈ fp, H5 b = none) → tn (i + 1) s5.heap → Inv (cmpCx X (x :: ys) scope cl G.objs.size fp s2 H2) ([(s2.heap.objs.size, { cls := .type "list", data := .seq its.toArray k })] ++ pinsAt fp s5.heap) ((cst ix σ).set 0 (some y)) H7 s7 →
          Inv (cmpCx X (x :: ys) scope cl G.objs.size fp s2 H2) [(s2.heap.objs.size, { cls := .type "list", data := .seq its.toArray k })] (cst ix σ) H7 s7 ∧ tn (i + 1) s7.heap ∧ (∀ b ∈ fp, H7 b = none) := by
        intro s5 s7 y H5 H7 fr5 st5 I7
        have pn : ∀ b o, b ∈ fp → s5.heap.get? b = some o → s7.heap.get? b = some o ∧ H7 b = none := fun b o hb e => by
          have z := I7.pin (b, o) (List.mem_append_right _ (List.mem_append_right _ (mem_pinsAt hb e)))
          exact ⟨z.1, z.2.1⟩
        refine ⟨(I7.weak (σ' := cst ix σ) (by simp) fun j v e => ?_).unpinned, T.keep _ _ _ st5 fun b hb o e => (pn b o hb e).1, fun b hb => ?_⟩
        · cases j with
          | zero =>
            have e' : (none : Option V) = some v := Option.some.inj e
            cases e'
          | succ j => simpa [cst] using e
        · obtain ⟨o, e, _⟩ := T.obj _ _ st5 b hb
          exact (pn b o hb e).2
      have e0 : (letOwnedTupleGo (.Name x px) (.ref it) u >>= fun _ => assign (.Name x px) (compEnvC scope cl G.objs.size X.env) u) = assign (.Name x px) (compEnvC scope cl G.objs.size X.env) u := rfl
      show wpAny _ _ (assign (.Name x px) (compEnvC scope cl G.objs.size X.env) u) _ _ s4
      rw [← e0]
      refine nof (wpAny_bind (thn h4 fun _ s5 ⟨y, H5, I5, r5, y5, st5, fr5⟩ => ?_))
      have I5' := I5.pinned (stat fr5) (T.obj _ _ st5)
      have lx : (relabel scope X.env).names.lookup x = some .local := lookup_relabel_local n.hx
      have pg : PG (cmpCx X (x :: ys) scope cl G.objs.size fp s2 H2) (.Name x px) (gName 0) := pg_name n.nd rfl (.inl lx) (.inr lx)
      refine thn (pg _ s5 _ H5 y u (fun σ' H' => σ' = (cst ix σ).set 0 (some y) ∧ H' = H5) I5' r5 ⟨rfl, rfl⟩) fun _ s6 ⟨σ6, H6, I6, e6, e6'⟩ => ?_
      subst e6 e6'
      refine nof (thn (ht _ _ _ _ _ s6 _ _ _ I6 (step y _ y5)) fun b s7 ⟨H7, I7, q7⟩ => ?_)
      cases b with
      | false =>
        rw [if_neg (by decide)] at q7 ⊢
        obtain ⟨m', hm, w7⟩ := q7
        obtain ⟨I8, st8, fr8⟩ := go_on fr5 st5 I7
        exact ⟨m', hm, i + 1, zs, its, k, H7, I8, rv, st8, fr8, w7⟩
      | true =>
        rw [if_pos rfl] at q7 ⊢
        refine nof (thn (he _ _ _ _ _ s7 _ _ _ I7 q7) fun v8 s8 ⟨z8, H8, I8, r8, m', hm, w8⟩ => ?_)
        obtain ⟨I9, st9, fr9⟩ := go_on fr5 st5 I8
        obtain ⟨eD, nD, neL, _, _⟩ := I9.pin (s2.heap.objs.size, { cls := .type "list", data := .seq its.toArray k }) (by show _ ∈ [] ++ [_]; simp)
        refine append_at eD (fun h' hs' hD' => ?_) (by rw [List.size_toArray, ← rv.length]; exact hz)
        have kp : ∀ b o, b ≠ s2.heap.objs.size → s8.heap.get? b = some o → h'.get? b = some o := fun b o hb e => hs'.extBut b o hb e
        have lt_cell : ∀ y c, cl.lookup y = some c → c ≠ s2.heap.objs.size := fun y c e => by
          obtain ⟨v, q⟩ := I2.cell y c (n.sub' y c e)
          exact Nat.ne_of_lt q.lt
        have nst : s2.heap.objs.size ∉ frs X.stack := fun z => by
          rcases List.mem_cons.mp (I2.stkSub _ z) with e | e
          · exact absurd (Nat.lt_of_lt_of_le I2.lt (by rw [← e]; exact Nat.le_refl _)) (Nat.lt_irrefl _)
          · exact I2.nofs (Nat.le_refl _) e
        have I10 : Inv (cmpCx X (x :: ys) scope cl G.objs.size fp s2 H2) [] (cst ix σ) H8 { s8 with heap := h', toks := s8.toks } :=
          (I9.pins_of (pins' := []) fun p hp => absurd hp (by simp)).turned (it := s2.heap.objs.size) kp nD neL (.inr (Nat.le_refl _)) lt_cell fun p hp => absurd (show p ∈ ([] : List (Addr × Obj)) from hp) (by simp)
        refine ⟨m', hm, i + 1, zs ++ [z8], its ++ [v8], k + 1, H8, I10.pins_of fun p hp => ?_, rv.append (.cons r8 .nil), T.keep _ _ _ st9 fun b hb o e => kp b o (below b (fo b hb)).2 e, fr9, w8⟩
        have e := List.mem_singleton.mp hp
        subst e
        refine ⟨?_, nD, hDC, nst, fun v z => by cases z⟩
        rw [← List.push_toArray]
        exact hD'
  exact codeAny_compStart_list (loop _ rfl) (T.self X.A 0 _ _ _ st1 (loop _ rfl))
theorem pe_comp {elt iter : Expr} {ifs : List Expr} {px pos : Pos} {wi : TI} {tt : TT} {te : TE} (n : CompNames X scope cl x ys ix) (hc : X.calm = true) (hi : PI X (.Name x px) iter wi)
    (ht : ∀ C fp s H, PTs (cmpCx X (x :: ys) scope cl C fp s H) ifs tt) (he : ∀ C fp s H, PE (cmpCx X (x :: ys) scope cl C fp s H) elt te)
    (hs : ∀ x, foldedSetIterable iter X.env x = pure x := by intro _; rfl) : PE X (.ListComp elt [⟨.Name x px, iter, ifs, 0⟩] scope pos) (tComp wi ix tt te) := by
  intro pins s σ H Q I h
  rw [eval_ListComp]
  refine wpAny_comprehension_free (use := none) rfl hs n.clos n.kind n.names' (thn (hi pins s σ H _ I h) fun v s1 h1 => thn h1 fun itv s2 h2 => ?_)
  obtain ⟨it, fp, tn, J, H2, e, I2, T, st2, f2, W, ⟨m0, w0⟩, turn⟩ := h2
  subst e
  refine comp_block (RR := fun acc C => compPost (model X.prog X.w) X.A X.xe none (EP X pins σ Q) acc C) (Z := fun zs H3 => ∀ p, H3 p = none → Q (.ref p) (upd H3 p (.lst zs))) n hc ht he I2 T st2 f2 w0 turn ?_
  intro D C s4 H3 zs m I4 hn4 fC nD q
  refine ⟨m, hn4, fun h' hs' => ?_⟩
  exact ⟨.ref D, _, I4.turned (t' := s4.toks) (fun b o hb e => hs'.extBut b o hb e) fC.1 fC.2.1 fC.2.2.2.1 fC.2.2.2.2.1 fC.2.2.2.2.2, rfl, q D nD⟩
end
end L2

namespace L2
open PySem PySem.Spec PyProof.Rows

/-! ### texts by their codes -/
abbrev tx (l : List Nat) : Str := ⟨l.toArray⟩
theorem tx_len (l : List Nat) : (tx l).length = l.length := by simp [tx, Str.length]
theorem tx_inj {l m : List Nat} (h : tx l = tx m) : l = m := by
  have h1 := congrArg (fun z : Str => z.cps.toList) h
  simpa using h1
theorem tx_add (l m : List Nat) : tx l ++ tx m = tx (l ++ m) := by
  show Str.append (tx l) (tx m) = tx (l ++ m)
  unfold Str.append
  simp [tx]
theorem v_tx {l m : List Nat} : (V.str (tx l) = V.str (tx m)) ↔ l = m := ⟨fun h => tx_inj (V.str.inj h), fun h => by rw [h]⟩
theorem dec_tx {l m : List Nat} : decide (V.str (tx l) = V.str (tx m)) = decide (l = m) := by
  by_cases h : l = m
  · rw [decide_eq_true h, decide_eq_true (v_tx.mpr h)]
  · rw [decide_eq_false h, decide_eq_false fun z => h (v_tx.mp z)]

def cutL {α : Type} (l : List α) (lo hi : Option Int) : List α := (l.drop (HT.sIx l.length 0 lo)).take (HT.sIx l.length l.length hi - HT.sIx l.length 0 lo)

theorem pick_run (l : List Nat) (i k : Nat) : ((List.range k).map fun (m : Nat) => i + m).filterMap (l[·]?) = (l.drop i).take k := by
  induction k generalizing i with
  | zero => simp
  | succ k ih =>
    rw [List.range_succ_eq_map, List.map_cons, List.map_map]
    have e : ((fun (m : Nat) => i + m) ∘ Nat.succ) = fun m => (i + 1) + m := by
      funext m
      simp only [Function.comp]
      omega
    rw [e]
    by_cases h : i < l.length
    · rw [List.filterMap_cons_some (b := l[i]) (by simp [h]), ih (i + 1), List.drop_eq_getElem_cons h, List.take_succ_cons]
    · rw [List.filterMap_cons_none (by simp; omega), ih (i + 1), List.drop_eq_nil_of_le (by omega), List.drop_eq_nil_of_le (by omega)]
      simp
theorem sliceRange_one (a b : Nat) : sliceRange (a : Int) (b : Int) 1 = (List.range (b - a)).map fun (m : Nat) => a + m := by
  unfold sliceRange
  have e : (if (1 : Int) > 0 then (if (a : Int) < b then ((b : Int) - a + 1 - 1) / 1 else 0) else (if (a : Int) > b then ((a : Int) - b - 1 - 1) / (-1) else 0)).toNat = b - a := by
    rw [if_pos (by decide)]
    split <;> (try simp only [Int.ediv_one]) <;> omega
  dsimp only
  rw [e]
  apply List.map_congr_left
  intro m _
  omega
theorem indices_one (lo hi : Option Int) (n : Nat) : Builtin.Str.strSliceIndices lo hi 1 n = (List.range (HT.sIx n n hi - HT.sIx n 0 lo)).map fun (m : Nat) => HT.sIx n 0 lo + m := by
  unfold Builtin.Str.strSliceIndices
  rw [← sliceRange_one]
  have e1 : ∀ d : Nat, ∀ v : Int, max 0 (min (if v < 0 then v + (n : Int) else v) (n : Int)) = ((HT.sIx n d (some v) : Nat) : Int) := fun d v => by
    rw [← HT.clip_eq v n d]
    split <;> omega
  cases lo with
  | none =>
    cases hi with
    | none => simp only [HT.sIx_none]; rfl
    | some v =>
      simp only [HT.sIx_none]
      show sliceRange 0 (max 0 (min (if v < 0 then v + (n : Int) else v) (n : Int))) 1 = _
      rw [e1 n v]; rfl
  | some u =>
    cases hi with
    | none =>
      simp only [HT.sIx_none]
      show sliceRange (max 0 (min (if u < 0 then u + (n : Int) else u) (n : Int))) (n : Int) 1 = _
      rw [e1 0 u]
    | some v =>
      show sliceRange (max 0 (min (if u < 0 then u + (n : Int) else u) (n : Int))) (max 0 (min (if v < 0 then v + (n : Int) else v) (n : Int))) 1 = _
      rw [e1 0 u, e1 n v]
theorem slice_tx (l : List Nat) (lo hi : Option Int) : Txt.slice (tx l) lo hi = tx (cutL l lo hi) := by
  have key : (Builtin.Str.strSliceIndices lo hi 1 l.length).filterMap (l[·]?) = cutL l lo hi := by
    rw [indices_one, pick_run]; rfl
  unfold Txt.slice
  rw [tx_len]
  split
  · rename_i h
    have h1 : (Builtin.Str.strSliceIndices lo hi 1 l.length).length = l.length := by simpa using h
    rw [indices_one, List.length_map, List.length_range] at h1
    have a := HT.sIx_le l.length l.length (Nat.le_refl _) hi
    have b := HT.sIx_le l.length 0 (Nat.zero_le _) lo
    have e : cutL l lo hi = l := by
      unfold cutL
      by_cases hn : l.length = 0
      · have : l = [] := List.length_eq_zero_iff.mp hn
        subst this
        simp
      · have e0 : HT.sIx l.length 0 lo = 0 := by omega
        rw [h1, e0]
        simp
    rw [e]
  · have e : (fun (i : Nat) => (tx l).cps[i]?) = fun (i : Nat) => l[i]? := by funext i; simp
    show (⟨((Builtin.Str.strSliceIndices lo hi 1 l.length).filterMap fun i => (tx l).cps[i]?).toArray⟩ : Str) = _
    rw [e, key]
theorem rev_tx (l : List Nat) : ((Builtin.Str.strSliceIndices none none (-1) l.length).filterMap fun (i : Nat) => (tx l).cps[i]?) = l.reverse := by
  have e : (fun (i : Nat) => (tx l).cps[i]?) = fun (i : Nat) => l[i]? := by funext i; simp
  rw [e]
  have e2 : Builtin.Str.strSliceIndices none none (-1) l.length = (List.range l.length).map fun (k : Nat) => l.length - 1 - k := by
    show sliceRange ((l.length : Int) - 1) (-1) (-1) = _
    unfold sliceRange
    have e3 : (if (-1 : Int) > 0 then (if (l.length : Int) - 1 < -1 then (-1 - ((l.length : Int) - 1) + (-1) - 1) / (-1) else 0) else (if (l.length : Int) - 1 > -1 then ((l.length : Int) - 1 - (-1) - (-1) - 1) / (- -1) else 0)).toNat = l.length := by
      rw [if_neg (by decide)]
      have : (- -1 : Int) = 1 := by decide
      rw [this]
      split <;> (try simp only [Int.ediv_one]) <;> omega
    dsimp only
    rw [e3]
    apply List.map_congr_left
    intro m hm
    have := List.mem_range.mp hm
    omega
  rw [e2]
  apply List.ext_getElem?
  intro i
  have : ((List.range l.length).map fun (k : Nat) => l.length - 1 - k).filterMap (fun (i : Nat) => l[i]?) = (List.range l.length).map fun (k : Nat) => (l[l.length - 1 - k]?).getD 0 := by
    have gen : ∀ ks : List Nat, (∀ k ∈ ks, k < l.length) → (ks.map fun (k : Nat) => l.length - 1 - k).filterMap (fun (i : Nat) => l[i]?) = ks.map fun (k : Nat) => (l[l.length - 1 - k]?).getD 0 := by
      intro ks
      induction ks with
      | nil => intro _; rfl
      | cons k ks ih =>
        intro hk
        have hk' := hk k List.mem_cons_self
        have hlt : l.length - 1 - k < l.length := by omega
        rw [List.map_cons, List.map_cons, List.filterMap_cons_some (b := l[l.length - 1 - k]) (by simp [hlt]), ih fun j hj => hk j (List.mem_cons_of_mem _ hj)]
        simp [hlt]
    exact gen _ fun k hk => List.mem_range.mp hk
  rw [this]
  by_cases h : i < l.length
  · rw [List.getElem?_map, List.getElem?_range h, List.getElem?_reverse h]
    have : l.length - 1 - i < l.length := by omega
    simp [this]
  · rw [List.getElem?_eq_none (by simpa using h), List.getElem?_eq_none (by simpa using h)]

section
variable {X : Cx} {tg : Expr}
def Its (l : List Nat) : It := ⟨fun i _ => i < l.length, fun i H v H' => H' = H ∧ ∃ c, l[i]? = some c ∧ v = .str (tx [c]), fun i _ => l.length ≤ i⟩
theorem turn_str {P : Program} {w : World} {K : PySem.W.Frag} {ty : String} (hty : ty = "str_ascii_iterator" ∨ ty = "str_iterator") (it : Addr) (l : List Nat) (t : Tok) : Turn P w K tg (Its l) [it] it (fun i h => h.IsStrIter it ty (tx l) t i) where
  mem := by simp
  obj := fun i h st b hb => by
    have e : b = it := by simpa using hb
    subst e
    obtain ⟨o, e, c, d⟩ := st
    exact ⟨o, e, fun v z => by rw [d] at z; cases z⟩
  keep := fun i h h' st k => let ⟨o, e, r⟩ := st; ⟨o, k it (by simp) o e, r⟩
  item := by
    intro X hP hw hK hc i pins s σ H E I hf st hg
    subst hP hw hK
    obtain ⟨f0, f1, f2, f3, f4, f5⟩ := hf it (by simp)
    have W : Walks X.prog X.w X.A it [it] [it] (tx l).cps.size (SignAt (tx l)) (fun i h => h.IsStrIter it ty (tx l) t i) := by
      rcases hty with rfl | rfl
      · exact Walks.strAscii (I.ok.hd hc) it (tx l) t
      · exact Walks.strWide (I.ok.hd hc) it (tx l) t
    refine W.item i s _ _ (by simpa using (show i < l.length from hg)) st fun v h' tk hv st' kk => ?_
    obtain ⟨c, t', hc', rfl⟩ := hv
    have I1 : Inv X pins σ H { s with heap := h', toks := tk } := I.turned (fun b o hb e => kk b o (by simpa using hb) e) f0 f1 f3 f4 f5
    obtain ⟨o, e, c0, d⟩ := id st'
    exact ⟨_, rfl, go_of (s := { s with heap := h', toks := tk }) e c0 d (by rcases hty with rfl | rfl <;> decide) ⟨.str (tx [c]), H, I1, ⟨t', rfl⟩, ⟨rfl, c, by simpa using hc', rfl⟩, st', fun b hb => (hf b hb).1⟩⟩
  done := by
    intro X hP hw hK hc i pins s σ H E I hf st hg
    subst hP hw hK
    obtain ⟨f0, f1, f2, f3, f4, f5⟩ := hf it (by simp)
    have hg' : (tx l).cps[i]? = none := by have : l.length ≤ i := hg; simpa using this
    rcases hty with rfl | rfl
    · exact wpAny_pyNext_ascii_end (I.ok.hd hc) st hg' fun h' eb => ⟨rfl, I.turned (t' := s.toks) (fun b o hb e => eb b o hb e) f0 f1 f3 f4 f5⟩
    · exact wpAny_pyNext_wide_end (I.ok.hd hc) st hg' fun h' eb => ⟨rfl, I.turned (t' := s.toks) (fun b o hb e => eb b o hb e) f0 f1 f3 f4 f5⟩
  self := fun A i s Q E st h => by
    rcases hty with rfl | rfl
    · exact wpAny_pyIter_striter_ascii st h
    · exact wpAny_pyIter_striter_wide st h
def iStr (tl : TE) : TI := fun σ H R => tl σ H fun x H1 => ∃ l, x = .str (tx l) ∧ R (Its l) H1
theorem pi_str {e : Expr} {tl : TE} (hl : PE X e tl) : PI X tg e (iStr tl) := by
  intro pins s σ H R I h
  refine thn (hl pins s σ H _ I h) fun v s1 ⟨x, H1, I1, r1, q1⟩ => ?_
  obtain ⟨l, e, q⟩ := q1
  subst e
  obtain ⟨t, rfl⟩ := r1
  have fin : ∀ (ty : String), (ty = "str_ascii_iterator" ∨ ty = "str_iterator") → PIE X pins σ tg R (.ref s1.heap.objs.size) { s1 with heap := s1.heap.push { cls := .type ty, data := .fields #[.str (tx l) t, .int 0 0] } } := fun ty hty => by
    refine ⟨s1.heap.objs.size, [s1.heap.objs.size], _, _, H1, rfl, I1.kept (t' := s1.toks) fun b o e => Heap.get?_push_of_some _ e, turn_str hty _ l t, ⟨_, Heap.get?_push_size _ rfl, rfl, rfl⟩, fun b hb => ?_, q⟩
    have e : b = s1.heap.objs.size := by simpa using hb
    subst e
    exact I1.fpOk (Nat.le_refl _) (I1.hok.fresh (Nat.le_refl _))
  cases ha : (tx l).cps.all (· < 128)
  · exact wpAny_pyIter_wide ha (fin _ (.inr rfl))
  · exact wpAny_pyIter_ascii ha (fin _ (.inl rfl))
/-! ### comprehensions, the forms one uses: W by the turn and what is gathered -/
theorem comp_str {l : List Nat} {σ : St} {ix : List Nat} {tt : TT} {te : TE} {H : Hp} {Z : List V → Hp → Prop} (hl : l.length ≤ sizeLine) (Pv : Nat → List V → Hp → Prop) (h0 : Pv 0 [] H)
    (hs : ∀ i c ys H (N : List V → Hp → Prop), l[i]? = some c → ys.length ≤ i → Pv i ys H → (∀ ys' H', ys'.length ≤ i + 1 → Pv (i + 1) ys' H' → N ys' H') →
      tt ((cst ix σ).set 0 (some (.str (tx [c])))) H fun b H4 => if b = true then te ((cst ix σ).set 0 (some (.str (tx [c])))) H4 fun v H5 => N (ys ++ [v]) H5 else N ys H4)
    (hd : ∀ ys H, ys.length ≤ l.length → Pv l.length ys H → Z ys H) :
    ∃ W : Nat → Nat → List V → Hp → Prop, (∃ m, W 0 m [] H) ∧ ∀ i m ys H2, W i m ys H2 →
      ((Its l).stop i H2 ∧ ys.length ≤ sizeLine ∧ Z ys H2) ∨
      ((Its l).go i H2 ∧ ys.length ≤ sizeLine ∧ ∀ x H3, (Its l).yld i H2 x H3 → tt ((cst ix σ).set 0 (some x)) H3 fun b H4 =>
        if b = true then te ((cst ix σ).set 0 (some x)) H4 fun v H5 => ∃ m', m' < m ∧ W (i + 1) m' (ys ++ [v]) H5 else ∃ m', m' < m ∧ W (i + 1) m' ys H4) := by
  refine ⟨fun i m ys H => m = l.length - i ∧ i ≤ l.length ∧ ys.length ≤ i ∧ Pv i ys H, ⟨l.length, by simp, Nat.zero_le _, Nat.le_refl _, h0⟩, ?_⟩
  rintro i m ys H ⟨rfl, hi, hy, p⟩
  by_cases hlt : i < l.length
  · refine .inr ⟨hlt, by omega, fun x H' y => ?_⟩
    obtain ⟨e, c, hc, e2⟩ := y
    subst e e2
    exact hs i c ys _ (fun ys' H5 => ∃ m', m' < l.length - i ∧ m' = l.length - (i + 1) ∧ i + 1 ≤ l.length ∧ ys'.length ≤ i + 1 ∧ Pv (i + 1) ys' H5) hc hy p fun ys' H' h1 h2 => ⟨l.length - (i + 1), by omega, rfl, hlt, h1, h2⟩
  · have e : i = l.length := by omega
    subst e
    exact .inl ⟨Nat.le_refl _, by omega, hd ys H hy p⟩
theorem comp_range {lo : Int} {n : Nat} {σ : St} {ix : List Nat} {tt : TT} {te : TE} {H : Hp} {Z : List V → Hp → Prop} (hl : n ≤ sizeLine) (Pv : Nat → List V → Hp → Prop) (h0 : Pv 0 [] H)
    (hs : ∀ i ys H (N : List V → Hp → Prop), i < n → ys.length ≤ i → Pv i ys H → (∀ ys' H', ys'.length ≤ i + 1 → Pv (i + 1) ys' H' → N ys' H') →
      tt ((cst ix σ).set 0 (some (.int (lo + i)))) H fun b H4 => if b = true then te ((cst ix σ).set 0 (some (.int (lo + i)))) H4 fun v H5 => N (ys ++ [v]) H5 else N ys H4)
    (hd : ∀ ys H, ys.length ≤ n → Pv n ys H → Z ys H) :
    ∃ W : Nat → Nat → List V → Hp → Prop, (∃ m, W 0 m [] H) ∧ ∀ i m ys H2, W i m ys H2 →
      ((Itr lo n).stop i H2 ∧ ys.length ≤ sizeLine ∧ Z ys H2) ∨
      ((Itr lo n).go i H2 ∧ ys.length ≤ sizeLine ∧ ∀ x H3, (Itr lo n).yld i H2 x H3 → tt ((cst ix σ).set 0 (some x)) H3 fun b H4 =>
        if b = true then te ((cst ix σ).set 0 (some x)) H4 fun v H5 => ∃ m', m' < m ∧ W (i + 1) m' (ys ++ [v]) H5 else ∃ m', m' < m ∧ W (i + 1) m' ys H4) := by
  refine ⟨fun i m ys H => m = n - i ∧ i ≤ n ∧ ys.length ≤ i ∧ Pv i ys H, ⟨n, by simp, Nat.zero_le _, Nat.le_refl _, h0⟩, ?_⟩
  rintro i m ys H ⟨rfl, hi, hy, p⟩
  by_cases hlt : i < n
  · refine .inr ⟨hlt, by omega, fun x H' y => ?_⟩
    obtain ⟨e, e2⟩ := y
    subst e e2
    exact hs i ys _ (fun ys' H5 => ∃ m', m' < n - i ∧ m' = n - (i + 1) ∧ i + 1 ≤ n ∧ ys'.length ≤ i + 1 ∧ Pv (i + 1) ys' H5) hlt hy p fun ys' H' h1 h2 => ⟨n - (i + 1), by omega, rfl, hlt, h1, h2⟩
  · have e : i = n := by omega
    subst e
    exact .inl ⟨Nat.le_refl _, by omega, hd ys H hy p⟩

/-! ### operations on texts -/
theorem op_addS : OpR X (binaryOp .Add) (fun x y H Q => ∃ l m, x = .str (tx l) ∧ y = .str (tx m) ∧ l.length + m.length ≤ sizeLine ∧ Q (.str (tx (l ++ m))) H) := by
  intro pins s σ H x y v u Q I rx ry h
  obtain ⟨l, m, rfl, rfl, hz, q⟩ := h
  refine op_add_str pins s σ H _ _ v u Q I rx ry ⟨tx l, tx m, rfl, rfl, by rw [tx_len, tx_len]; exact hz, ?_⟩
  rw [tx_add]; exact q
theorem op_inS : OpR X (compareOp .In) (fun x y H Q => ∃ c l, x = .str (tx [c]) ∧ y = .str (tx l) ∧ Q (.bl (decide (c ∈ l))) H) := by
  intro pins s σ H x y v u Q I rx ry h
  obtain ⟨c, l, rfl, rfl, q⟩ := h
  refine op_in_str pins s σ H _ _ v u Q I rx ry ⟨tx [c], tx l, rfl, rfl, ?_⟩
  rw [StrLaws.found_one]
  simpa using q
theorem op_notInS : OpR X (compareOp .NotIn) (fun x y H Q => ∃ c l, x = .str (tx [c]) ∧ y = .str (tx l) ∧ Q (.bl (!decide (c ∈ l))) H) := by
  intro pins s σ H x y v u Q I rx ry h
  obtain ⟨c, l, rfl, rfl, q⟩ := h
  refine op_notin_str pins s σ H _ _ v u Q I rx ry ⟨tx [c], tx l, rfl, rfl, ?_⟩
  rw [StrLaws.found_one]
  simpa using q
def rIxS' : R2 := fun x y H Q => ∃ l i c, x = .str (tx l) ∧ y = .int i ∧ l.length ≤ sizeLine ∧ atI l i = some c ∧ Q (.str (tx [c])) H
theorem ix_strS : IxR X rIxS' := by
  intro value slice pins s σ H x y v u Q I rx ry h hs
  obtain ⟨l, i, c, rfl, rfl, hz, ha, q⟩ := h
  exact ix_str value slice pins s σ H _ _ v u Q I rx ry ⟨tx l, i, c, rfl, rfl, by rw [tx_len]; exact hz, by simpa using ha, q⟩ hs
def rSlS : V → Option Int → Option Int → Hp → VK → Prop := fun x lo hi H Q => ∃ l, x = .str (tx l) ∧ l.length ≤ sizeLine ∧ Q (.str (tx (cutL l lo hi))) H
theorem sl_strS : SlR X rSlS := by
  intro pins s σ H x v vl vu lo hi sl Q I rx hs pl pu h
  obtain ⟨l, rfl, hz, q⟩ := h
  obtain ⟨t, rfl⟩ := rx
  refine ⟨"str", _, F.slot_str_getitem.lookup, typeIs_str _ _ _, ?_⟩
  have fin : ∀ t' k, EP X pins σ Q (.str (Txt.slice (tx l) lo hi) t') { s with toks := k } := fun t' k => by
    rw [slice_tx]
    exact ⟨.str (tx (cutL l lo hi)), H, I.tok k, ⟨t', rfl⟩, q⟩
  have sz : (Txt.slice (tx l) lo hi).length ≤ sizeLine := Nat.le_trans (Txt.slice_le _ _ _) (by rw [tx_len]; exact hz)
  obtain ⟨o, e1, e2, e3⟩ := hs
  cases pl with
  | none =>
    cases pu with
    | none => exact wpAny_getItem_str_slice (l := none) (u := none) (st := none) ⟨o, e1, e2, e3⟩ rfl (post_val_or_str ⟨sz, fin⟩)
    | int j uj => exact wpAny_getItem_str_slice (l := none) (u := some (j, uj)) (st := none) ⟨o, e1, e2, e3⟩ rfl (post_val_or_str ⟨sz, fin⟩)
  | int i ui =>
    cases pu with
    | none => exact wpAny_getItem_str_slice (l := some (i, ui)) (u := none) (st := none) ⟨o, e1, e2, e3⟩ rfl (post_val_or_str ⟨sz, fin⟩)
    | int j uj => exact wpAny_getItem_str_slice (l := some (i, ui)) (u := some (j, uj)) (st := none) ⟨o, e1, e2, e3⟩ rfl (post_val_or_str ⟨sz, fin⟩)
/-- e[::-1] -/
def tRev (te ts : TE) : TE := fun σ H Q => te σ H fun x H1 => ts σ H1 fun y H2 => ∃ l, x = .str (tx l) ∧ y = .int (-1) ∧ l.length ≤ sizeLine ∧ Q (.str (tx l.reverse)) H2
theorem pe_rev {e st : Expr} {te ts : TE} {p2 pos : Pos} (he : PE X e te) (hst : PE X st ts) : PE X (.Subscript e (.Slice none none (some st) p2) pos) (tRev te ts) := by
  intro pins s σ H Q I h
  refine Subscript_ (thn (he pins s σ H _ I h) fun v s1 ⟨x, H1, I1, r1, q1⟩ => ?_)
  refine wpAny_Slice ?_
  rw [evalPart_none]
  refine wpAny_pure ?_
  refine wpAny_pure ?_
  rw [evalPart_some]
  refine thn (hst pins s1 σ H1 _ I1 q1) fun w s2 ⟨y, H2, I2, r2, q2⟩ => ?_
  obtain ⟨l, rfl, rfl, hz, q⟩ := q2
  obtain ⟨t, rfl⟩ := r1
  obtain ⟨u, rfl⟩ := r2
  have I3 : Inv X pins σ H2 { s2 with heap := s2.heap.push { cls := .type "slice", data := .fields #[.none, .none, .int (-1) u] } } := I2.kept (t' := s2.toks) fun b ob q => Heap.get?_push_of_some _ q
  show wpAny (model X.prog X.w) X.A (subscriptTail e (.Slice none none (some st) p2) (.str (tx l) t) (.ref s2.heap.objs.size)) (EP X pins σ Q) X.xe { s2 with heap := s2.heap.push { cls := .type "slice", data := .fields #[.none, .none, .int (-1) u] } }
  refine tail_any (ops := [.ref s2.heap.objs.size, .str (tx l) t]) (typeIs_str _ _ _) F.slot_str_getitem.lookup ?_ (by with_unfolding_all rfl)
  refine wpAny_getItem_str_slice (l := none) (u := none) (st := some (-1, u)) ⟨_, Heap.get?_push_size _ rfl, rfl, rfl⟩ (show ((-1 : Int) == 0) = false by decide) ?_
  have e1 : (slicePicked (tx l) none none (some (-1, u))).filterMap (fun (i : Nat) => (tx l).cps[i]?) = l.reverse := by
    unfold slicePicked
    rw [tx_len]
    exact rev_tx l
  unfold sliceMade
  rw [if_neg (by
    show ¬ ((((-1 : Int) == 1) && _) = true)
    rw [show ((-1 : Int) == 1) = false by decide]
    simp)]
  rw [e1]
  exact ⟨by show (tx l.reverse).length ≤ sizeLine; rw [tx_len, List.length_reverse]; exact hz, .str (tx l.reverse), H2, I3.tok _, ⟨_, rfl⟩, q⟩
end
end L2

namespace L2
open PySem PySem.Spec PyProof.Rows

def repL (l : List Nat) (k : Nat) : List Nat := (List.replicate k l).flatten
section
variable {X : Cx}
/-! ### ''.join(texts) -/
theorem strsAre_of : ∀ {zs : List (List Nat)} {us : List Value}, Vals (zs.map fun z => V.str (tx z)) us → StrsAre us (zs.map tx)
  | [], _, r => by
    rw [List.map_nil] at r
    cases r
    exact .nil
  | z :: zs, _, r => by
    rw [List.map_cons] at r
    cases r with
    | cons r1 r2 =>
      obtain ⟨t, e⟩ := r1
      subst e
      exact .cons _ t (strsAre_of r2)
/-! ### isinstance(x, T), all(bools) -/
theorem call_isT : CallR X (.builtin "isinstance") (fun xs H Q => ∃ x T t b, xs = [x, .ty T] ∧ TyOf X.K H x t ∧ PySem.W.kitOne X.K t (.type T) = some b ∧ Q (.bl b) H) := by
  intro pins s σ H xs us Q I r h
  obtain ⟨x, T, t, b, rfl, ty, e, q⟩ := h
  obtain ⟨u, w', rfl, ru, rw'⟩ := vals2 r
  obtain rfl : w' = Value.type T := rw'
  exact isinst_ok I ru ty e fun tk => ⟨.bl b, H, I.tok tk, rfl, q⟩
theorem vals_bl : ∀ {bs : List Bool} {us : List Value}, Vals (bs.map V.bl) us → us = bs.map Value.bool
  | [], _, r => by
    rw [List.map_nil] at r
    cases r
    rfl
  | b :: bs, _, r => by
    rw [List.map_cons] at r
    cases r with
    | cons r1 r2 =>
      have e : _ = Value.bool b := r1
      rw [e, vals_bl r2, List.map_cons]
theorem call_allB (hc : X.calm = true) : CallR X (.builtin "all") (fun xs H Q => ∃ (p : Addr) (bs : List Bool), xs = [.ref p] ∧ SqL X.K H p (bs.map V.bl) ∧ Q (.bl (bs.all id)) H) := by
  intro pins s σ H xs us Q I r h
  obtain ⟨p, bs, rfl, hq, q⟩ := h
  obtain ⟨u, rfl, ru⟩ := vals1 r
  cases ru
  obtain ⟨its, rv, pl, _⟩ := I.list hq
  have e := vals_bl rv
  subst e
  have hlt : p < s.heap.objs.size := by obtain ⟨o, _, e, _⟩ := pl; exact Heap.lt_size e
  refine call_all_walk (wpAny_pyIter_list pl.isList ?_)
  refine ⟨s.heap.objs.size, [s.heap.objs.size, p], [s.heap.objs.size], _, _, _, fun i => bs.getD i true, rfl, Walks.list (show X.A.in1.handled = none from I.ok.hd hc) _ p (Nat.ne_of_lt hlt) (bs.map Value.bool).toArray, ⟨⟨_, Heap.get?_push_size _ rfl, rfl, rfl⟩, pl.isList.push _⟩, ?_, ?_⟩
  · intro i v s' Q' E' hP hQ'
    have hv : bs[i]?.map Value.bool = some v := by simpa using hP
    cases e : bs[i]? with
    | none => rw [e] at hv; cases hv
    | some b =>
      rw [e] at hv
      have hv' : Value.bool b = v := Option.some.inj hv
      subst hv'
      have e2 : bs.getD i true = b := by rw [List.getD_eq_getElem?_getD, e]; rfl
      have hQ2 : Q' (bs.getD i true) s' := hQ'
      rw [e2] at hQ2
      exact wpAny_truthy_bool hQ2
  · intro h' tk kk
    have e3 : (List.range (bs.map Value.bool).toArray.size).all (fun i => bs.getD i true) = bs.all id := by
      rw [List.size_toArray, List.length_map]
      clear hq q rv pl kk
      apply Bool.eq_iff_iff.mpr
      rw [List.all_eq_true, List.all_eq_true]
      constructor
      · intro h b hb
        obtain ⟨i, hi, e⟩ := List.getElem_of_mem hb
        have := h i (List.mem_range.mpr hi)
        rw [List.getD_eq_getElem?_getD, List.getElem?_eq_getElem hi] at this
        simpa [e] using this
      · intro h i hi
        have hi' := List.mem_range.mp hi
        rw [List.getD_eq_getElem?_getD, List.getElem?_eq_getElem hi']
        exact h _ (List.getElem_mem hi')
    rw [e3]
    refine ⟨.bl (bs.all id), H, I.kept (h' := h') (t' := tk) fun b o e => kk b o (fun z => ?_) (Heap.get?_push_of_some _ e), rfl, q⟩
    have z' := List.mem_singleton.mp z
    rw [z'] at e
    exact absurd (Heap.lt_size e) (Nat.lt_irrefl _)

/-! ### lists compared -/
def eqVs (xs ys : List V) : Bool := decide (xs.length = ys.length) && (List.range xs.length).all fun j => eqV (xs.getD j .non) (ys.getD j .non)
def rEqL (K : PySem.W.Frag) : R2 := fun x y H Q => ∃ p q xs ys, x = .ref p ∧ y = .ref q ∧ SqL K H p xs ∧ SqL K H q ys ∧ xs.all flatV = true ∧ ys.all flatV = true ∧ Q (.bl (eqVs xs ys)) H
theorem Vals.at {xs : List V} {us : List Value} (r : Vals xs us) {j : Nat} (h : j < us.toArray.size) : RelV (xs.getD j .non) us.toArray[j] ∧ xs[j]? = some (xs.getD j .non) := by
  have hj : j < xs.length := by rw [r.length]; simpa using h
  have e : xs[j]? = some xs[j] := List.getElem?_eq_getElem hj
  obtain ⟨u, hu, ru⟩ := r.get e
  have e2 : xs.getD j .non = xs[j] := by rw [List.getD_eq_getElem?_getD, e]; rfl
  have e3 : us.toArray[j] = u := by
    have : us[j]? = some us.toArray[j] := by simp at h ⊢
    rw [hu] at this
    exact (Option.some.inj this).symm
  rw [e2, e3]
  exact ⟨ru, e⟩
theorem op_eqL (hu : X.A.units < cLine) : OpR X (compareOp .Eq) (rEqL X.K) := by
  intro pins s σ H x y v u Q I rx ry h
  obtain ⟨p, q, xs, ys, rfl, rfl, hp, hq, fx, fy, k⟩ := h
  cases rx
  cases ry
  obtain ⟨its, r1, p1, _⟩ := I.list hp
  obtain ⟨jts, r2, p2, _⟩ := I.list hq
  by_cases hl : xs.length = ys.length
  · refine SeqAt.eq_listAt (e := fun j => eqV (xs.getD j .non) (ys.getD j .non)) p1.isList p2.isList (by simp; rw [← r1.length, ← r2.length]; exact hl) hu (fun j h1 h2 => ?_) ?_
    · obtain ⟨a1, b1⟩ := r1.at h1
      obtain ⟨a2, b2⟩ := r2.at h2
      exact eqAt_V a1 a2 (List.all_eq_true.mp fx _ (List.mem_of_getElem? b1)) (List.all_eq_true.mp fy _ (List.mem_of_getElem? b2))
    · refine ⟨.bl _, H, I, rfl, ?_⟩
      have e : its.toArray.size = xs.length := by rw [List.size_toArray, r1.length]
      rw [e]
      unfold eqVs at k
      rw [decide_eq_true hl, Bool.true_and] at k
      exact k
  · refine SeqAt.eq_list_lengthsAt p1.isList p2.isList ?_ hu ?_
    · rw [List.size_toArray, List.size_toArray, ← r1.length, ← r2.length]
      simpa using hl
    · refine ⟨.bl false, H, I, rfl, ?_⟩
      unfold eqVs at k
      rw [decide_eq_false hl, Bool.false_and] at k
      exact k
theorem eqVs_nil (xs : List V) : eqVs xs [] = xs.isEmpty := by
  cases xs with
  | nil => rfl
  | cons a r => simp [eqVs]

/-! ### a chain of three -/
def tChain3 (r r' r'' : R2) (ta tb tc td : TE) : TE := fun σ H Q => ta σ H fun x H1 => tb σ H1 fun y H2 => r x y H2 fun z H3 => ∃ k, z = .bl k ∧
  (if k = true then tc σ H3 fun w' H4 => r' y w' H4 fun z2 H5 => ∃ k2, z2 = .bl k2 ∧ (if k2 = true then td σ H5 fun w2 H6 => r'' w' w2 H6 Q else Q (.bl false) H5) else Q (.bl false) H3)
end
end L2

namespace L2
open PySem PySem.Spec PyProof.Rows

/-- a def of the text, by its promise -/
structure Df (P : Program) (w : World) (K : PySem.W.Frag) (mg : Str → Option Value) (base : Heap) (k : Nat) (x : Str) (ps : List Str) (sp : Sp) : Prop where
  ex : ∃ (f : Addr) (fd : FuncData), FnOk P w K mg base CX0 k f fd ps sp ∧ mg x = some (.ref f) ∧ PySem.W.keepIn K (.ref f) = true ∧ Binds K fd ps []
/-- what the top has of it -/
structure At (K : PySem.W.Frag) (mg : Str → Option Value) (x : Str) (st : Stmt) (ps : List Str) : Prop where
  ex : ∃ (f : Addr) (fd : FuncData), Fun K x x st f fd ∧ mg x = some (.ref f) ∧ ∀ us : List Value, us.length = ps.length → bindArgs fd ⟨us, []⟩ = pure (ps.zip us)
section
variable {P : Program} {w : World} {K : PySem.W.Frag} {mg : Str → Option Value} {base : Heap}
theorem Df.mono {j k : Nat} {x : Str} {ps : List Str} {sp : Sp} (d : Df P w K mg base j x ps sp) (h : j ≤ k) : Df P w K mg base k x ps sp :=
  let ⟨f, fd, a, b⟩ := d.ex
  ⟨f, fd, a.mono h, b⟩
theorem At.df {k : Nat} {x : Str} {st : Stmt} {ps : List Str} {sp : Sp} (a : At K mg x st ps) (h : ∀ f fd, Fun K x x st f fd → FnOk P w K mg base CX0 k f fd ps sp) : Df P w K mg base k x ps sp :=
  let ⟨f, fd, F, m, b⟩ := a.ex
  ⟨f, fd, h f fd F, m, F.kp, .all b⟩
theorem At.mk' {x : Str} {st : Stmt} {ps : List Str} {h : Heap} {f : Addr} {oc : Value} {od an : Option Addr} {osl : Array (Option Value)} {kV doc pm cdv ct : Value} (X : K.In h) (G : h.Ns mainGlobals mg)
    (a : PySem.W.nsIn K mainGlobals x = some (some (.ref f)))
    (l : K.lookup f = some ⟨oc, od, .func (PySem.W.fnOf x x (defArgs st) (defBody st) (defScope st) .none kV doc pm an cdv ct), osl⟩)
    (c : PySem.W.codeIn K cdv x = true) (k : PySem.W.keepIn K (.ref f) = true)
    (b : ∀ (kV doc pm : Value) (an : Option Addr) (cdv ct : Value) (us : List Value), us.length = ps.length → bindArgs (PySem.W.fnOf x x (defArgs st) (defBody st) (defScope st) .none kV doc pm an cdv ct) ⟨us, []⟩ = pure (ps.zip us)) : At K mg x st ps :=
  ⟨f, _, fun_mk l c k, PySem.W.mg_of X G a, b kV doc pm an cdv ct⟩
end
section
variable {X : Cx} {k : Nat} {x : Str} {ps : List Str} {sp : Sp} {e : Expr} {es : List Expr} {p pos : Pos} {t : TA}
theorem pe_df {j : Nat} (d : Df X.prog X.w X.K X.mg X.base j x ps sp) (hr : Room k X.A) (hg : Gl X x) (ha : PA X (e :: es) t) (hjk : j ≤ k := by decide) (hdb : (x == ("__debug__" : Str)) = false := by decide) (he : starEach (e :: es) X.env = (false, eval e X.env) :: starEach es X.env := by rfl)
    (hpl : (backTo pos (starEach es X.env)).any (·.1) = false := by rfl) : PE X (.Call (.Name x p) (e :: es) [] pos) (tCall sp [] E0 t) := by
  obtain ⟨f, fd, F, hm, hk, hb⟩ := d.ex
  exact pe_call (F.mono hjk) hr hg hm hk hb .nil pass0 ha hdb he hpl
end
/-! argument lists, part by part: the step over the star is looked at once -/
section
variable {X : Cx} {es : List Expr} {t : TA} {te : TE} {pos : Pos}
theorem pa_int {i j p} (h : PA X es t) : PA X (.Constant (.int i) j p :: es) (tCons (tC (.int i)) t) := pa_cons pe_int h rfl
theorem pa_str {i j p} (h : PA X es t) : PA X (.Constant (.str i) j p :: es) (tCons (tC (.str i)) t) := pa_cons pe_str h rfl
theorem pa_bl {i j p} (h : PA X es t) : PA X (.Constant (.bool i) j p :: es) (tCons (tC (.bl i)) t) := pa_cons pe_bl h rfl
theorem pa_non {j p} (h : PA X es t) : PA X (.Constant .none j p :: es) (tCons (tC .non) t) := pa_cons pe_non h rfl
theorem pa_lst {xs : List Expr} (e : PE X (.List xs pos) te) (h : PA X es t) : PA X (.List xs pos :: es) (tCons te t) := pa_cons e h rfl
theorem pa_tup {xs : List Expr} {k} (e : PE X (.Tuple xs k pos) te) (h : PA X es t) : PA X (.Tuple xs k pos :: es) (tCons te t) := pa_cons e h rfl
theorem pa_dic {ks vs} (e : PE X (.Dict ks vs pos) te) (h : PA X es t) : PA X (.Dict ks vs pos :: es) (tCons te t) := pa_cons e h rfl
theorem pa_op {a b op} (e : PE X (.BinOp a op b pos) te) (h : PA X es t) : PA X (.BinOp a op b pos :: es) (tCons te t) := pa_cons e h rfl
theorem pa_un {a op} (e : PE X (.UnaryOp op a pos) te) (h : PA X es t) : PA X (.UnaryOp op a pos :: es) (tCons te t) := pa_cons e h rfl
theorem pa_name {x} (e : PE X (.Name x pos) te) (h : PA X es t) : PA X (.Name x pos :: es) (tCons te t) := pa_cons e h rfl
end
theorem Same.upd {H : Hp} {p : Addr} {o : HO} (h : H p = none) : Same H (upd H p o) := fun b u e => by
  rw [upd_ne (ne_of_none e h)]
  exact e
end L2

namespace L2
open PySem PySem.Spec PyProof.Rows PySem.SeqAt PySem.MeetsSeq
open PySem.AutoSeq1 (wpAny_loadPart')
/-! ### a thing of whatever kind against a tuple of plain values -/
def rEqT : R2 := fun x y H Q => ∃ (q : Addr) (ys : List V), y = .ref q ∧ H q = some (.tup ys) ∧ ys.all flatV = true ∧
  ((∃ b, x = .bl b ∧ Q (.bl false) H) ∨ (x = .non ∧ Q (.bl false) H) ∨ (∃ i, x = .int i ∧ Q (.bl false) H) ∨ (∃ z, x = .str z ∧ Q (.bl false) H) ∨ (∃ p xs, x = .ref p ∧ H p = some (.lst xs) ∧ Q (.bl false) H) ∨ (∃ p kvs, x = .ref p ∧ H p = some (.dK kvs) ∧ Q (.bl false) H) ∨
    (∃ p xs, x = .ref p ∧ H p = some (.tup xs) ∧ xs.all flatV = true ∧ Q (.bl (eqVs xs ys)) H) ∨ (∃ p r zs j ys', x = .ref p ∧ H p = some (.tup [.ref r]) ∧ H r = some (.tup zs) ∧ ys = .int j :: ys' ∧ Q (.bl false) H))
section
variable {X : Cx}
end
end L2

namespace L2
open PySem PySem.Spec PyProof.Rows
/-! ### range(a, b, -1) -/
/-- hi, hi - 1, .. (n of them) -/
def Itd (hi : Int) (n : Nat) : It := ⟨fun i _ => i < n, fun i H x H' => H' = H ∧ x = .int (hi - i), fun i _ => n ≤ i⟩
section
variable {X : Cx} {tg : Expr}
def iRngD (ta : TA) : TI := fun σ H R => ta σ H fun vs H1 => ∃ i j : Int, vs = [.int i, .int j, .int (-1)] ∧ (-(2 ^ 62) ≤ i ∧ i < 2 ^ 62 ∧ -(2 ^ 62) ≤ j ∧ j < 2 ^ 62) ∧ R (Itd i (i - j).toNat) H1
/-- over a list that the block leaves as it is -/
theorem comp_list {K : PySem.W.Frag} {a : Addr} {xs : List V} {σ : St} {ix : List Nat} {tt : TT} {te : TE} {H : Hp} {Z : List V → Hp → Prop} (hl : xs.length ≤ sizeLine) (Pv : Nat → List V → Hp → Prop) (h0 : Pv 0 [] H) (hk : ∀ i ys H, Pv i ys H → SqL K H a xs)
    (hs : ∀ i x ys H (N : List V → Hp → Prop), xs[i]? = some x → ys.length ≤ i → Pv i ys H → (∀ ys' H', ys'.length ≤ i + 1 → Pv (i + 1) ys' H' → N ys' H') →
      tt ((cst ix σ).set 0 (some x)) H fun b H4 => if b = true then te ((cst ix σ).set 0 (some x)) H4 fun v H5 => N (ys ++ [v]) H5 else N ys H4)
    (hd : ∀ ys H, ys.length ≤ xs.length → Pv xs.length ys H → Z ys H) :
    ∃ W : Nat → Nat → List V → Hp → Prop, (∃ m, W 0 m [] H) ∧ ∀ i m ys H2, W i m ys H2 →
      ((Itl K a).stop i H2 ∧ ys.length ≤ sizeLine ∧ Z ys H2) ∨
      ((Itl K a).go i H2 ∧ ys.length ≤ sizeLine ∧ ∀ x H3, (Itl K a).yld i H2 x H3 → tt ((cst ix σ).set 0 (some x)) H3 fun b H4 =>
        if b = true then te ((cst ix σ).set 0 (some x)) H4 fun v H5 => ∃ m', m' < m ∧ W (i + 1) m' (ys ++ [v]) H5 else ∃ m', m' < m ∧ W (i + 1) m' ys H4) := by
  refine ⟨fun i m ys H => m = xs.length - i ∧ i ≤ xs.length ∧ ys.length ≤ i ∧ Pv i ys H, ⟨xs.length, by simp, Nat.zero_le _, Nat.le_refl _, h0⟩, ?_⟩
  rintro i m ys H ⟨rfl, hi, hy, p⟩
  have q := hk i ys H p
  by_cases hlt : i < xs.length
  · refine .inr ⟨⟨xs, xs[i], q, by simp [hlt]⟩, by omega, fun x H' y => ?_⟩
    obtain ⟨e, y⟩ := y
    subst e
    exact hs i x ys _ (fun ys' H5 => ∃ m', m' < xs.length - i ∧ m' = xs.length - (i + 1) ∧ i + 1 ≤ xs.length ∧ ys'.length ≤ i + 1 ∧ Pv (i + 1) ys' H5) (y xs q) hy p fun ys' H' h1 h2 => ⟨xs.length - (i + 1), by omega, rfl, hlt, h1, h2⟩
  · have e : i = xs.length := by omega
    subst e
    exact .inl ⟨⟨xs, q, Nat.le_refl _⟩, by omega, hd ys H hy p⟩

/-! ### != of two lists of plain values -/
def rNeL (K : PySem.W.Frag) : R2 := fun x y H Q => ∃ p q xs ys, x = .ref p ∧ y = .ref q ∧ SqL K H p xs ∧ SqL K H q ys ∧ xs.all flatV = true ∧ ys.all flatV = true ∧ Q (.bl (!eqVs xs ys)) H
theorem op_neL (hu : X.A.units < cLine) : OpR X (compareOp .NotEq) (rNeL X.K) := by
  intro pins s σ H x y v u Q I rx ry h
  obtain ⟨p, q, xs, ys, rfl, rfl, hp, hq, fx, fy, k⟩ := h
  cases rx
  cases ry
  obtain ⟨its, r1, p1, _⟩ := I.list hp
  obtain ⟨jts, r2, p2, _⟩ := I.list hq
  by_cases hl : xs.length = ys.length
  · refine SeqAt.RcNeAt.lists (e := fun j => eqV (xs.getD j .non) (ys.getD j .non)) p1.isList p2.isList (by simp; rw [← r1.length, ← r2.length]; exact hl) hu (fun j h1 h2 => ?_) _ _ _ _ ?_
    · obtain ⟨a1, b1⟩ := r1.at h1
      obtain ⟨a2, b2⟩ := r2.at h2
      exact eqAt_V a1 a2 (List.all_eq_true.mp fx _ (List.mem_of_getElem? b1)) (List.all_eq_true.mp fy _ (List.mem_of_getElem? b2))
    · refine ⟨.bl _, H, I, rfl, ?_⟩
      have e : its.toArray.size = xs.length := by rw [List.size_toArray, r1.length]
      rw [e]
      unfold eqVs at k
      rw [decide_eq_true hl, Bool.true_and] at k
      exact k
  · refine SeqAt.RcNeAt.lists_lengths p1.isList p2.isList ?_ hu _ _ _ _ ?_
    · rw [List.size_toArray, List.size_toArray, ← r1.length, ← r2.length]
      simpa using hl
    · refine ⟨.bl true, H, I, rfl, ?_⟩
      unfold eqVs at k
      rw [decide_eq_false hl, Bool.false_and] at k
      exact k
end
end L2

namespace L2
open PySem PySem.Spec PyProof.Rows
section
variable {X : Cx} {scope : Scope} {cl : List (Str × Addr)} {x : Str} {ys : List Str} {ix : List Nat}
end
end L2

namespace L2
open PySem PySem.Spec PyProof.Rows
/-! ### steps of the machine that leave what an exception was made under -/
/-- the exception at a was made where none was handled -/
def NoCtx (h : Heap) (a : Addr) : Prop := ∃ o vs, h.get? a = some o ∧ o.data = .fields vs ∧ vs[2]? = some .none
def KeepF (f : Obj → Obj) : Prop := ∀ o vs, o.data = .fields vs → ∃ vs', (f o).data = .fields vs' ∧ vs'[2]? = vs[2]?
/-- a tree that calls nothing and writes no third field -/
def Tm {α : Type} : Sem α → Prop
  | .pure _ | .raise _ | .unsupported _ | .finish _ | .register _ _ => True
  | .rule _ k => Tm (k ())
  | .at _ k => Tm (k ())
  | .load _ _ k => ∀ o, Tm (k o)
  | .update _ _ f k => KeepF f ∧ Tm (k ())
  | .alloc _ k => ∀ a, Tm (k a)
  | .loadIfAlive _ k => ∀ o, Tm (k o)
  | .point _ k => Tm (k ())
  | .fresh k => ∀ o, Tm (k o)
  | .ask k => ∀ o, Tm (k o)
  | .handled _ k => ∀ o, Tm (k o)
  | .stack k => ∀ o, Tm (k o)
  | .thread k => ∀ o, Tm (k o)
  | _ => False
theorem NoCtx.push {h : Heap} {a : Addr} (n : NoCtx h a) (o : Obj) : NoCtx (h.push o) a :=
  let ⟨u, vs, e, d, z⟩ := n
  ⟨u, vs, Heap.get?_push_of_some _ e, d, z⟩
theorem NoCtx.upd {h : Heap} {a : Addr} (n : NoCtx h a) (b : Addr) {f : Obj → Obj} (k : KeepF f) : NoCtx (h.update b f) a := by
  obtain ⟨u, vs, e, d, z⟩ := n
  by_cases hb : b = a
  · subst hb
    obtain ⟨vs', d', z'⟩ := k u vs d
    exact ⟨f u, vs', Heap.get?_update_self f e (Obj.isFreed_of_fields d'), d', z'.trans z⟩
  · exact ⟨u, vs, (Heap.get?_update_other _ _ hb).trans e, d, z⟩
theorem Tm.wp {α : Type} {M : Model} {Γ : PySem.Ctx} {a : Addr} {Q : α → Pos → Shared → Prop} {E : Value → Pos → Shared → Prop} : ∀ (t : Sem α), Tm t → ∀ (p : Pos) (s : Shared), NoCtx s.heap a → Sem.wp M Γ t Q E p s →
    Sem.wp M Γ t (fun x p' s' => Q x p' s' ∧ NoCtx s'.heap a) E p s := by
  intro t
  induction t with
  | pure x => intro _ p s n h; rw [Sem.wp] at h ⊢; exact ⟨h, n⟩
  | raise e => intro _ p s n h; rw [Sem.wp] at h ⊢; exact h
  | unsupported w => intro _ p s n h; rw [Sem.wp] at h; exact h.elim
  | finish e => intro _ p s n h; rw [Sem.wp] at h; exact h.elim
  | rule t k ih => intro q p s n h; rw [Sem.wp] at h ⊢; exact ih () q p s n h
  | «at» p' k ih => intro q p s n h; rw [Sem.wp] at h ⊢; exact ih () q p' s n h
  | load b c k ih => intro q p s n h; rw [Sem.wp] at h ⊢; obtain ⟨o, e, h⟩ := h; exact ⟨o, e, ih o (q o) p s n h⟩
  | update b c f k ih => intro q p s n h; rw [Sem.wp] at h ⊢; exact ⟨h.1, ih () q.2 p _ (n.upd b q.1) h.2⟩
  | alloc o k ih => intro q p s n h; rw [Sem.wp] at h ⊢; exact ih _ (q _) p _ (n.push o) h
  | loadIfAlive b k ih => intro q p s n h; rw [Sem.wp] at h ⊢; exact ih _ (q _) p s n h
  | point l k ih => intro q p s n h; rw [Sem.wp] at h ⊢; exact ih () q p s n h
  | register b k ih => intro q p s n h; rw [Sem.wp] at h; exact h.elim
  | fresh k ih => intro q p s n h; rw [Sem.wp] at h ⊢; exact ih _ (q _) p _ n h
  | ask k ih => intro q p s n h; rw [Sem.wp] at h ⊢; exact ih _ (q _) p s n h
  | handled o k ih => intro q p s n h; rw [Sem.wp] at h ⊢; exact ih _ (q _) p s n h
  | stack k ih => intro q p s n h; rw [Sem.wp] at h ⊢; exact ih _ (q _) p s n h
  | thread k ih => intro q p s n h; rw [Sem.wp] at h ⊢; exact ih _ (q _) p s n h
  | choose => intro q; exact q.elim
  | os => intro q; exact q.elim
  | call => intro q; exact q.elim
  | newGen => intro q; exact q.elim
  | genState => intro q; exact q.elim
  | resume => intro q; exact q.elim
  | yield => intro q; exact q.elim
  | fork => intro q; exact q.elim
  | await => intro q; exact q.elim
theorem Tm.any {α : Type} {M : Model} {A : Around} {a : Addr} {s : Shared} {t : Sem α} {Q : α → Shared → Prop} {E : Value → Shared → Prop} (q : Tm t) (n : NoCtx s.heap a) (h : wpAny M A t Q E s) : wpAny M A t (fun x s' => Q x s' ∧ NoCtx s'.heap a) E s :=
  fun Γ p hΓ => Tm.wp t q p s n (h Γ p hΓ)
theorem Tm.bind {α β : Type} {m : Sem α} {f : α → Sem β} : Tm m → (∀ x, Tm (f x)) → Tm (m >>= f) := by
  intro h k
  show Tm (m.bind f)
  induction m with
  | pure x => exact k x
  | raise e => trivial
  | unsupported w => trivial
  | finish e => trivial
  | rule t k ih => exact ih () h
  | «at» p' k ih => exact ih () h
  | load b c k ih => exact fun o => ih o (h o)
  | update b c f k ih => exact ⟨h.1, ih () h.2⟩
  | alloc o k ih => exact fun o => ih o (h o)
  | loadIfAlive b k ih => exact fun o => ih o (h o)
  | point l k ih => exact ih () h
  | register b k ih => trivial
  | fresh k ih => exact fun o => ih o (h o)
  | ask k ih => exact fun o => ih o (h o)
  | handled o k ih => exact fun o => ih o (h o)
  | stack k ih => exact fun o => ih o (h o)
  | thread k ih => exact fun o => ih o (h o)
  | choose => exact h.elim
  | os => exact h.elim
  | call => exact h.elim
  | newGen => exact h.elim
  | genState => exact h.elim
  | resume => exact h.elim
  | yield => exact h.elim
  | fork => exact h.elim
  | await => exact h.elim
theorem tm_load (a : Addr) : Tm (load a) := fun _ => trivial
theorem tm_field (v : Value) (i : Nat) : Tm (field v i) := by
  unfold field fieldsOf
  refine Tm.bind ?_ fun x => ?_
  · cases v <;> try trivial
    refine Tm.bind (tm_load _) fun _ => ?_
    split <;> trivial
  · split <;> trivial
theorem keep_slots (g : Obj → Array (Option Value)) : KeepF fun o => { o with slots := g o } := fun o vs d => ⟨vs, d, rfl⟩
theorem keep_field {i : Nat} {x : Value} (hi : i ≠ 2) : KeepF (Obj.mapFields (·.setIfInBounds i x)) := fun o vs d =>
  ⟨_, Obj.data_mapFields d _, by rw [Array.getElem?_setIfInBounds_ne hi]⟩
theorem tm_setField (v : Value) (i : Nat) (x : Value) (hi : i ≠ 2) : Tm (setField v i x) := by
  unfold setField
  cases v <;> try trivial
  unfold updateField
  refine Tm.bind (tm_load _) fun o => ?_
  split
  · split
    · exact ⟨keep_field hi, trivial⟩
    · trivial
  · trivial
theorem tm_setFlight (e : Value) (f : Option Addr) : Tm (setFlight e f) := by
  unfold setFlight
  refine Tm.bind (tm_field _ _) fun tb => ?_
  split
  · exact tm_setField _ _ _ (by decide)
  · trivial
theorem tm_ready : ∀ l : List Env, Tm (readyFrames l)
  | [] => trivial
  | env :: outer => by
    unfold readyFrames
    split
    · refine Tm.bind (tm_load _) fun o => ?_
      split
      · trivial
      · refine Tm.bind ?_ fun i => Tm.bind ?_ fun b => ?_
        · unfold behindIsImport
          split
          · trivial
          · split
            · trivial
            · exact Tm.bind (tm_field _ _) fun _ => trivial
        · unfold keptBack
          split
          · split
            · trivial
            · exact Tm.bind (fun _ => trivial) fun _ => trivial
          · trivial
        · exact ⟨keep_slots _, tm_ready outer⟩
    · trivial
theorem tm_frameOf (env : Env) : Tm (PySem.frameOf env) := by
  unfold PySem.frameOf
  refine Tm.bind ?_ fun l => Tm.bind ?_ fun x => ?_
  · unfold frameEnvs
    exact fun _ => trivial
  · unfold frameObject
    split
    · trivial
    · exact Tm.bind (tm_ready _) fun _ => trivial
  · split <;> trivial
theorem tm_newFields (ty : String) (vs : List Value) : Tm (newFields ty vs) := by
  unfold newFields newObj newObjAsIs
  dsimp only
  split
  · trivial
  · exact fun _ => trivial
theorem tm_noteFrame (e : Value) (env : Env) : Tm (noteFrame e env) := by
  have last : ∀ (head : Value) (f : Addr) , Tm (do setField e 1 (← EntryCells.newEntry head (← PySem.frameOf env) .none (rawInt f) .none (← entryPlaceOf f (head != .none)))) := fun head f =>
    Tm.bind (tm_frameOf _) fun _ => Tm.bind (Tm.bind (fun _ => trivial) fun _ => by split <;> trivial) fun _ => Tm.bind (tm_newFields _ _) fun _ => tm_setField _ _ _ (by decide)
  unfold noteFrame
  split
  · refine Tm.bind (tm_field _ _) fun head => ?_
    split
    · refine Tm.bind (tm_field _ _) fun h3 => ?_
      split
      · trivial
      · exact Tm.bind (tm_setField _ _ _ (by decide)) fun _ => last _ _
    · exact last _ _
  · trivial
theorem tm_leaving (env : Env) (e : Value) : Tm (leaving env e) := Tm.bind (tm_noteFrame _ _) fun _ => tm_setFlight _ _
section
variable {M : Model} {A : Around} {E : Value → Shared → Prop} {s : Shared} {base : Heap} {env : Env} {outer : List Env} {L e : Addr} {cls a0 : Value} {Q : Unit → Shared → Prop}
/-- the steps of an exception on its way, with what it was made under -/
theorem leaves_onN (hfr : A.frames = some (env :: outer)) (hf : env.frame = some L) (fl : Heap.FlyingW base (env :: outer) e cls a0 s.heap) (n : NoCtx s.heap e)
    (h : ∀ h', Heap.FlyingW base outer e cls a0 h' → s.heap.UpToSlots h' → NoCtx h' e → Q () { s with heap := h' }) : wpAny M A (leaving env (.ref e)) Q E s :=
  wpAny_mono ((tm_leaving _ _).any n (wpAny_leaves_onW (Q := fun _ s2 => ∃ h', s2 = { s with heap := h' } ∧ Heap.FlyingW base outer e cls a0 h' ∧ s.heap.UpToSlots h') (E := fun _ _ => False) hfr hf fl fun h' x y => ⟨h', rfl, x, y⟩))
    (fun _ _ ⟨⟨h', z, x, y⟩, m⟩ => by subst z; exact h h' x y m) fun _ _ f => f.elim
theorem looks_onN (hfr : A.frames = some (env :: outer)) (hf : env.frame = some L) (fl : Heap.FlyingW base (env :: outer) e cls a0 s.heap) (n : NoCtx s.heap e)
    (h : ∀ h', Heap.HeldW base (env :: outer) e cls a0 L h' → s.heap.UpToSlots h' → NoCtx h' e → Q () { s with heap := h' }) : wpAny M A (noteFrame (.ref e) env) Q E s :=
  wpAny_mono ((tm_noteFrame _ _).any n (wpAny_looks_onW (Q := fun _ s2 => ∃ h', s2 = { s with heap := h' } ∧ Heap.HeldW base (env :: outer) e cls a0 L h' ∧ s.heap.UpToSlots h') (E := fun _ _ => False) hfr hf fl fun h' x y => ⟨h', rfl, x, y⟩))
    (fun _ _ ⟨⟨h', z, x, y⟩, m⟩ => by subst z; exact h h' x y m) fun _ _ f => f.elim
theorem landsN {l : List Env} (hh : Heap.HeldW base l e cls a0 L s.heap) (n : NoCtx s.heap e)
    (h : ∀ h', Heap.FlyingW base l e cls a0 h' → s.heap.UpToSlots h' → NoCtx h' e → Q () { s with heap := h' }) : wpAny M A (setFlight (.ref e) none) Q E s :=
  wpAny_mono ((tm_setFlight _ _).any n (wpAny_landsW (Q := fun _ s2 => ∃ h', s2 = { s with heap := h' } ∧ Heap.FlyingW base l e cls a0 h' ∧ s.heap.UpToSlots h') (E := fun _ _ => False) hh fun h' x y => ⟨h', rfl, x, y⟩))
    (fun _ _ ⟨⟨h', z, x, y⟩, m⟩ => by subst z; exact h h' x y m) fun _ _ f => f.elim
theorem lands_againN {l : List Env} (hh : Heap.FlyingW base l e cls a0 s.heap) (n : NoCtx s.heap e)
    (h : ∀ h', Heap.FlyingW base l e cls a0 h' → s.heap.UpToSlots h' → NoCtx h' e → Q () { s with heap := h' }) : wpAny M A (setFlight (.ref e) none) Q E s :=
  wpAny_mono ((tm_setFlight _ _).any n (lands_againW (Q := fun _ s2 => ∃ h', s2 = { s with heap := h' } ∧ Heap.FlyingW base l e cls a0 h' ∧ s.heap.UpToSlots h') (E := fun _ _ => False) hh fun h' x y => ⟨h', rfl, x, y⟩))
    (fun _ _ ⟨⟨h', z, x, y⟩, m⟩ => by subst z; exact h h' x y m) fun _ _ f => f.elim
theorem leaves_madeN {h : Heap} {args : List Value} (hfr : A.frames = some (env :: outer)) (hf : env.frame = some L) (kb : base.StaysIn h) (ff : h.FunFrames base (env :: outer)) (hx : Heap.MadeExcOf h s.heap e cls args)
    (hQ : ∀ h' t, Heap.FlyingW base outer e cls (.ref t) h' → s.heap.UpToSlots h' → NoCtx h' e → Q () { s with heap := h' }) : wpAny M A (leaving env (.ref e)) Q E s :=
  wpAny_mono ((tm_leaving _ _).any (let ⟨_, z, _⟩ := hx.there; ⟨_, _, z, rfl, rfl⟩) (wpAny_leaves_madeW (Q := fun _ s2 => ∃ h' t, s2 = { s with heap := h' } ∧ Heap.FlyingW base outer e cls (.ref t) h' ∧ s.heap.UpToSlots h') (E := fun _ _ => False) hfr hf kb ff hx fun h' t x _ _ y => ⟨h', t, rfl, x, y⟩))
    (fun _ _ ⟨⟨h', t, z, x, y⟩, m⟩ => by subst z; exact hQ h' t x y m) fun _ _ f => f.elim
end
/-! ### exceptions: how one lies behind a call, how it passes a def, how it is made -/
theorem ObjOk.at_ {P : Program} {w : World} {H : Hp} {h : Heap} {a : Addr} {o : HO} (x : ObjOk P w H h a o) : ∃ u, h.get? a = some u := by
  cases o with
  | lst xs => obtain ⟨_, _, _, _, e⟩ := x; exact ⟨_, e⟩
  | tup xs => obtain ⟨_, _, _, u, e, _⟩ := x; exact ⟨_, e⟩
  | dK kvs => obtain ⟨_, _, _, _, o, _, _, e, _⟩ := x; exact ⟨_, e⟩
  | dT kvs => obtain ⟨_, _, _, _, o, _, _, e, _⟩ := x; exact ⟨_, e⟩
  | set S n => obtain ⟨o, _, _, _, e, _⟩ := x; exact ⟨_, e⟩
  | ins C dx fs => obtain ⟨_, _, _, e, _⟩ := x; exact ⟨_, e⟩
  | own y => obtain ⟨_, e⟩ := x; exact ⟨_, e⟩
  | xd fs => obtain ⟨_, ⟨_, _, _, e, _⟩, _⟩ := x; exact ⟨_, e⟩
  | rng lo hi => obtain ⟨_, _, _, e⟩ := x; exact ⟨_, e⟩
  | frz ob u => obtain ⟨e, _⟩ := x; exact ⟨_, e⟩
  | tbl ps => exact ⟨_, (show h.get? a = some _ from x)⟩
  | met f y => exact ⟨_, (show h.get? a = some _ from x)⟩
  | ext φ => obtain ⟨_, ⟨_, e⟩, _⟩ := x; exact ⟨_, e⟩

/-- behind a call: the exception at a, of class cls; B: all that stays as it is while it passes -/
def CX1 (P : Program) (w : World) : CXT := fun outer H s E e s' => ∃ (a : Addr) (cls a0 : Value) (H' : Hp) (B : Heap), e = .ref a ∧ s'.os = s.os ∧ AllBare s'.gens ∧ Un (frs outer) [] H H' s.heap s'.heap ∧
  HOk P w H' B ∧ (Heap.FlyingW B outer a cls a0 s'.heap ∧ NoCtx s'.heap a) ∧ (∀ b o, s.heap.get? b = some o → b ∉ frs outer → ∃ o', B.get? b = some o') ∧ E cls none H'

/-- the body of a def that an exception may leave: E is wanted of it -/
structure Lv (X : Cx) (E : XK) : Prop where
  stk : X.stack = X.env :: X.outer
  fr : X.env.frame = some X.env.locals
  ex : X.ex = []
  xe : ∀ e s', wpAny (model X.prog X.w) X.A (leaving X.env e) (fun _ s'' => CX1 X.prog X.w X.outer X.H₀ X.s₀ E e s'') (fun e' s'' => CX1 X.prog X.w X.outer X.H₀ X.s₀ E e' s'') s' → X.xe e s'

section
variable {X : Cx} {E : XK} {pins : List (Addr × Obj)} {σ : St} {H H' : Hp} {s : Shared}
theorem Inv.own_new (I : Inv X pins σ H s) {b : Addr} {o : Obj} (q : X.s₀.heap.get? b = some o) : b ≠ X.env.locals := fun z => by
  have := Heap.lt_size q
  rw [z] at this
  exact absurd (Nat.lt_of_lt_of_le this I.ok.above) (Nat.lt_irrefl _)
theorem Inv.own_out (I : Inv X pins σ H s) {b : Addr} {o : Obj} (q : X.s₀.heap.get? b = some o) (hb : b ∉ X.fs) : b ∉ frs X.stack := fun z => by
  rcases List.mem_cons.mp (I.stkSub b z) with e | e
  · exact I.own_new q e
  · exact hb e
/-- from the state ahead of the exception's last way (s1, H'), over what stays (B), to the state behind the frame (h') -/
theorem Inv.left {h1 h' : Heap} {a : Addr} {cls a0 : Value} {B : Heap} (L : Lv X E) (I : Inv X pins σ H s) (un : Un (frs X.stack) [] H H' s.heap h1) (sb : B.StaysIn h1) (fl' : Heap.FlyingW B X.outer a cls a0 h') (up : h1.UpToSlots h')
    (cov : ∀ b o, s.heap.get? b = some o → b ∉ frs X.stack → ∃ o', B.get? b = some o') :
    Un (frs X.outer) [] X.H₀ H' X.s₀.heap h' ∧ ∀ b o, X.s₀.heap.get? b = some o → b ∉ frs X.outer → ∃ o', B.get? b = some o' := by
  have nx : ∀ b : Addr, b ∉ X.ex := fun b z => by rw [L.ex] at z; cases z
  have n0 : ∀ b : Addr, b ∉ ([] : List Addr) := fun b z => by cases z
  have sub : ∀ b, b ∈ X.fs → b ∈ frs X.stack := fun b z => by
    rw [L.stk]
    unfold frs
    rw [List.filterMap_cons, L.fr]
    exact List.mem_cons_of_mem _ z
  have cov' : ∀ b o, X.s₀.heap.get? b = some o → b ∉ frs X.outer → ∃ o', B.get? b = some o' := fun b o q hb => by
    obtain ⟨o1, e1⟩ := I.base.there b o q (nx b)
    exact cov b o1 e1 (I.own_out q hb)
  refine ⟨⟨fun b o q n hb _ => ?_, fun b o q n hb _ => ?_, fun b o q n _ => ?_, fun b o q _ => ?_, fun b xs q => un.tups b xs (I.base.tups b xs q), fun b o u q => un.frzs b o u (I.base.frzs b o u q), fun b ps q => ?_⟩, cov'⟩
  · have e1 := I.base.keep b o q n hb (nx b)
    have e2 := un.keep b o e1 (I.base.free b o q n (nx b)) (I.own_out q hb) (n0 b)
    obtain ⟨o', e3⟩ := cov b o e1 (I.own_out q hb)
    have e4 := sb b o' e3
    rw [e2] at e4
    cases e4
    exact fl'.1 b o e3
  · obtain ⟨sl, e1⟩ := I.base.slot b o q n hb (nx b)
    obtain ⟨sl2, e2⟩ := un.slot b _ e1 (I.base.free b o q n (nx b)) (sub b hb) (n0 b)
    obtain ⟨_, o', ho', hd⟩ := I.ok.funs.mem hb
    rw [q] at ho'
    cases ho'
    obtain ⟨sl3, e3⟩ := up b _ e2 hd
    exact ⟨sl3, e3⟩
  · obtain ⟨o1, e1⟩ := I.base.there b o q (nx b)
    exact un.free b o1 e1 (I.base.free b o q n (nx b)) (n0 b)
  · by_cases hb : b ∈ frs X.outer
    · obtain ⟨_, o', ho', _⟩ := fl'.2.2.1.mem hb
      exact ⟨o', ho'⟩
    · obtain ⟨o', e⟩ := cov' b o q hb
      exact ⟨o', fl'.1 b o' e⟩
  · obtain ⟨m1, e1⟩ := I.base.tbls b ps q
    obtain ⟨m2, e2⟩ := un.tbls b _ e1
    exact ⟨m1 ++ m2, by rw [e2, Array.append_assoc]⟩
/-- an exception of a callee leaves this def too -/
theorem Lv.passes (L : Lv X E) : Passes (CX1 X.prog X.w) X E := by
  intro pins σ H s e s' I h
  obtain ⟨a, cls, a0, H', B, rfl, os, bare, un, hok, ⟨fl, nc⟩, cov, q⟩ := h
  refine L.xe _ _ ?_
  have fl1 := fl
  rw [L.stk] at fl1
  refine leaves_onN (by rw [I.ok.frames, L.stk]) L.fr fl1 nc fun h' fl' up nc' => ?_
  obtain ⟨u, c⟩ := I.left L un fl.1 fl' up cov
  exact ⟨a, cls, a0, H', B, rfl, os.trans I.os, bare, u, hok, ⟨fl', nc'⟩, c, q⟩
/-- an exception made here leaves this def -/
theorem Lv.made (L : Lv X E) (I : Inv X pins σ H s) {h' : Heap} {e : Addr} {cls : Value} {args : List Value} (hx : Heap.MadeExcOf s.heap h' e cls args) (q : E cls none H) : X.xe (.ref e) { s with heap := h' } := by
  refine L.xe _ _ ?_
  have hin : ∀ env ∈ (X.env :: X.outer), ∀ b, env.frame = some b → b ∈ frs X.stack := fun env he b hb => by
    rw [L.stk]
    exact List.mem_filterMap.mpr ⟨env, he, hb⟩
  have hfs := I.stack
  rw [L.stk] at hfs
  refine leaves_madeN (base := PySem.W.hideAll s.heap (frs X.stack)) (h := s.heap) (by rw [I.ok.frames, L.stk]) L.fr (fun b o z => PySem.W.of_hideAll _ z) (PySem.W.funFrames_hide hfs hin) hx fun h2 t fl up nc => ?_
  have un : Un (frs X.stack) [] H H s.heap h' := Un.kept hx.keeps
  have cov : ∀ b o, s.heap.get? b = some o → b ∉ frs X.stack → ∃ o', (PySem.W.hideAll s.heap (frs X.stack)).get? b = some o' := fun b o z hb => ⟨o, PySem.W.hideAll_get _ z hb⟩
  obtain ⟨u, c⟩ := I.left L un (fun b o z => hx.keeps b o (PySem.W.of_hideAll _ z)) fl up cov
  refine ⟨e, cls, _, H, _, rfl, I.os, I.bare, u, fun b o z => ?_, ⟨fl, nc⟩, c, q⟩
  refine (I.hok b o z).stay (fun d v hd w => PySem.W.hideAll_get _ w fun hm => ?_) (fun _ z => z) fun _ _ z => z
  have hn := I.stkFree d hm
  rcases hd with hd | hd
  · rw [hd, z] at hn
    cases hn
  · rw [hd] at hn
    cases hn
end

/-! ### raise C(..) -/
def tRaise (cls : Value) (E : XK) (t : TA) : TS := fun _ σ H => t σ H fun vs H1 => vs.length ≤ sizeLine ∧ E cls none H1
section
variable {X : Cx} {E : XK} {x : Str} {C : Addr} {bm bmN : List Value} {B Bn newId nid initId inN : String} {np cpos pos : Pos} {e₀ : Expr} {es : List Expr} {t : TA}
theorem ps_raise (L : Lv X E) (hc : X.calm = true) (O : OwnCls x C bm newId X.mg X.base) (Fn : ExcBaseFacts Bn newId inN bmN) (hBn : bm.contains (.type Bn) = true) (FB : ExcBaseFacts B nid initId bm) (hg : Gl X x) (ha : PA X (e₀ :: es) t)
    (he : starEach (e₀ :: es) X.env = (false, eval e₀ X.env) :: starEach es X.env := by rfl) (hplain : (backTo cpos (starEach es X.env)).any (·.1) = false := by rfl) (hd : (x == ("__debug__" : Str)) = false := by decide) :
    PS X (.Raise (some (.Call (.Name x np) (e₀ :: es) [] cpos)) none pos) (tRaise (.ref C) E t) := by
  intro pins s σ H D I h
  obtain ⟨tl, N, nm, q, bs, hdct, sn, sub, ab, col, dd, k0, k1, k2, k3, k5, mN, hC, hN, hni, T⟩ := O.obj
  refine wpAny_Raise_call_subU (C := C) (nm := nm) (q := q) (N := N) (bs := bs) (bm := tl) (hdct := hdct) (sn := sn) (sub := sub) (ab := ab) (col := col) (dd := dd) (k0 := k0) (k1 := k1) (k2 := k2) (k3 := k3) (k5 := k5)
    Fn hBn FB (mN := mN) (T.hasType FB.hasBase) (I.ok.hd hc) (by rw [he]; show (false || (backTo cpos (starEach es X.env)).any (·.1)) = false; rw [hplain]; rfl) hni (ld_glob I hg O.bound ⟨rfl, ?_⟩ hd)
  have h1 := ha cpos pins s σ H _ I h
  rw [he] at h1 ⊢
  refine Calls.evalArgs_plain (wpAny_mono h1 (fun vs s₂ h₂ => ?_) fun _ _ y => y)
  obtain ⟨xs, H1, I1, r, z, q1⟩ := h₂
  exact ⟨rfl, (by show vs.length ≤ sizeLine; rw [← r.length]; exact z), I1.bk _ _ hC, hN.keeps I1.bk, T.keeps I1.bk, fun h' e hx => L.made I1 hx q1⟩
end
end L2

namespace L2
open PySem PySem.Spec PyProof.Rows
/-! ### a def that may raise, by its promise -/
/-- a wish about exceptions, by the names' values -/
abbrev XS := St → XK
structure DfX (P : Program) (w : World) (K : PySem.W.Frag) (mg : Str → Option Value) (base : Heap) (k : Nat) (x : Str) (ps : List Str) (sp : Sp) : Prop where
  ex : ∃ (f : Addr) (fd : FuncData), FnOk P w K mg base (CX1 P w) k f fd ps sp ∧ mg x = some (.ref f) ∧ PySem.W.keepIn K (.ref f) = true ∧ Binds K fd ps []
section
variable {P : Program} {w : World} {K : PySem.W.Frag} {mg : Str → Option Value} {base : Heap}
theorem At.dfx {k : Nat} {x : Str} {st : Stmt} {ps : List Str} {sp : Sp} (a : At K mg x st ps) (h : ∀ f fd, Fun K x x st f fd → FnOk P w K mg base (CX1 P w) k f fd ps sp) : DfX P w K mg base k x ps sp :=
  let ⟨f, fd, F, m, b⟩ := a.ex
  ⟨f, fd, h f fd F, m, F.kp, .all b⟩
/-- THE RULE for a def that may raise -/
theorem Fun.okx {x qual : Str} {st : Stmt} {f : Addr} {fd : FuncData} {N ps : List Str} {k : Nat} {sp : Sp} (F : Fun K x qual st f fd) (S : FnScope N ps (defScope st)) (len : ∀ vs H Q E, sp vs H Q E → vs.length = ps.length)
    (hbody : ∀ (cdv : Value) (A : Around) (outer : List Env) (s : Shared) (H : Hp) (vs : List V) (Q : VK) (E : XK), Room k (A.deeper (envOfC qual (defScope st) s.heap.objs.size f cdv)) → sp vs H Q E →
      ∃ t, PSs (cxOf (CX1 P w) P w K mg base N qual (defScope st) f cdv A outer s H E) (defBody st) t ∧ t { nx := fun _ H' => Q .non H', rt := Q } (start N vs) H) : FnOk P w K mg base (CX1 P w) (k + 1) f fd ps sp := by
  obtain ⟨oc, od, kV, doc, pm, an, cdv, ct, osl, rfl, lk, hcd⟩ := F.ex
  exact fn_of lk hcd S len fun A outer s H vs Q E hr hsp => hbody cdv A outer s H vs Q E hr hsp
theorem lv_cx {N : List Str} {qual : Str} {scope : Scope} {f : Addr} {cd : Value} {A : Around} {outer : List Env} {s : Shared} {H : Hp} {E : XK} : Lv (cxOf (CX1 P w) P w K mg base N qual scope f cd A outer s H E) E := ⟨rfl, rfl, rfl, fun _ _ h => h⟩
end
def tCallX (sp : Sp) (Ex : XS) (t : TA) : TE := fun σ H Q => t σ H fun vs H1 => sp vs H1 Q (Ex σ)
def PassesX (X : Cx) (Ex : XS) : Prop := ∀ (pins : List (Addr × Obj)) (σ : St) (H : Hp) (s : Shared) (e : Value) (s' : Shared), Inv X pins σ H s → CX1 X.prog X.w X.stack H s (Ex σ) e s' → X.xe e s'
theorem Lv.px {X : Cx} {E : XK} (L : Lv X E) : PassesX X fun _ => E := fun pins σ H s e s' I h => L.passes pins σ H s e s' I h
section
variable {X : Cx} {k j : Nat} {x : Str} {ps : List Str} {sp : Sp} {e : Expr} {es : List Expr} {p pos : Pos} {t : TA} {Ex : XS}
theorem pe_dfx (d : DfX X.prog X.w X.K X.mg X.base j x ps sp) (hr : Room k X.A) (hg : Gl X x) (hx : PassesX X Ex) (ha : PA X (e :: es) t) (hjk : j ≤ k := by decide) (hdb : (x == ("__debug__" : Str)) = false := by decide)
    (he : starEach (e :: es) X.env = (false, eval e X.env) :: starEach es X.env := by rfl) (hpl : (backTo pos (starEach es X.env)).any (·.1) = false := by rfl) : PE X (.Call (.Name x p) (e :: es) [] pos) (tCallX sp Ex t) := by
  intro pins s σ H Q I h
  obtain ⟨f, fd, F, hm, hk, hb⟩ := d.ex
  refine wpAny_Call_Name_kw (ld_glob I hg hm ?_ hdb)
  refine PySem.W.callWith_K (h₀ := X.base) I.ok.mod.kin hk (thn (ha pos pins s σ H _ I h) fun us s1 ⟨vs, H1, I1, r, q⟩ => ⟨I1.kIn, ?_⟩) he hpl
  have hl : (us ++ ([] : List Value)).length = ps.length := by rw [List.append_nil, ← r.length]; exact F.len _ _ _ _ q
  have bb := hb s1 us I1.kIn hl
  rw [List.append_nil] at bb
  refine wpAny_call (codeAny_mono ((F.mono hjk).run X.A X.stack s1 H1 ⟨us, []⟩ us vs Q (Ex σ) hr I1.env0 bb r q) fun r s' hq => ?_)
  cases r with
  | error e => exact hx pins σ H1 s1 e s' I1 hq
  | ok fl =>
    cases fl with
    | ret u => exact I1.after hq
    | next => exact False.elim hq
    | brk => exact False.elim hq
    | cont => exact False.elim hq
end

/-! ### try: .. except C as n: .. -/
/-- an exception of the class cls, made where none was handled -/
def excO (a : Addr) (cls : Value) : HO := .ext fun h => ∃ o, h.get? a = some o ∧ o.cls = cls ∧ ∃ vs, o.data = .fields vs ∧ vs[2]? = some .none
abbrev Cx.pinned (X : Cx) (pins : List (Addr × Obj)) : Cx := { X with pn := X.pn ++ pins }
abbrev Cx.tryX (X : Cx) (pins : List (Addr × Obj)) (Ex : XS) : Cx := (X.pinned pins).wish fun e s' => ∃ pins' σ H s, Inv (X.pinned pins) pins' σ H s ∧ CX1 X.prog X.w X.stack H s (Ex σ) e s'
abbrev Cx.inExc (X : Cx) (e : Value) : Cx := { X with A := X.A.mark (some e), calm := false, xe := fun _ _ => False }
section
variable {X : Cx} {pins pins' : List (Addr × Obj)} {σ : St} {H H' : Hp} {s : Shared}
theorem Cx.Ok.pinned (ok : X.Ok) (pins : List (Addr × Obj)) : (X.pinned pins).Ok :=
  ⟨ok.mod, ok.kind, ok.glob, ok.blt, ok.above, ok.inj, ok.has, ok.cab, ok.hd, ok.frames, ok.stk, ok.exf, ok.bs, ok.bsz, ok.noex, ok.exfs, ok.funs, ok.frf⟩
theorem Cx.Ok.unpin (ok : (X.pinned pins).Ok) : X.Ok :=
  ⟨ok.mod, ok.kind, ok.glob, ok.blt, ok.above, ok.inj, ok.has, ok.cab, ok.hd, ok.frames, ok.stk, ok.exf, ok.bs, ok.bsz, ok.noex, ok.exfs, ok.funs, ok.frf⟩
theorem Inv.pinX (I : Inv X pins σ H s) : Inv (X.pinned pins) [] σ H s :=
  ⟨I.ok.pinned _, I.os, I.bare, I.base, I.loc, I.cell, I.free, I.freeC, fun p hp => I.pin p (by rw [List.append_nil] at hp; exact hp), I.hok, I.len⟩
theorem Inv.unpin (I : Inv (X.pinned pins) pins' σ H s) : Inv X pins σ H s :=
  ⟨I.ok.unpin, I.os, I.bare, I.base, I.loc, I.cell, I.free, I.freeC, fun p hp => I.pin p (List.mem_append_left _ hp), I.hok, I.len⟩
theorem Inv.mark (I : Inv X pins σ H s) (e : Value) : Inv (X.inExc e) pins σ H s :=
  have ok := I.ok
  ⟨⟨ok.mod, ok.kind, ok.glob, ok.blt, ok.above, ok.inj, ok.has, ok.cab, (fun z => by cases z), ok.frames, ok.stk, ok.exf, ok.bs, ok.bsz, ok.noex, ok.exfs, ok.funs, ok.frf⟩, I.os, I.bare, I.base, I.loc, I.cell, I.free, I.freeC, I.pin, I.hok, I.len⟩
theorem Inv.unmark {e : Value} (ok : X.Ok) (I : Inv (X.inExc e) pins σ H s) : Inv X pins σ H s := ⟨ok, I.os, I.bare, I.base, I.loc, I.cell, I.free, I.freeC, I.pin, I.hok, I.len⟩
/-- the exception is here: what is known behind its way -/
theorem Inv.caught {a : Addr} {cls a0 : Value} {B : Heap} {s1 : Shared} {h3 : Heap} (I : Inv X pins σ H s) (os : s1.os = s.os) (bare : AllBare s1.gens) (un : Un (frs X.stack) [] H H' s.heap s1.heap) (hok : HOk X.prog X.w H' B) (sb : B.StaysIn s1.heap)
    (fl : Heap.FlyingW B X.stack a cls a0 h3) (nc : NoCtx h3 a) (up : s1.heap.UpToSlots h3) (cov : ∀ b o, s.heap.get? b = some o → b ∉ frs X.stack → ∃ o', B.get? b = some o') :
    H' a = none ∧ Inv X pins σ (upd H' a (excO a cls)) { s1 with heap := h3 } := by
  obtain ⟨oe, vs, he, hc, hd, _⟩ := fl.first
  have n0 : ∀ b : Addr, b ∉ ([] : List Addr) := fun b z => by cases z
  have ha' : H' a = none := by
    cases z : H' a with
    | none => rfl
    | some o =>
      obtain ⟨u, e⟩ := (hok a o z).at_
      rw [fl.2.1] at e
      cases e
  have nf : a ∉ frs X.stack := fun hm => by
    obtain ⟨_, o', ho', hd'⟩ := fl.2.2.1.mem hm
    rw [he] at ho'
    cases ho'
    exact hd' _ hd
  have new : s.heap.get? a = none := by
    cases z : s.heap.get? a with
    | none => rfl
    | some o =>
      obtain ⟨o', e⟩ := cov a o z nf
      rw [fl.2.1] at e
      cases e
  have ha : H a = none := by
    cases z : H a with
    | none => rfl
    | some o =>
      obtain ⟨u, e⟩ := (I.hok a o z).at_
      rw [new] at e
      cases e
  have ne : ∀ b o, s.heap.get? b = some o → b ≠ a := fun b o e z => by rw [z, new] at e; cases e
  refine ⟨ha', I.call' (s' := { s1 with heap := h3 }) (ch := []) os ⟨fun b o q n hb _ => ?_, fun b o q n hb _ => ?_, fun b o q n _ => ?_, fun b o q _ => ?_, fun b xs q => ?_, fun b o u q => ?_, fun b ps q => ?_⟩ (fun b o q => ?_) bare (fun b z => (n0 b z).elim)⟩
  · have e2 := un.keep b o q n hb (n0 b)
    obtain ⟨o', e3⟩ := cov b o q hb
    have e4 := sb b o' e3
    rw [e2] at e4
    cases e4
    exact fl.1 b o e3
  · obtain ⟨sl2, e2⟩ := un.slot b _ q n hb (n0 b)
    obtain ⟨_, o', ho', hd'⟩ := I.stack.mem hb
    rw [q] at ho'
    cases ho'
    obtain ⟨sl3, e3⟩ := up b _ e2 hd'
    exact ⟨sl3, e3⟩
  · rw [upd_ne (ne b o q)]
    exact un.free b o q n (n0 b)
  · by_cases hb : b ∈ frs X.stack
    · obtain ⟨_, o', ho', _⟩ := fl.2.2.1.mem hb
      exact ⟨o', ho'⟩
    · obtain ⟨o', e⟩ := cov b o q hb
      exact ⟨o', fl.1 b o' e⟩
  · rw [upd_ne (ne_of_none q ha)]
    exact un.tups b xs q
  · rw [upd_ne (ne_of_none q ha)]
    exact un.frzs b o u q
  · obtain ⟨m, e⟩ := un.tbls b ps q
    exact ⟨m, by rw [upd_ne (ne_of_none q ha)]; exact e⟩
  · by_cases hb : b = a
    · subst hb
      rw [upd_same] at q
      cases q
      obtain ⟨o2, vs2, e2, d2, z2⟩ := nc
      rw [he] at e2
      cases e2
      exact ⟨⟨oe, he, hc, vs2, d2, z2⟩, ⟨oe, he⟩, fun h1 h2 ⟨o, e, z⟩ k => ⟨o, k o e, z⟩⟩
    · rw [upd_ne hb] at q
      exact (hok b o q).stay (fun c v _ z => fl.1 c v z) (fun c z => by rw [upd_ne (ne_of_none z ha')]; exact z) fun c xs z => by rw [upd_ne (ne_of_none z ha')]; exact z
end
end L2

namespace L2
open PySem PySem.Spec PyProof.Rows
def tTry (tb : XS → TS) (K : PySem.W.Frag) (R : Value) (i : Nat) (ts : TS) : TS := fun D σ H => ∃ Ex : XS, tb Ex D σ H ∧ ∀ σ' cls H', Ex σ' cls none H' → PySem.W.exmOne K cls R = some true ∧ ∀ a, H' a = none →
  ts { nx := fun σ2 H2 => D.nx (σ2.set i none) H2, rt := D.rt, bk := fun σ2 H2 => D.bk (σ2.set i none) H2, ct := fun σ2 H2 => D.ct (σ2.set i none) H2 } (σ'.set i (some (.ref a))) (upd H' a (excO a cls))
section
variable {X : Cx} {Ex : XS} {pins : List (Addr × Obj)} {tb : XS → TS} {ts : TS} {c n : Str} {i : Nat} {R : Addr} {body suite : List Stmt} {b₀ : Stmt} {np hpos pos : Pos}
theorem px_try : PassesX (X.tryX pins Ex) Ex := fun pins' σ H s _ _ I h => ⟨pins', σ, H, s, I.unwish, h⟩
theorem SP.untry {D : Ends} {f : Flow} {s' : Shared} (h : SP (X.tryX pins Ex) [] D f s') : SP X pins D f s' := by
  cases f with
  | next => obtain ⟨σ', H', I, q⟩ := h; exact ⟨σ', H', I.unwish.unpin, q⟩
  | brk => obtain ⟨σ', H', I, q⟩ := h; exact ⟨σ', H', I.unwish.unpin, q⟩
  | cont => obtain ⟨σ', H', I, q⟩ := h; exact ⟨σ', H', I.unwish.unpin, q⟩
  | ret u => obtain ⟨v, σ', H', I, r, q⟩ := h; exact ⟨v, σ', H', I.unwish.unpin, r, q⟩
end
end L2

/-! ### the class of an exception of an own class, as isinstance asks for it -/
namespace Mr.X
open PySem PySem.W PySem.Spec PySem.Calls PyProof.Rows Builtin Builtin.ObjectAttr Builtin.Getset_descriptor
section
variable {prog : Program} {w : World} {A : Around} {E : Value → Shared → Prop} {K : Frag} {D a : Addr} {h : Heap} {g : Array GenState} {d : Drawn} {t : Nat} {os : OsState} {o : Obj}
/-- the built-in may be called -/
theorem may {v : Value} {Q : Unit → Shared → Prop} (X : K.In h) (hB : subIn K (.ref D) (.type "BaseException") = some true) (at_ : h.get? a = some o) (cl : o.cls = .ref D) (q : Q () (Shared.mk h g d t os)) :
    wpAny (model prog w) A (checkBuiltinCall "BaseException.__getattribute__" ⟨[.ref a, v], []⟩) Q E (Shared.mk h g d t os) := by
  have LB := looks_subIn (M := model prog w) X hB
  have ar := F.args_bexc_ga (Value.ref a) v
  simp only [checkBuiltinCall, (by decide +kernel : builtinKind "BaseException.__getattribute__" = some .slot), (by decide +kernel : splitId "BaseException.__getattribute__" = some ("BaseException", "__getattribute__"))]
  refine wpAny_bind ?_
  · unfold isInstance; repeat (first | (with_reducible refine wpAny_loadPart_at at_ ?_; rw [cl]) | (with_reducible refine LB.at ?_) | wp_step)
    exact q
/-- object.__class__ of it -/
theorem cls_of {tp : Value} {R : Result → Shared → Prop} (X : K.In h) (at_ : h.get? a = some o) (cl : o.cls = .ref D) (hm : mroIn K D (.type "object") = some true) (q : R (.ok (.ret (.ref D))) (Shared.mk h g d t os)) :
    codeAny (model prog w) A (.call (.builtin "getset_descriptor.__get__") ⟨[.builtin "object.__class__", .ref a, tp], []⟩) R (Shared.mk h g d t os) := by
  have Lt : Looks (model prog w) h (typeOf (.ref a)) (.ref D) := cl ▸ (Looks.ld at_).andThen .now
  have Lm := looks_mroIn (M := model prog w) X hm
  refine codeAny_call_builtin KF.slot_gs.plain KF.entry_gs ?_
  refine KF.slot_gs.check _ _ _ _ _ _ _ _ KF.type_class (KF.args_gs _ _ _) ?_
  unfold Builtin.«getset_descriptor.__get__» descrGet; rw [dga_obj]
  refine wpAny_bind (wpAny_pure ?_)
  unfold descrGetter descrCheckInstance descrNameAndClass isInstance; simp only [KF.owner_class]
  repeat lk
  refine ⟨Code.quiet_builtin _ (by decide +kernel), codeAny_builtin KF.entry_class ?_⟩; unfold Builtin.«object.__class__» shownTypeOf
  repeat lk
  exact q
theorem look_of {tk : Tok} {Q : Fin → Shared → Prop} (X : K.In h) (at_ : h.get? a = some o) (cl : o.cls = .ref D) (ha : findIn K (.ref D) "__class__" = some (some (.builtin "object.__class__"))) (hm : mroIn K D (.type "object") = some true)
    (q : Q (.done (.ret (.ref D))) (Shared.mk h g d t os)) : wpAny (model prog w) A (Builtin.«object.__getattribute__» ⟨[.ref a, .str "__class__" tk], []⟩) Q E (Shared.mk h g d t os) := by
  have ty : ((Shared.mk h g d t os)).TypeIs (.builtin "object.__class__") "getset_descriptor" := F.typeOf_object_class
  have ty' := F.typeOf_object_class; have sg := F.slot_gs_get.lookup; have ss := F.slot_gs_set.lookup
  have Lc := looks_findIn (M := model prog w) X ha
  repeat (any_goals (first | assumption | (with_reducible refine wpAny_loadPart_at at_ ?_; rw [cl]) | (with_reducible refine Lc.at ?_) | wp_step))
  exact cls_of X at_ cl hm (by repeat (any_goals (first | assumption | wp_step)))
theorem attr {Q : Option Value → Shared → Prop} (X : K.In h) (at_ : h.get? a = some o) (cl : o.cls = .ref D) (hga : findIn K (.ref D) "__getattribute__" = some (some (.builtin "BaseException.__getattribute__"))) (hg : findIn K (.ref D) "__getattr__" = some none)
    (ha : findIn K (.ref D) "__class__" = some (some (.builtin "object.__class__"))) (hB : subIn K (.ref D) (.type "BaseException") = some true) (hm : mroIn K D (.type "object") = some true) (q : Q (some (.ref D)) ⟨h, g, d, t + 1, os⟩) :
    wpAny (model prog w) A (getAttr? (.ref a) "__class__") Q E (Shared.mk h g d t os) := by
  have bd := F.attrBase_ValueError.ga.bind (.ref a)
  have n1 : (onTheHeap (Value.ref D) && Value.builtin "BaseException.__getattribute__" == Value.builtin "object.__getattribute__") = false := by
    rw [(by decide +kernel : (Value.builtin "BaseException.__getattribute__" == Value.builtin "object.__getattribute__") = false)]; rfl
  have n0 : (false && onTheHeap (Value.builtin "BaseException.__getattribute__")) = false := rfl
  have Lg := looks_findIn (M := model prog w) X hga; have Lh := looks_findIn (M := model prog w) X hg
  unfold getAttr? getAttrBy?
  refine wpAny_bind (wpAny_mkText (wpAny_bind (wpAny_attempt ?_)))
  repeat (any_goals (first | assumption | (with_reducible refine wpAny_loadPart_at at_ ?_; rw [cl]) | (with_reducible refine Lg.at ?_) | (with_reducible refine Lh.at ?_) | wp_step))
  exact codeAny_call_builtin F.attrBase_ValueError.ga.plain F.entry_bexc_ga (may X hB at_ cl (look_of X at_ cl ha hm (by repeat (any_goals (first | assumption | wp_step)))))
end
/-- what the fragment has of an own exception class -/
structure ExC (K : Frag) (D : Addr) : Prop where
  ga : findIn K (.ref D) "__getattribute__" = some (some (.builtin "BaseException.__getattribute__"))
  gt : findIn K (.ref D) "__getattr__" = some none
  cl : findIn K (.ref D) "__class__" = some (some (.builtin "object.__class__"))
  be : subIn K (.ref D) (.type "BaseException") = some true
  ob : mroIn K D (.type "object") = some true
  is : ∃ c d cd sl, K.lookup D = some ⟨c, d, .cls cd, sl⟩
theorem ExC.kit {K : Frag} {D a : Addr} (e : ExC K D) : KitX K (.ref a) (.ref D) (fun h => ∃ o, h.get? a = some o ∧ o.cls = .ref D) where
  ty := fun M h _ ⟨o, at_, cl⟩ => cl ▸ (Looks.ld at_).andThen .now
  it := fun M h X _ => by
    obtain ⟨c, d, cd, sl, lk⟩ := e.is
    intro A Q E s k q
    unfold isType loadHead; exact wpAny_bind (wpAny_loadPart (k _ _ (X _ _ lk)) (wpAny_pure q))
  ne := fun h tp dd its n sl X htp => by
    obtain ⟨c, d, cd, sl', lk⟩ := e.is
    refine Bool.eq_false_iff.mpr fun z => ?_
    have z1 : D = tp := Value.ref.inj (beq_iff_eq.mp z)
    have z2 := X _ _ lk
    rw [z1, htp] at z2
    cases z2
  ca := fun {_ _ _ _ _ s} X ⟨o, at_, cl⟩ k => by
    obtain ⟨h, g, d, t, os⟩ := s
    exact attr X at_ cl e.ga e.gt e.cl e.be e.ob k
end Mr.X
namespace L2
open PySem PySem.Spec PyProof.Rows
section
variable {X : Cx}
/-- isinstance(e, C): e an exception that was caught -/
theorem call_isE : CallR X (.builtin "isinstance") (fun xs H Q => ∃ a D c b, xs = [.ref a, c] ∧ H a = some (excO a (.ref D)) ∧ Mr.X.ExC X.K D ∧ (∀ u, RelV c u → PySem.W.kitOne X.K (.ref D) u = some b) ∧ Q (.bl b) H) := by
  intro pins s σ H xs us Q I r h
  obtain ⟨a, D, c, b, rfl, ha, ex, e, q⟩ := h
  obtain ⟨u, u', rfl, ru, ru'⟩ := vals2 r
  obtain rfl : u = Value.ref a := ru
  obtain ⟨⟨o, p, p2, _⟩, _⟩ := (show ObjOk X.prog X.w H s.heap a (excO a (.ref D)) from I.hok a _ ha)
  exact PySem.W.kia_one ex.kit I.kIn ⟨o, p, p2⟩ (e _ ru') (fun z => nomatch z) fun tk => ⟨.bl b, H, I.tok tk, rfl, q⟩
end
end L2

namespace L2
open PySem PySem.Spec PyProof.Rows
/-! ### a def that is called within an except suite: it makes no exception -/
structure RoomN (k : Nat) (A : Around) : Prop where
  dp : A.depth + 3 * k + 5 < recursionLimit
  un : A.units + 16 * k + 200 < cLine
theorem Room.n {k : Nat} {A : Around} (r : Room k A) : RoomN k A := ⟨r.dp, r.un⟩
theorem RoomN.mark {k : Nat} {A : Around} {e : Option Value} (r : RoomN k A) : RoomN k (A.mark e) := ⟨r.dp, r.un⟩
theorem RoomN.mono {j k : Nat} {A : Around} (r : RoomN k A) (h : j ≤ k) : RoomN j A := ⟨by have := r.dp; omega, by have := r.un; omega⟩
theorem RoomN.deeper {k : Nat} {A : Around} (r : RoomN (k + 1) A) (env : Env) : RoomN k (A.deeper env) :=
  ⟨by have := r.dp; show A.depth + 1 + 3 * k + 5 < _; omega, by have := r.un; show A.units + 3 + 16 * k + 200 < _; omega⟩
theorem RoomN.depth {k : Nat} {A : Around} (r : RoomN k A) : A.depth < recursionLimit := by have := r.dp; omega
theorem RoomN.units0 {k : Nat} {A : Around} (r : RoomN k A) : A.units < cLine := by have := r.un; omega
structure FnOkN (P : Program) (w : World) (K : PySem.W.Frag) (mg : Str → Option Value) (base : Heap) (k : Nat) (f : Addr) (fd : FuncData) (ps : List Str) (sp : Sp) : Prop where
  len : ∀ vs H Q E, sp vs H Q E → vs.length = ps.length
  run : ∀ (A : Around) (outer : List Env) (s : Shared) (H : Hp) (args : Args) (us : List Value) (vs : List V) (Q : VK) (E : XK), RoomN k A → Env0 P w K mg base A outer s H → BindsTo s fd args (ps.zip us) → Vals vs us → sp vs H Q E →
    codeAny (model P w) A (.call (.ref f) args) (CR CX0 outer P w H s Q E) s
theorem FnOkN.mono {P : Program} {w : World} {K : PySem.W.Frag} {mg : Str → Option Value} {base : Heap} {j k : Nat} {f : Addr} {fd : FuncData} {ps : List Str} {sp : Sp} (F : FnOkN P w K mg base j f fd ps sp) (h : j ≤ k) :
    FnOkN P w K mg base k f fd ps sp := ⟨F.len, fun A outer s H args us vs Q E hr => F.run A outer s H args us vs Q E (hr.mono h)⟩
abbrev cxN (P : Program) (w : World) (K : PySem.W.Frag) (mg : Str → Option Value) (base : Heap) (N : List Str) (qual : Str) (scope : Scope) (f : Addr) (cd : Value) (A : Around) (outer : List Env) (s : Shared) (H : Hp) : Cx :=
  { (cxOf CX0 P w K mg base N qual scope f cd A outer s H E0).nox with calm := false }
structure DfN (P : Program) (w : World) (K : PySem.W.Frag) (mg : Str → Option Value) (base : Heap) (k : Nat) (x : Str) (ps : List Str) (sp : Sp) : Prop where
  ex : ∃ (f : Addr) (fd : FuncData), FnOkN P w K mg base k f fd ps sp ∧ mg x = some (.ref f) ∧ PySem.W.keepIn K (.ref f) = true ∧ Binds K fd ps []
section
variable {P : Program} {w : World} {K : PySem.W.Frag} {mg : Str → Option Value} {base : Heap}
theorem At.dfn {k : Nat} {x : Str} {st : Stmt} {ps : List Str} {sp : Sp} (a : At K mg x st ps) (h : ∀ f fd, Fun K x x st f fd → FnOkN P w K mg base k f fd ps sp) : DfN P w K mg base k x ps sp :=
  let ⟨f, fd, F, m, b⟩ := a.ex
  ⟨f, fd, h f fd F, m, F.kp, .all b⟩
/-- THE RULE for a def that may be called anywhere -/
theorem Fun.okn {x qual : Str} {st : Stmt} {f : Addr} {fd : FuncData} {N ps : List Str} {k : Nat} {sp : Sp} (F : Fun K x qual st f fd) (S : FnScope N ps (defScope st)) (len : ∀ vs H Q E, sp vs H Q E → vs.length = ps.length)
    (hbody : ∀ (cdv : Value) (A : Around) (outer : List Env) (s : Shared) (H : Hp) (vs : List V) (Q : VK) (E : XK), RoomN k (A.deeper (envOfC qual (defScope st) s.heap.objs.size f cdv)) → sp vs H Q E →
      ∃ t, PSs (cxN P w K mg base N qual (defScope st) f cdv A outer s H) (defBody st) t ∧ t { nx := fun _ H' => Q .non H', rt := Q } (start N vs) H) : FnOkN P w K mg base (k + 1) f fd ps sp := by
  obtain ⟨oc, od, kV, doc, pm, an, cdv, ct, osl, rfl, lk, hcd⟩ := F.ex
  refine ⟨len, fun A outer s H args us vs Q E hr e0 hb r hsp => ?_⟩
  have hl := len _ _ _ _ hsp
  have KX : K.In s.heap := e0.mod.kin.keeps fun b o e => (e0.bs b o e).1
  have lim : s.heap.NoLimit := e0.mod.nolimit.keeps fun b o e => (e0.bs b o e).1
  have hkind : ∀ y ∈ ps.zip us, (defScope st).names.lookup y.1 = some .local ∨ ((defScope st).names.lookup y.1 = some .cell ∧ ((cellsFrom (s.heap.objs.size + 1) (defScope st).names []).lookup y.1).isSome = true) := fun ⟨n, v⟩ hy => by
    rcases S.par n (List.of_mem_zip hy).1 with q | q
    · exact .inl q
    · exact .inr ⟨q, PySem.W.cellsFrom_some _ _ _ (.inl q)⟩
  refine codeAny_call_function hr.depth (KX _ _ lk) rfl S.co S.gen rfl (PySem.W.codeRec_of KX hcd) (hb _ _ _ _ ?_)
  refine wpAny_newFunctionEnv_cells S.kind hkind fun env he s1 x => ?_
  subst he
  refine ⟨lim.keeps x.toInCall.keep, codeAny_func ?_⟩
  obtain ⟨t, ht, hq⟩ := hbody cdv A outer s H vs Q E (hr.deeper _) hsp
  have e1 : Env0 P w K mg base { A with handled := none } outer s H := ⟨e0.frames, e0.mod, e0.bs, e0.bsz, e0.funs, e0.frf, e0.hok, e0.bare⟩
  have I0 : Inv (cxOf CX0 P w K mg base N qual (defScope st) f cdv { A with handled := none } outer s H E0) [] (start N vs) H s1 := inv_start S rfl e1 hl r x
  have ok := I0.ok
  have I : Inv (cxN P w K mg base N qual (defScope st) f cdv A outer s H) [] (start N vs) H s1 :=
    ⟨⟨ok.mod, ok.kind, ok.glob, ok.blt, ok.above, ok.inj, ok.has, ok.cab, (fun z => by cases z), ok.frames, ok.stk, ok.exf, ok.bs, ok.bsz, ok.noex, ok.exfs, ok.funs, ok.frf⟩, I0.os, I0.bare, I0.base, I0.loc, I0.cell, I0.free, I0.freeC, I0.pin, I0.hok, I0.len⟩
  refine wpAny_mono (ht [] s1 (start N vs) H _ I hq) (fun fl s' hs => ?_) fun e s' hs => hs.elim
  cases fl with
  | ret u =>
    obtain ⟨v, σ', H', J, rv, q⟩ := hs
    exact ⟨v, H', J.os, J.bare, J.base, J.hok, rv, q⟩
  | next =>
    obtain ⟨σ', H', J, q⟩ := hs
    exact ⟨V.non, H', J.os, J.bare, J.base, J.hok, rfl, q⟩
  | brk =>
    obtain ⟨_, _, _, q⟩ := hs
    exact False.elim q
  | cont =>
    obtain ⟨_, _, _, q⟩ := hs
    exact False.elim q
end
section
variable {X : Cx} {k j : Nat} {x : Str} {ps : List Str} {sp : Sp} {e : Expr} {es : List Expr} {p pos : Pos} {t : TA}
theorem pe_dfn (d : DfN X.prog X.w X.K X.mg X.base j x ps sp) (hr : RoomN k X.A) (hg : Gl X x) (ha : PA X (e :: es) t) (hjk : j ≤ k := by decide) (hdb : (x == ("__debug__" : Str)) = false := by decide)
    (he : starEach (e :: es) X.env = (false, eval e X.env) :: starEach es X.env := by rfl) (hpl : (backTo pos (starEach es X.env)).any (·.1) = false := by rfl) : PE X (.Call (.Name x p) (e :: es) [] pos) (tCall sp [] E0 t) := by
  intro pins s σ H Q I h
  obtain ⟨f, fd, F, hm, hk, hb⟩ := d.ex
  refine wpAny_Call_Name_kw (ld_glob I hg hm ?_ hdb)
  refine PySem.W.callWith_K (h₀ := X.base) I.ok.mod.kin hk (thn (ha pos pins s σ H _ I h) fun us s1 ⟨vs, H1, I1, r, q⟩ => ⟨I1.kIn, ?_⟩) he hpl
  dsimp only at q
  rw [List.append_nil] at q
  have hl : (us ++ ([] : List Value)).length = ps.length := by rw [List.append_nil, ← r.length]; exact F.len _ _ _ _ q
  have bb := hb s1 us I1.kIn hl
  rw [List.append_nil] at bb
  refine wpAny_call (codeAny_mono ((F.mono hjk).run X.A X.stack s1 H1 ⟨us, []⟩ us vs Q E0 hr I1.env0 bb r q) fun r s' hq => ?_)
  cases r with
  | error e => exact False.elim hq
  | ok fl =>
    cases fl with
    | ret u => exact I1.after hq
    | next => exact False.elim hq
    | brk => exact False.elim hq
    | cont => exact False.elim hq
/-- a class of the program, by its name -/
theorem pe_cls {C : Addr} (hg : Gl X x) (hm : X.mg x = some (.ref C)) (hdb : (x == ("__debug__" : Str)) = false := by decide) : PE X (.Name x p) (tC (.ref C)) := by
  intro pins s σ H Q I h
  exact ld_glob I hg hm ⟨.ref C, H, I, rfl, h⟩ hdb
end
end L2

namespace L2
open PySem PySem.Spec PyProof.Rows PySem.SeqAt PySem.MeetsSeq
/-! ### xs.count(b), xs.index(b) of truths -/
def isB (b : Bool) : Value → Bool
  | .bool c => c == b
  | _ => false
def rCountB : V → List V → Hp → VK → Prop := fun x vs H Q => ∃ (l : Addr) (bs : List Bool) (b : Bool), x = .ref l ∧ vs = [.bl b] ∧ H l = some (.lst (bs.map V.bl)) ∧ Q (.int (bs.count b : Nat)) H
def rIndexB : V → List V → Hp → VK → Prop := fun x vs H Q => ∃ (l : Addr) (bs : List Bool) (b : Bool) (j : Nat), x = .ref l ∧ vs = [.bl b] ∧ H l = some (.lst (bs.map V.bl)) ∧ bs[j]? = some b ∧ (∀ m, m < j → bs[m]? = some (!b)) ∧ Q (.int (j : Nat)) H
section
variable {X : Cx}
end
end L2

namespace L2
open PySem PySem.Spec PyProof.Rows
/-- an own error class of the text, by the fragment -/
theorem own_of {K : PySem.W.Frag} {h : Heap} {mg : Str → Option Value} {x : Str} {C : Addr} {bmB : List Value} {newId : String} (X : K.In h) (b : mg x = some (.ref C)) (q : PySem.W.excIn K C bmB newId = true) : OwnCls x C bmB newId mg h := by
  refine ⟨b, ?_⟩
  unfold PySem.W.excIn at q
  split at q
  · rename_i d data slots look
    split at q
    · rename_i C' tail s0 s1 s2 s3 id s5 em es
      simp only [beq_iff_eq, Bool.not_eq_true', Bool.and_eq_true] at q
      obtain ⟨⟨⟨⟨⟨rfl, rfl⟩, nodel⟩, tl⟩, nok⟩, noinit⟩ := q
      obtain ⟨a1, a2, a3, a4, a5, a6, a7, a8, a9, a10, a11⟩ := data
      dsimp only at em nodel nok noinit
      subst em nodel
      obtain rfl : slots = #[s0, s1, s2, s3, some (.builtin id), s5] := by
        obtain ⟨xs⟩ := slots
        simp only at es
        rw [es]
      exact ⟨tail, a4, a1, a5, a2, a6, a7, a8, a9, a10, d, s0, s1, s2, s3, s5, _, X _ _ look, .of_isNs (PySem.W.isNs_of_in X nok), PySem.W.nsMap_none_of_in X nok noinit, PySem.W.tail_of_in X tl⟩
    · cases q
  · cases q
/-- raise C(..), C under ValueError -/
def Er (K : PySem.W.Frag) (mg : Str → Option Value) (x : Str) (C : Addr) : Prop := mg x = some (.ref C) ∧ PySem.W.excIn K C [.type "ValueError", .type "Exception", .type "BaseException", .type "object"] "ValueError.__new__" = true
theorem ps_raiseV {X : Cx} {E : XK} {x : Str} {C : Addr} {np cpos pos : Pos} {e₀ : Expr} {es : List Expr} {t : TA} (L : Lv X E) (hc : X.calm = true) (er : Er X.K X.mg x C) (hg : Gl X x) (ha : PA X (e₀ :: es) t)
    (he : starEach (e₀ :: es) X.env = (false, eval e₀ X.env) :: starEach es X.env := by rfl) (hplain : (backTo cpos (starEach es X.env)).any (·.1) = false := by rfl) (hd : (x == ("__debug__" : Str)) = false := by decide) :
    PS X (.Raise (some (.Call (.Name x np) (e₀ :: es) [] cpos)) none pos) (tRaise (.ref C) E t) := fun pins s σ H D I h =>
  ps_raise L hc (own_of I.ok.mod.kin er.1 er.2) F.excBase_ValueError (by decide +kernel) F.excBase_ValueError hg ha he hplain hd pins s σ H D I h
end L2

namespace L2
open PySem PySem.Spec PyProof.Rows
/-! rules within a comprehension, where the context's K must be said plainly -/
section
variable {X : Cx} {K : PySem.W.Frag}
theorem ix_listK (h : X.K = K) : IxR X (rIxL K) := h ▸ ix_list
end
end L2

namespace L2
open PySem PySem.Spec PyProof.Rows PySem.SeqAt PySem.MeetsSeq
/-! ### sum and max of a list of ints; xs.index(n); tuples and None compared by != -/
section
variable {X : Cx}
theorem call_sumI (hc : X.calm = true) : CallR X (.builtin "sum") (fun xs H Q => ∃ (p : Addr) (ns : List Int), xs = [.ref p] ∧ SqL X.K H p (ns.map V.int) ∧ Q (.int ns.sum) H) := by
  intro pins s σ H xs us Q I r h
  obtain ⟨p, ns, rfl, hq, q⟩ := h
  obtain ⟨u, rfl, ru⟩ := vals1 r
  cases ru
  obtain ⟨its, rv, pl, _⟩ := I.list hq
  have hi := intsAre_of rv
  have hl := pl.isList
  obtain ⟨ys, e⟩ := hi.allInts.items
  have hns : ns = ys.toList.map (·.1) := by rw [← hi.numsOf, ← nums_intItems, ← e]
  rw [e] at hl
  refine sum_intListG (I.ok.hd hc) hl fun h' tk t' hk => ⟨.int ns.sum, H, I.kept hk, ⟨t', ?_⟩, q⟩
  rw [preSum_eq, List.take_of_length_le (by simp), hns]
def isI (n : Int) : Value → Bool
  | .int c _ => c == n
  | _ => false
def rIndexI : V → List V → Hp → VK → Prop := fun x vs H Q => ∃ (l : Addr) (ns : List Int) (n : Int) (j : Nat), x = .ref l ∧ vs = [.int n] ∧ H l = some (.lst (ns.map V.int)) ∧ ns[j]? = some n ∧ (∀ m, m < j → ns[m]? ≠ some n) ∧ Q (.int (j : Nat)) H
/-- None against None, or two tuples of plain values, or one of each -/
def rNeTN : R2 := fun x y H Q => (x = .non ∧ y = .non ∧ Q (.bl false) H) ∨ ∃ p q xs ys, x = .ref p ∧ y = .ref q ∧ H p = some (.tup xs) ∧ H q = some (.tup ys) ∧ xs.all flatV = true ∧ ys.all flatV = true ∧ Q (.bl (!eqVs xs ys)) H
end
end L2

namespace L2
open PySem PySem.Spec PyProof.Rows
/-! ### for a, b in enumerate(xs), in zip(xs, ys) -/
section
variable {X : Cx} {pins : List (Addr × Obj)} {σ : St} {H : Hp} {s : Shared} {h' : Heap} {wr : List Addr} {t' : Nat}
end
/-- the list at a: at each turn a new tuple (i, item) -/
def Ite (a : Addr) : It :=
  ⟨fun i H => ∃ xs x, H a = some (.lst xs) ∧ xs[i]? = some x, fun i H x H' => ∃ (T : Addr) (v : V), x = .ref T ∧ H T = none ∧ H' = upd H T (.tup [.int (i : Int), v]) ∧ ∀ xs, H a = some (.lst xs) → xs[i]? = some v, fun i H => ∃ xs, H a = some (.lst xs) ∧ xs.length = i⟩
def iEnum (ta : TA) : TI := fun σ H R => ta σ H fun vs H1 => ∃ (a : Addr) (xs : List V), vs = [.ref a] ∧ H1 a = some (.lst xs) ∧ R (Ite a) H1
section
variable {X : Cx} {elts : List Expr} {k : Nat} {tp : Pos}
end
/-- two lists at once: at each turn a new tuple of both items -/
def Itz (a b : Addr) : It :=
  ⟨fun i H => ∃ xs ys x y, H a = some (.lst xs) ∧ H b = some (.lst ys) ∧ xs[i]? = some x ∧ ys[i]? = some y,
   fun i H z H' => ∃ (T : Addr) (x y : V), z = .ref T ∧ H T = none ∧ H' = upd H T (.tup [x, y]) ∧ ∀ xs ys, H a = some (.lst xs) → H b = some (.lst ys) → xs[i]? = some x ∧ ys[i]? = some y,
   fun i H => ∃ xs ys, H a = some (.lst xs) ∧ H b = some (.lst ys) ∧ min xs.length ys.length = i⟩
def iZip (ta : TA) : TI := fun σ H R => ta σ H fun vs H1 => ∃ (a b : Addr) (xs ys : List V), vs = [.ref a, .ref b] ∧ H1 a = some (.lst xs) ∧ H1 b = some (.lst ys) ∧ R (Itz a b) H1
section
variable {X : Cx} {elts : List Expr} {k : Nat} {tp : Pos}
end
/-! the forms one uses -/
end L2

namespace L2
open PySem PySem.Spec PyProof.Rows
/-! ### comprehensions with a target of several names: [.. for a, b in zip(xs, ys)] -/
structure CompNamesL (X : Cx) (scope : Scope) (cl : List (Str × Addr)) (xs : List Str) (ys : List Str) (ix : List Nat) : Prop where
  clos : closureFor scope X.env = pure cl
  cell : (scope.names.all fun y => !(y.2 == NameKind.cell)) = true
  kind : scope.kind = .function
  names : (scope.names.all fun y => !(y.2 == NameKind.local) || scope.names.lookup y.1 == some NameKind.local) = true
  nd : (xs ++ ys).Nodup
  sub : SubOk X cl
  has : ((relabel scope X.env).names.all fun p => !(p.2 == NameKind.cell || p.2 == NameKind.free) || (cl.lookup p.1).isSome) = true
  free : FreeOk X scope cl ys ix
/-- the names' values at the block's start -/
def cstL (k : Nat) (ix : List Nat) (σ : St) : St := List.replicate k none ++ ix.map fun j => (σ[j]?).getD none
/-- .. and with the target stored -/
def cstV (vs : List V) (ix : List Nat) (σ : St) : St := vs.map some ++ ix.map fun j => (σ[j]?).getD none
section
variable {X : Cx} {scope : Scope} {cl : List (Str × Addr)} {xs ys : List Str} {ix : List Nat}
/-- [te for (a, b, ..) in wi if tt]: k names in the target -/
def tCompL (K : PySem.W.Frag) (k : Nat) (wi : TI) (ix : List Nat) (tt : TT) (te : TE) : TE := fun σ H Q => wi σ H fun J H1 => ∃ W : Nat → Nat → List V → Hp → Prop, (∃ m, W 0 m [] H1) ∧ ∀ i m ys H2, W i m ys H2 →
  (J.stop i H2 ∧ ys.length ≤ sizeLine ∧ ∀ p, H2 p = none → Q (.ref p) (upd H2 p (.lst ys))) ∨
  (J.go i H2 ∧ ys.length ≤ sizeLine ∧ ∀ x H3, J.yld i H2 x H3 → ∃ (a : Addr) (vs : List V), x = .ref a ∧ SqT K H3 a vs ∧ vs.length = k ∧ tt (cstV vs ix σ) H3 fun b H4 =>
    if b = true then te (cstV vs ix σ) H4 fun v H5 => ∃ m', m' < m ∧ W (i + 1) m' (ys ++ [v]) H5 else ∃ m', m' < m ∧ W (i + 1) m' ys H4)
end

/-! the targets of two and of three names -/
end L2

namespace L2
open PySem PySem.Spec PyProof.Rows
/-! ### xs[::-1] of a list; is True, is not True; the other rules that laws of reaches want -/
section
variable {X : Cx}
def tRevL (K : PySem.W.Frag) (te ts : TE) : TE := fun σ H Q => te σ H fun x H1 => ts σ H1 fun y H2 => ∃ a xs, x = .ref a ∧ y = .int (-1) ∧ SqL K H2 a xs ∧ ∀ p, H2 p = none → Q (.ref p) (upd H2 p (.lst xs.reverse))
end
end L2

namespace L2
open PySem PySem.Spec PyProof.Rows PySem.SeqAt PySem.MeetsSeq
/-! ### deep values that are the same: ==, != ; lists against []; insert(0, x); reversed(xs); divmod by greater numbers -/
/-- x and y have the same plain values in the same places, n deep -/
def DSame (H : Hp) : Nat → V → V → Prop
  | 0, x, y => flatV x = true ∧ x = y
  | n + 1, x, y => (flatV x = true ∧ x = y) ∨ (∃ p q xs ys, x = .ref p ∧ y = .ref q ∧ H p = some (.lst xs) ∧ H q = some (.lst ys) ∧ xs.length = ys.length ∧ ∀ (j : Nat) (u v : V), xs[j]? = some u → ys[j]? = some v → DSame H n u v) ∨
    (∃ p q xs ys, x = .ref p ∧ y = .ref q ∧ H p = some (.tup xs) ∧ H q = some (.tup ys) ∧ xs.length = ys.length ∧ ∀ (j : Nat) (u v : V), xs[j]? = some u → ys[j]? = some v → DSame H n u v)
theorem eqV_refl : ∀ {x : V}, flatV x = true → eqV x x = true
  | .non, _ => rfl
  | .bl b, _ => by show (b == b) = true; simp
  | .int i, _ => by show (i == i) = true; simp
  | .str z, _ => by show (z == z) = true; simp
section
variable {X : Cx} {pins : List (Addr × Obj)} {σ : St} {H : Hp} {s : Shared}
/-- != of two lists that are the same, n deep below them -/
def rNeD (n : Nat) : R2 := fun x y H Q => ∃ p q xs ys, x = .ref p ∧ y = .ref q ∧ H p = some (.lst xs) ∧ H q = some (.lst ys) ∧ xs.length = ys.length ∧ (∀ (j : Nat) (u v : V), xs[j]? = some u → ys[j]? = some v → DSame H n u v) ∧ Q (.bl false) H
/-- xs == [], xs != [] -/
def rNil (neg : Bool) : R2 := fun x y H Q => ∃ p q xs, x = .ref p ∧ y = .ref q ∧ H p = some (.lst xs) ∧ H q = some (.lst []) ∧ Q (.bl (if neg then !xs.isEmpty else xs.isEmpty)) H
/-- xs.insert(0, y) -/
def rInsert0 : V → List V → Hp → VK → Prop := fun x vs H Q => ∃ l xs y, x = .ref l ∧ vs = [.int 0, y] ∧ H l = some (.lst xs) ∧ xs.length < sizeLine ∧ Q .non (upd H l (.lst (y :: xs)))
/-- for x in reversed(xs) -/
def Itv (a : Addr) (xs : List V) : It :=
  ⟨fun i H => i < xs.length ∧ H a = some (.lst xs), fun i H x H' => H' = H ∧ xs[xs.length - 1 - i]? = some x, fun i H => i = xs.length⟩
def iRev (ta : TA) : TI := fun σ H R => ta σ H fun vs H1 => ∃ (a : Addr) (xs : List V), vs = [.ref a] ∧ H1 a = some (.lst xs) ∧ R (Itv a xs) H1
end
end L2

namespace L2
open PySem PySem.Spec PyProof.Rows
/-! ### repr of made data, where no repr is under way -/
mutual
/-- x is read as d -/
inductive RdV (H : Hp) : V → PyData → Prop
  | non : RdV H .non .none
  | bl (b : Bool) : RdV H (.bl b) (.bool b)
  | int (i : Int) : RdV H (.int i) (.int i)
  | str (z : Str) : RdV H (.str z) (.str z)
  | lst {p : Addr} {xs : List V} {ds : List PyData} : H p = some (.lst xs) → RdVs H xs ds → RdV H (.ref p) (.list ds)
  | tup {p : Addr} {xs : List V} {ds : List PyData} : H p = some (.tup xs) → RdVs H xs ds → RdV H (.ref p) (.tuple ds)
inductive RdVs (H : Hp) : List V → List PyData → Prop
  | nil : RdVs H [] []
  | cons {x : V} {d : PyData} {xs : List V} {ds : List PyData} : RdV H x d → RdVs H xs ds → RdVs H (x :: xs) (d :: ds)
end
mutual
theorem RdV.mono {H H' : Hp} (s : Same H H') : ∀ {x : V} {d : PyData}, RdV H x d → RdV H' x d
  | _, _, .non => .non
  | _, _, .bl b => .bl b
  | _, _, .int i => .int i
  | _, _, .str z => .str z
  | _, _, .lst h r => .lst (s _ _ h) (RdVs.mono s r)
  | _, _, .tup h r => .tup (s _ _ h) (RdVs.mono s r)
theorem RdVs.mono {H H' : Hp} (s : Same H H') : ∀ {xs : List V} {ds : List PyData}, RdVs H xs ds → RdVs H' xs ds
  | _, _, .nil => .nil
  | _, _, .cons a b => .cons (RdV.mono s a) (RdVs.mono s b)
end
section
variable {X : Cx} {pins : List (Addr × Obj)} {σ : St} {H : Hp} {s : Shared}
mutual
theorem RdV.reads (I : Inv X pins σ H s) : ∀ {x : V} {d : PyData} {u : Value}, RdV H x d → RelV x u → (∃ as, Reads s.heap u d as) ∧ d.hasDict = false
  | _, _, _, .non, r => by cases r; exact ⟨⟨_, .none⟩, by simp only [PyData.hasDict]⟩
  | _, _, _, .bl b, r => by cases r; exact ⟨⟨_, .bool b⟩, by simp only [PyData.hasDict]⟩
  | _, _, _, .int i, r => by obtain ⟨t, rfl⟩ := r; exact ⟨⟨_, .int i t⟩, by simp only [PyData.hasDict]⟩
  | _, _, _, .str z, r => by obtain ⟨t, rfl⟩ := r; exact ⟨⟨_, .str z t⟩, by simp only [PyData.hasDict]⟩
  | _, _, _, .lst h q, r => by
    cases r
    obtain ⟨_, its, n, rv, e⟩ := (show ObjOk X.prog X.w H s.heap _ (.lst _) from I.hok _ _ h)
    obtain ⟨⟨as, ra⟩, hd⟩ := RdVs.reads I q rv
    exact ⟨⟨_, .list e rfl rfl (by simpa using ra)⟩, by simp only [PyData.hasDict]; exact hd⟩
  | _, _, _, .tup h q, r => by
    cases r
    obtain ⟨_, its, rv, o, e, c, n, d⟩ := (show ObjOk X.prog X.w H s.heap _ (.tup _) from I.hok _ _ h)
    obtain ⟨⟨as, ra⟩, hd⟩ := RdVs.reads I q rv
    exact ⟨⟨_, .tuple e c d (by simpa using ra)⟩, by simp only [PyData.hasDict]; exact hd⟩
theorem RdVs.reads (I : Inv X pins σ H s) : ∀ {xs : List V} {ds : List PyData} {us : List Value}, RdVs H xs ds → Vals xs us → (∃ as, ReadsAll s.heap us ds as) ∧ PyData.hasDictAll ds = false
  | _, _, _, .nil, r => by cases r; exact ⟨⟨_, .nil⟩, by simp only [PyData.hasDictAll]⟩
  | _, _, _, .cons a b, r => by
    cases r with
    | cons r1 r2 =>
      obtain ⟨⟨as, ra⟩, h1⟩ := RdV.reads I a r1
      obtain ⟨⟨bs, rb⟩, h2⟩ := RdVs.reads I b r2
      exact ⟨⟨_, .cons ra rb⟩, by simp only [PyData.hasDictAll, h1, h2, Bool.or_self]⟩
end
end
end L2

namespace L2
open PySem PySem.Spec PyProof.Rows
structure FnOkC (P : Program) (w : World) (K : PySem.W.Frag) (mg : Str → Option Value) (base : Heap) (CX : CXT) (k : Nat) (f : Addr) (fd : FuncData) (ps : List Str) (sp : Sp) : Prop where
  len : ∀ vs H Q E, sp vs H Q E → vs.length = ps.length
  run : ∀ (outer : List Env) (s : Shared) (H : Hp) (args : Args) (us : List Value) (vs : List V) (Q : VK) (E : XK), Room k callerA → Env0 P w K mg base callerA outer s H → BindsTo s fd args (ps.zip us) → Vals vs us → sp vs H Q E →
    codeAny (model P w) callerA (.call (.ref f) args) (CR CX outer P w H s Q E) s
section
variable {P : Program} {w : World} {K : PySem.W.Frag} {mg : Str → Option Value} {base : Heap}
end
end L2

namespace Mr
open PySem L2
theorem bt_len : bootBuiltins "len" = some (.builtin "len") := by decide +kernel
theorem bt_all : bootBuiltins "all" = some (.builtin "all") := by decide +kernel
theorem bt_max : bootBuiltins "max" = some (.builtin "max") := by decide +kernel
theorem bt_min : bootBuiltins "min" = some (.builtin "min") := by decide +kernel
theorem bt_divmod : bootBuiltins "divmod" = some (.builtin "divmod") := by decide +kernel
theorem bt_isinstance : bootBuiltins "isinstance" = some (.builtin "isinstance") := by decide +kernel
theorem bt_str : bootBuiltins "str" = some (.type "str") := by decide +kernel
theorem bt_bool : bootBuiltins "bool" = some (.type "bool") := by decide +kernel
theorem bt_int : bootBuiltins "int" = some (.type "int") := by decide +kernel
theorem e_nil : ("" : Str) = tx [] := by decide +kernel
/-- letters a to z -/
def Let (l : List Nat) : Prop := ∀ c ∈ l, 97 ≤ c ∧ c ≤ 122
/-- all that is tracked, but what stands at b, is as it was -/
def But (b : Addr) (H H' : Hp) : Prop := ∀ c o, H c = some o → c ≠ b → H' c = some o
theorem But.trans {b : Addr} {H H1 H2 : Hp} (x : But b H H1) (y : But b H1 H2) : But b H H2 := fun c o e n => y c o (x c o e n) n
theorem But.of {b : Addr} {H H1 : Hp} (x : Same H H1) : But b H H1 := fun c o e _ => x c o e
theorem cut_to {l : List Nat} (k : Nat) : cutL l none (some (k : Int)) = l.take k := by
  unfold cutL
  rw [HT.sIx_nat, HT.sIx_none, Nat.sub_zero, List.drop_zero]
  by_cases h : k ≤ l.length
  · rw [Nat.min_eq_left h]
  · rw [Nat.min_eq_right (by omega), List.take_of_length_le (Nat.le_refl _), List.take_of_length_le (by omega)]
theorem cut_le (l : List Nat) (lo hi : Option Int) : (cutL l lo hi).length ≤ l.length := by
  unfold cutL
  rw [List.length_take, List.length_drop]
  omega
section
variable (K : PySem.W.Frag)
def spCell : Sp := fun vs H Q _ => ∃ (a : Addr) (ns : List Int) (k : Int), vs = [.ref a, .int k] ∧ SqL K H a (ns.map V.int) ∧ 0 ≤ k ∧ ∀ i, Q (.int i) H
def spMix : Sp := fun vs H Q _ => ∃ (c k : Int), vs = [.int c, .int k] ∧ 0 ≤ k ∧ k ≤ 1000 ∧ ∀ (i : Int) (H' : Hp), 0 ≤ i → Same H H' → Q (.int i) H'
def spBox : Sp := fun vs H Q _ => ∃ (a : Addr) (ns : List Int) (k : Int), vs = [.ref a, .int k] ∧ SqL K H a (ns.map V.int) ∧ 0 ≤ k ∧ ∀ (b : Addr) (n : Int) (H' : Hp), 0 ≤ n → H b = none → H' b = some (.lst [.int n]) → Same H H' → Q (.ref b) H'
def spTake : Sp := fun vs H Q _ => ∃ (b : Addr) (n m : Int), vs = [.ref b, .int m] ∧ H b = some (.lst [.int n]) ∧ 0 ≤ n ∧ 0 < m ∧ m < 1000000 ∧
  ∀ (d n' : Int) (H' : Hp), 0 ≤ d → d < m → 0 ≤ n' → H' b = some (.lst [.int n']) → But b H H' → Q (.int d) H'
def spTruth : Sp := fun vs H Q _ => ∃ (a b : Bool), vs = [.bl a, .bl b] ∧ Q (.bl (decide (a = b))) H
def spBehind : Sp := fun vs H Q _ => ∃ (l : List Nat), vs = [.str (tx l)] ∧ l.length ≤ sizeLine ∧ Q (.str (tx l.reverse)) H
def spAlike : Sp := fun vs H Q _ => ∃ (l : List Nat), vs = [.str (tx l)] ∧ l.length ≤ 1000000 ∧ ∀ H', Same H H' → Q (.bl (decide (l = l.reverse))) H'
def spClosed : Sp := fun vs H Q _ => ∃ (l : List Nat), vs = [.str (tx l)] ∧ Let l ∧ l.length ≤ 10000 ∧ ∀ (m : List Nat) (H' : Hp), Let m → m.length ≤ 2 * l.length → Same H H' → Q (.str (tx m)) H'
def spRow : Sp := fun vs H Q _ => ∃ (b : Addr) (n most : Int), vs = [.ref b, .int most] ∧ H b = some (.lst [.int n]) ∧ 0 ≤ n ∧ 0 ≤ most ∧ most ≤ 1000 ∧
  ∀ (m : List Nat) (n' : Int) (H' : Hp), Let m → (m.length : Int) ≤ most → 0 ≤ n' → H' b = some (.lst [.int n']) → But b H H' → Q (.str (tx m)) H'
end
theorem int_at {ns : List Int} {k : Int} (h0 : 0 ≤ k) (h1 : k < (ns.map V.int).length) : ∃ z, atI (ns.map V.int) k = some (V.int z) := by
  obtain ⟨j, rfl⟩ := Int.eq_ofNat_of_zero_le h0
  have hj : j < ns.length := by rw [List.length_map] at h1; omega
  exact ⟨ns[j], atI_nat (by rw [List.getElem?_map, List.getElem?_eq_getElem hj]; rfl)⟩
theorem at_ofInt {α : Type} {xs : List α} {k : Int} (h0 : 0 ≤ k) (h1 : k < xs.length) : ∃ z, atI xs k = some z ∧ z ∈ xs := by
  obtain ⟨j, rfl⟩ := Int.eq_ofNat_of_zero_le h0
  have hj : j < xs.length := by omega
  exact ⟨xs[j], atI_nat (List.getElem?_eq_getElem hj), List.getElem_mem hj⟩
theorem yes_ok {σ : St} {H : Hp} {Q : Bool → Hp → Prop} (h : Q true H) : tYes σ H Q := h
/-- the odd things -/
inductive Odd (H : Hp) : V → Prop
  | non : Odd H .non
  | bl (b : Bool) : Odd H (.bl b)
  | int (i : Int) (h : i = 0 ∨ i = 10 ^ 39 ∨ i = -1) : Odd H (.int i)
  | str (l : List Nat) (h : l = [65] ∨ l = [97, 32, 98] ∨ l = [97, 10] ∨ l = [49]) : Odd H (.str (tx l))
  | long : Odd H (.str (tx (repL [97] 201)))
  | la (p : Addr) (h : H p = some (.lst [.str (tx [97])])) : Odd H (.ref p)
  | ta (p : Addr) (h : H p = some (.tup [.str (tx [97])])) : Odd H (.ref p)
  | da (p : Addr) (h : H p = some (.dK [(Sum.inr (tx [97]), .int 1)])) : Odd H (.ref p)
  | t01 (p : Addr) (h : H p = some (.tup [.int 0, .int 1])) : Odd H (.ref p)
  | l0 (p : Addr) (h : H p = some (.lst [])) : Odd H (.ref p)
def spOdd : Sp := fun vs H Q _ => ∃ (b : Addr) (n : Int), vs = [.ref b] ∧ H b = some (.lst [.int n]) ∧ 0 ≤ n ∧
  ∀ (x : V) (n' : Int) (H' : Hp), Odd H' x → 0 ≤ n' → H' b = some (.lst [.int n']) → But b H H' → Q x H'
def lets : List Nat := [97, 98, 99, 100, 101, 102, 103, 104, 105, 106, 107, 108, 109, 110, 111, 112, 113, 114, 115, 116, 117, 118, 119, 120, 121, 122]
theorem e_lets : ("abcdefghijklmnopqrstuvwxyz" : Str) = tx lets := by decide +kernel
theorem mem_lets {c : Nat} : c ∈ lets ↔ 97 ≤ c ∧ c ≤ 122 := by
  rw [show lets = (List.range 26).map (97 + ·) from rfl, List.mem_map]
  constructor
  · rintro ⟨i, hi, rfl⟩
    have := List.mem_range.mp hi
    omega
  · rintro ⟨h1, h2⟩
    exact ⟨c - 97, List.mem_range.mpr (by omega), by omega⟩
def rowL (l : List Nat) : Bool := decide (l.length ≤ 200) && l.all fun c => decide (c ∈ lets)
def rowV : V → Bool
  | .str z => rowL z.cps.toList
  | _ => false
def mirV : V → Bool
  | .str z => rowL z.cps.toList && (!decide (z.cps.toList = []) && decide (z.cps.toList = z.cps.toList.reverse))
  | _ => false
theorem rowL_iff {l : List Nat} : rowL l = true ↔ l.length ≤ 200 ∧ Let l := by
  unfold rowL
  rw [Bool.and_eq_true, decide_eq_true_iff, List.all_eq_true]
  constructor
  · intro h
    exact ⟨h.1, fun c hc => mem_lets.mp (of_decide_eq_true (h.2 c hc))⟩
  · intro h
    exact ⟨h.1, fun c hc => decide_eq_true (mem_lets.mpr (h.2 c hc))⟩
section
variable (K : PySem.W.Frag)
/-- a text of moderate length, or a thing that is no text -/
def Thing (H : Hp) (x : V) : Prop := (∃ l : List Nat, x = .str (tx l) ∧ l.length ≤ 100000) ∨ (rowV x = false ∧ mirV x = false ∧ ∃ t, TyOf K H x t ∧ PySem.W.kitOne K t (.type "str") = some false)
def spIsRow : Sp := fun vs H Q _ => ∃ x, vs = [x] ∧ Thing K H x ∧ ∀ H', Same H H' → Q (.bl (rowV x)) H'
def spIsMirror : Sp := fun vs H Q _ => ∃ x, vs = [x] ∧ Thing K H x ∧ ∀ H', Same H H' → Q (.bl (mirV x)) H'
def spNeed : Sp := fun vs H Q _ => ∃ l : List Nat, vs = [.str (tx l)] ∧ rowL l = true ∧ ∀ H', Same H H' → Q .non H'
def spBack : Sp := fun vs H Q _ => ∃ l : List Nat, vs = [.str (tx l)] ∧ rowL l = true ∧ ∀ H', Same H H' → Q (.str (tx l.reverse)) H'
end
section
variable {P : Program} {w : World} {K : PySem.W.Frag} {mg : Str → Option Value} {base : Heap}
theorem TyOf.same {H H' : Hp} {x : V} {t : Value} (s : Same H H') (h : TyOf K H x t) : TyOf K H' x t := by
  cases h with
  | non => exact .non
  | bl b => exact .bl b
  | int i => exact .int i
  | str z => exact .str z
  | flt z => exact .flt z
  | lst e => exact .lst (s _ _ e)
  | frz e => exact .frz (s _ _ e)
  | tup e => exact .tup (s _ _ e)
  | dK e => exact .dK (s _ _ e)
  | dT e => exact .dT (s _ _ e)
  | ins e a b c d f => exact .ins (s _ _ e) a b c d f
end
section
variable {P : Program} {w : World} {K : PySem.W.Frag} {mg : Str → Option Value} {base : Heap}
theorem row_thing {H : Hp} {l : List Nat} (h : rowL l = true) : Thing K H (.str (tx l)) := .inl ⟨l, rfl, by have := (rowL_iff.mp h).1; omega⟩
end
theorem same_but {b : Addr} {H H1 H2 : Hp} (s : Same H H1) (fr : H b = none) (k : But b H1 H2) : Same H H2 := fun c o e => k c o (s c o e) (ne_of_none e fr)
def spLaw (K : PySem.W.Frag) : Sp := fun vs H Q _ => ∃ (a : Addr) (ns : List Int), vs = [.ref a] ∧ SqL K H a (ns.map V.int) ∧ ns.length ≤ 63 ∧ ∀ H', Q (.bl true) H'
section
variable {P : Program} {w : World} {K : PySem.W.Frag} {mg : Str → Option Value} {base : Heap}
end
end Mr

namespace Mr
open PySem L2
/-- plain values -/
def Scal : V → Prop
  | .non => True
  | .bl _ => True
  | .int _ => True
  | .str _ => True
  | _ => False
def wholeV : V → Bool
  | .int _ => true
  | _ => false
/-- a stretch of a row of n signs -/
def stL (n : Int) : List V → Bool
  | [.int i, .int j] => decide (0 ≤ i) && (decide (i ≤ j) && decide (j ≤ n))
  | _ => false
def cutAl (l : List Nat) : List V → Bool
  | [.int i, .int j] => decide (cutL l (some i) (some j) = (cutL l (some i) (some j)).reverse)
  | _ => false
def rdL (l : List Nat) (xs : List V) : Bool := stL (l.length : Int) xs && cutAl l xs
section
variable (K : PySem.W.Frag)
def NoTup (H : Hp) (x : V) : Prop := ∃ t, TyOf K H x t ∧ PySem.W.kitOne K t (.type "tuple") = some false
def spWhole : Sp := fun vs H Q _ => ∃ x, vs = [x] ∧ Scal x ∧ Q (.bl (wholeV x)) H
def spStretch : Sp := fun vs H Q _ => ∃ (x : V) (n : Int), vs = [x, .int n] ∧ ((NoTup K H x ∧ Q (.bl false) H) ∨ ∃ p xs, x = .ref p ∧ H p = some (.tup xs) ∧ (xs.length = 2 → ∀ y ∈ xs, Scal y) ∧ Q (.bl (stL n xs)) H)
def spReads : Sp := fun vs H Q _ => ∃ (l : List Nat) (x : V), vs = [.str (tx l), x] ∧ rowL l = true ∧ ((NoTup K H x ∧ ∀ H', Same H H' → Q (.bl false) H') ∨ ∃ p xs, x = .ref p ∧ H p = some (.tup xs) ∧ (xs.length = 2 → ∀ y ∈ xs, Scal y) ∧ ∀ H', Same H H' → Q (.bl (rdL l xs)) H')
end
end Mr

namespace Mr
open PySem L2
/-! readings that only lay new things -/
def EOk (σ : St) (Φ : Hp → V → Prop) (te : TE) : Prop := ∀ (H : Hp) (Q : VK), (∀ x H', Same H H' → Φ H' x → Q x H') → te σ H Q
def AOk (σ : St) (Φ : Hp → V → Prop) (n : Nat) (t : TA) : Prop := ∀ (H : Hp) (Q : List V → Hp → Prop), (∀ xs H', Same H H' → xs.length = n → (∀ x ∈ xs, Φ H' x) → Q xs H') → t σ H Q
section
variable {σ : St} {Φ : Hp → V → Prop} {te : TE} {t : TA} {n : Nat}
end
/-- the things that are looked at as stretches, in the row l -/
inductive Th2 (l : List Nat) (H : Hp) : V → Prop
  | tup (p : Addr) (xs : List V) (h : H p = some (.tup xs)) (hs : ∀ y ∈ xs, Scal y) (g : rdL l xs = (eqVs xs [.int 0, .int 1] && decide (0 < l.length))) : Th2 l H (.ref p)
  | nest (p r : Addr) (zs : List V) (h : H p = some (.tup [.ref r])) (h' : H r = some (.tup zs)) : Th2 l H (.ref p)
  | lst (p : Addr) (xs : List V) (h : H p = some (.lst xs)) : Th2 l H (.ref p)
  | dk (p : Addr) (kvs : List (Key × V)) (h : H p = some (.dK kvs)) : Th2 l H (.ref p)
  | non : Th2 l H .non
  | bl (b : Bool) : Th2 l H (.bl b)
  | int (i : Int) : Th2 l H (.int i)
  | str (z : Str) : Th2 l H (.str z)
section
variable {K : PySem.W.Frag}
end
end Mr

namespace Mr
open PySem L2
/-- n, n - 1, .. 1 -/
def downs (n : Nat) : List Nat := (List.range n).map fun i => n - i
theorem downs_len (n : Nat) : (downs n).length = n := by simp [downs]
theorem downs_take {n i : Nat} (h : i < n) : (downs n).take (i + 1) = (downs n).take i ++ [n - i] := by
  rw [List.take_succ]
  congr 1
  unfold downs
  rw [List.getElem?_map, List.getElem?_range h]
  rfl
theorem downs_all (n : Nat) : (downs n).take n = downs n := List.take_of_length_le (by rw [downs_len]; exact Nat.le_refl _)
theorem filt_take {n i : Nat} (p : Nat → Bool) (h : i < n) : ((downs n).take (i + 1)).filter p = ((downs n).take i).filter p ++ (if p (n - i) = true then [n - i] else []) := by
  rw [downs_take h, List.filter_append]
  congr 1
  by_cases hp : p (n - i) = true
  · rw [List.filter_cons_of_pos hp, if_pos hp]; rfl
  · rw [List.filter_cons_of_neg hp, if_neg hp]; rfl
def lensV (ks : List Nat) : List V := ks.map fun (k : Nat) => V.int (k : Int)
theorem lensV_app (a b : List Nat) : lensV (a ++ b) = lensV a ++ lensV b := List.map_append
theorem lensV_len (ks : List Nat) : (lensV ks).length = ks.length := by simp [lensV]
def bordersN (l : List Nat) : List Nat := (downs (l.length - 1)).filter fun k => decide (l.take k = l.drop (l.length - k))
def endsN (l : List Nat) : List Nat := (downs l.length).filter fun k => decide (l.drop (l.length - k) = (l.drop (l.length - k)).reverse)
def beginsN (l : List Nat) : List Nat := (downs l.length).filter fun k => decide (l.take k = (l.take k).reverse)
theorem filt_le (n : Nat) (p : Nat → Bool) : ((downs n).filter p).length ≤ n := Nat.le_trans (List.length_filter_le _ _) (Nat.le_of_eq (downs_len n))
/-- a def that tells a list of lengths of a row, a new one -/
def spLens (f : List Nat → List Nat) : Sp := fun vs H Q _ => ∃ l : List Nat, vs = [.str (tx l)] ∧ rowL l = true ∧ ∀ (p : Addr) (H' : Hp), H p = none → H' p = some (.lst (lensV (f l))) → Same H H' → Q (.ref p) H'
section
variable {K : PySem.W.Frag}
end
end Mr

namespace Mr
/-! stretches that read alike, by places; the reach around a middle -/
def PalI (l : List Nat) (a b : Nat) : Prop := ∀ i, a ≤ i → i < b → l[i]? = l[a + b - 1 - i]?
def sub (l : List Nat) (a b : Nat) : List Nat := (l.drop a).take (b - a)
theorem sub_len {l : List Nat} {a b : Nat} (hb : b ≤ l.length) : (sub l a b).length = b - a := by
  unfold sub
  rw [List.length_take, List.length_drop]
  omega
theorem sub_at {l : List Nat} {a b i : Nat} (hi : i < b - a) : (sub l a b)[i]? = l[a + i]? := by
  unfold sub
  rw [List.getElem?_take_of_lt hi, List.getElem?_drop]
theorem pal_iff {l : List Nat} {a b : Nat} (hb : b ≤ l.length) : sub l a b = (sub l a b).reverse ↔ PalI l a b := by
  have hn := sub_len (a := a) hb
  constructor
  · intro h i h1 h2
    have e1 := sub_at (l := l) (a := a) (b := b) (i := i - a) (by omega)
    have e2 : (sub l a b).reverse[i - a]? = (sub l a b)[(sub l a b).length - 1 - (i - a)]? := List.getElem?_reverse (by omega)
    rw [← h, e1, hn, sub_at (by omega)] at e2
    have x1 : a + (i - a) = i := by omega
    have x2 : a + (b - a - 1 - (i - a)) = a + b - 1 - i := by omega
    rw [x1, x2] at e2
    exact e2
  · intro h
    apply List.ext_getElem?
    intro i
    by_cases hi : i < b - a
    · rw [List.getElem?_reverse (by omega), hn, sub_at hi, sub_at (by omega)]
      have := h (a + i) (by omega) (by omega)
      rw [this]
      congr 1
      omega
    · rw [List.getElem?_eq_none (by omega), List.getElem?_eq_none (by rw [List.length_reverse]; omega)]
theorem PalI.inner {l : List Nat} {a b c d : Nat} (h : PalI l a b) (he : a + b = c + d) (hc : a ≤ c) : PalI l c d := fun i h1 h2 => by
  have := h i (by omega) (by omega)
  rw [this, he]
/-- going outward from a stretch that reads alike -/
def grow (l : List Nat) : Nat → Nat → Nat
  | 0, b => b
  | f + 1, b => if b < l.length ∧ l[f]? = l[b]? then grow l f (b + 1) else b - (f + 1)
theorem grow_spec {l : List Nat} : ∀ {f b : Nat}, f ≤ b → b ≤ l.length → PalI l f b → ∀ {a c : Nat}, a + c = f + b → a ≤ c → c ≤ l.length → (PalI l a c ↔ c - a ≤ grow l f b)
  | 0, b, _, _, hp, a, c, he, hac, _ => by
    unfold grow
    exact ⟨fun _ => by omega, fun _ => hp.inner (by omega) (by omega)⟩
  | f + 1, b, hfb, hb, hp, a, c, he, hac, hc => by
    unfold grow
    by_cases hg : b < l.length ∧ l[f]? = l[b]?
    · rw [if_pos hg]
      refine grow_spec (by omega) (by omega) ?_ (by omega) hac hc
      intro i h1 h2
      by_cases e1 : i = f
      · subst e1
        have x : i + (b + 1) - 1 - i = b := by omega
        rw [x]; exact hg.2
      · by_cases e2 : i = b
        · subst e2
          have x : f + (i + 1) - 1 - i = f := by omega
          rw [x]; exact hg.2.symm
        · have := hp i (by omega) (by omega)
          rw [this]
          congr 1
          omega
    · rw [if_neg hg]
      constructor
      · intro h
        apply Nat.le_of_not_lt
        intro hlt
        apply hg
        refine ⟨by omega, ?_⟩
        have := h f (by omega) (by omega)
        rw [this]
        congr 1
        omega
      · intro h
        exact hp.inner (by omega) (by omega)
def reachN (l : List Nat) (m : Nat) : Nat := grow l ((m + 1) / 2) (m + 1 - (m + 1) / 2)
theorem reach_spec {l : List Nat} {m a c : Nat} (hm : m + 1 < 2 * l.length) (he : a + c = m + 1) (hac : a ≤ c) (hc : c ≤ l.length) : PalI l a c ↔ c - a ≤ reachN l m := by
  unfold reachN
  refine grow_spec (by omega) (by omega) ?_ (by omega) hac hc
  intro i h1 h2
  congr 1
  omega
def reachesN (l : List Nat) : List Nat := (List.range (2 * l.length - 1)).map (reachN l)
theorem reachesN_at {l : List Nat} {m : Nat} (h : m < 2 * l.length - 1) : (reachesN l)[m]? = some (reachN l m) := by
  unfold reachesN
  rw [List.getElem?_map, List.getElem?_range h]
  rfl
theorem sub_take {l : List Nat} {a b : Nat} : (l.take b).drop a = sub l a b := by
  unfold sub
  rw [List.drop_take]
/-- the ends of the signs ahead of b, by the reaches of the whole -/
theorem ends_ahead_eq {l : List Nat} {b : Nat} (hb : b ≤ l.length) : endsN (l.take b) = (downs b).filter fun k => decide (k ≤ reachN l (b - k + b - 1)) := by
  unfold endsN
  have e : (l.take b).length = b := by rw [List.length_take]; omega
  rw [e]
  apply List.filter_congr
  intro k hk
  obtain ⟨i, hi, rfl⟩ := List.mem_map.mp hk
  have hi' := List.mem_range.mp hi
  have h1 := pal_iff (l := l) (a := b - (b - i)) (b := b) hb
  have h2 := reach_spec (l := l) (m := b - (b - i) + b - 1) (a := b - (b - i)) (c := b) (by omega) (by omega) (by omega) hb
  rw [sub_take]
  have h3 : b - (b - (b - i)) = b - i := by omega
  rw [h3] at h2
  exact decide_eq_decide.mpr (h1.trans h2)
end Mr

namespace Mr
open PySem L2
def spReachA : Sp := fun vs H Q _ => ∃ (l : List Nat) (m : Nat), vs = [.str (tx l), .int (m : Int)] ∧ rowL l = true ∧ m + 1 < 2 * l.length ∧ Q (.int ((reachN l m : Nat) : Int)) H
/-- ends_ahead: of the reaches of a row of at most 200 signs -/
def spEA : Sp := fun vs H Q _ => ∃ (p : Addr) (l : List Nat) (b : Nat), vs = [.ref p, .int (b : Int)] ∧ l.length ≤ 200 ∧ b ≤ l.length ∧ H p = some (.lst (lensV (reachesN l))) ∧
  ∀ (p' : Addr) (H' : Hp), H p' = none → H' p' = some (.lst (lensV (endsN (l.take b)))) → Same H H' → Q (.ref p') H'
end Mr

namespace Mr
/-! sums over 0 .. n - 1 -/
def sm : Nat → (Nat → Nat) → Nat
  | 0, _ => 0
  | n + 1, f => sm n f + f n
/-- does the stretch read alike -/
def palB (l : List Nat) (a c : Nat) : Bool := decide (sub l a c = (sub l a c).reverse)
/-- how many stretches are mirrors: by their first place -/
def manyN (l : List Nat) : Nat := sm l.length fun a => sm (l.length - a) fun j => if palB l a (a + 1 + j) = true then 1 else 0
/-- the first longest mirror stretch -/
def BestP (l : List Nat) (x y : Nat) : Prop := x < y ∧ y ≤ l.length ∧ PalI l x y ∧ ∀ a c, a < c → c ≤ l.length → PalI l a c → c - a < y - x ∨ (c - a = y - x ∧ x ≤ a)
/-- best so far, of those ahead of (i, j) -/
def BestSo (l : List Nat) (S : Nat → Nat → Prop) (x y : Nat) : Prop := S x y ∧ PalI l x y ∧ ∀ a c, S a c → PalI l a c → c - a < y - x ∨ (c - a = y - x ∧ x ≤ a)
end Mr

namespace Mr
open PySem L2
theorem bt_sum : bootBuiltins "sum" = some (.builtin "sum") := by decide +kernel
def spMany : Sp := fun vs H Q _ => ∃ l : List Nat, vs = [.str (tx l)] ∧ rowL l = true ∧ ∀ H', Same H H' → Q (.int ((manyN l : Nat) : Int)) H'
def spLongest : Sp := fun vs H Q _ => ∃ l : List Nat, vs = [.str (tx l)] ∧ rowL l = true ∧ (l = [] → ∀ H', Same H H' → Q .non H') ∧
  ∀ (x y : Nat) (p : Addr) (H' : Hp), BestP l x y → H p = none → H' p = some (.tup [.int (x : Int), .int (y : Int)]) → Same H H' → Q (.ref p) H'
end Mr

namespace Mr
open PySem L2
/-- the stretches ahead of (i, i + 1 + t), in the order of two loops -/
def Ah (n i t : Nat) (x y : Nat) : Prop := x < y ∧ y ≤ n ∧ (x < i ∨ (x = i ∧ y < i + 1 + t))
def BestV (l : List Nat) (S : Nat → Nat → Prop) (H : Hp) (v : V) : Prop := (v = .non ∧ ∀ x y, S x y → ¬ PalI l x y) ∨ ∃ (p : Addr) (x y : Nat), v = .ref p ∧ H p = some (.tup [.int (x : Int), .int (y : Int)]) ∧ BestSo l S x y
section
variable {K : PySem.W.Frag}
end
end Mr

namespace Mr
open PySem L2
theorem lensV_at {ks : List Nat} {j : Nat} {x : V} (h : (lensV ks)[j]? = some x) : ∃ k : Nat, ks[j]? = some k ∧ x = .int (k : Int) := by
  unfold lensV at h
  rw [List.getElem?_map] at h
  cases e : ks[j]? with
  | none => rw [e] at h; cases h
  | some k => rw [e] at h; exact ⟨k, rfl, (Option.some.inj h).symm⟩
end Mr

namespace Mr
/-! ends, begins and borders of one another -/
theorem mem_downs {n k : Nat} : k ∈ downs n ↔ 1 ≤ k ∧ k ≤ n := by
  unfold downs
  rw [List.mem_map]
  constructor
  · rintro ⟨i, hi, rfl⟩
    have := List.mem_range.mp hi
    omega
  · rintro ⟨h1, h2⟩
    exact ⟨n - k, List.mem_range.mpr (by omega), by omega⟩
def sufB (l : List Nat) (k : Nat) : Bool := decide (l.drop (l.length - k) = (l.drop (l.length - k)).reverse)
theorem endsN_def (l : List Nat) : endsN l = (downs l.length).filter (sufB l) := rfl
/-- a sign more at the end -/
def moreB (l : List Nat) (c : Nat) (k : Nat) : Bool := decide (k < l.length ∧ l[l.length - k - 1]? = some c)
def dueN (l : List Nat) (c : Nat) : List Nat := ((endsN l).filter (moreB l c)).map (· + 2) ++ (if moreB l c 0 = true then [2] else []) ++ [1]
end Mr
namespace Mr
open PySem L2
/-- what is due behind j of the lengths, 0 and -1 -/
def dueTo (l : List Nat) (c j : Nat) : List Nat := (((endsN l).take j).filter (moreB l c)).map (· + 2) ++ (if (endsN l).length < j ∧ moreB l c 0 = true then [2] else []) ++ (if (endsN l).length + 1 < j then [1] else [])
end Mr

namespace Mr
/-! reaches turned about, within mirrors, in the middle -/
end Mr

namespace Mr
open PySem L2
def spSame : Sp := fun vs H Q _ => ∃ (x : V) (n : Int), vs = [x, .int n] ∧ Scal x ∧ Q (.bl (decide (x = .int n))) H
/-- are_reaches, of a list of plain values -/
def spAreL : Sp := fun vs H Q _ => ∃ (p : Addr) (xs : List V) (l : List Nat), vs = [.ref p, .str (tx l)] ∧ rowL l = true ∧ H p = some (.lst xs) ∧ (∀ x ∈ xs, Scal x) ∧ ∀ H', Same H H' → Q (.bl (decide (xs = lensV (reachesN l)))) H'
def spOpp : Sp := fun vs H Q _ => ∃ (p : Addr) (l : List Nat) (m : Nat), vs = [.str (tx l), .ref p, .int (m : Int)] ∧ l.length ≤ 200 ∧ m + 1 < 2 * l.length ∧ H p = some (.lst (lensV (reachesN l))) ∧ Q (.bl true) H
theorem lensV_get {ks : List Nat} {j k : Nat} (h : ks[j]? = some k) : (lensV ks)[j]? = some (.int (k : Int)) := by
  unfold lensV
  rw [List.getElem?_map, h]; rfl
end Mr

namespace L2
open PySem
theorem Df.imp {P : Program} {w : World} {K : PySem.W.Frag} {mg : Str → Option Value} {base : Heap} {k : Nat} {x : Str} {ps : List Str} {sp sp' : Sp} (d : Df P w K mg base k x ps sp) (h : ∀ vs H Q E, sp' vs H Q E → sp vs H Q E) : Df P w K mg base k x ps sp' :=
  let ⟨f, fd, F, b⟩ := d.ex
  ⟨f, fd, F.imp h, b⟩
end L2
namespace Mr
open PySem L2
/-- no whole number, by its kind: not even a truth -/
def NoInt (K : PySem.W.Frag) (H : Hp) (x : V) : Prop := wholeV x = false ∧ ∃ t, TyOf K H x t ∧ PySem.W.kitOne K t (.type "int") = some false
def spWholeG (K : PySem.W.Frag) : Sp := fun vs H Q _ => ∃ x, vs = [x] ∧ (Scal x ∨ NoInt K H x) ∧ Q (.bl (wholeV x)) H
/-- no middle of the row -/
def NoMid (K : PySem.W.Frag) (l : List Nat) (H : Hp) (x : V) : Prop := (Scal x ∨ NoInt K H x) ∧ ∀ m : Nat, x = .int (m : Int) → ¬ m + 1 < 2 * l.length
def spReachX (K : PySem.W.Frag) (C : Addr) : Sp := fun vs H Q E => ∃ (l : List Nat) (x : V), vs = [.str (tx l), x] ∧ rowL l = true ∧
  ((∃ m : Nat, x = .int (m : Int) ∧ m + 1 < 2 * l.length ∧ ∀ H', Same H H' → Q (.int ((reachN l m : Nat) : Int)) H') ∨ (NoMid K l H x ∧ ∀ H', Same H H' → E (.ref C) none H'))
def spReach1 : Sp := fun vs H Q _ => ∃ (l : List Nat) (m : Nat), vs = [.str (tx l), .int (m : Int)] ∧ rowL l = true ∧ m + 1 < 2 * l.length ∧ ∀ H', Same H H' → Q (.int ((reachN l m : Nat) : Int)) H'
def spToldM (K : PySem.W.Frag) : Sp := fun vs H Q _ => ∃ (l : List Nat) (x : V), vs = [.str (tx l), x] ∧ rowL l = true ∧ NoMid K l H x ∧ ∀ H', Same H H' → Q (.str "middle") H'
end Mr
namespace Mr
open PySem L2
end Mr

namespace Mr
open PySem L2
/-! groups of falling lengths -/
abbrev Gp := Int × Int × Int
def hd0 : List Int → Int
  | [] => 0
  | a :: _ => a
def stepsI : List Int → List Int
  | [] => []
  | a :: r => (a - hd0 r) :: stepsI r
def merge (x : Gp) : List Gp → List Gp
  | [] => [x]
  | y :: t => if y.2.1 = x.2.1 then (x.1, x.2.1, x.2.2 + y.2.2) :: t else x :: y :: t
def dueG : List Int → List Gp
  | [] => []
  | a :: r => merge (a, a - hd0 r, 1) (dueG r)
/-- one turn of the program's loop -/
def turnG (acc : List Gp) (l s : Int) : List Gp :=
  match acc.getLast? with
  | some g => if g.2.1 = s then acc.dropLast ++ [(g.1, s, g.2.2 + 1)] else acc ++ [(l, s, 1)]
  | none => [(l, s, 1)]
def runG : List Gp → List Int → List Gp
  | acc, [] => acc
  | acc, a :: r => runG (turnG acc a (a - hd0 r)) r
/-- what the loop has behind i turns -/
def toG (ls : List Int) (i : Nat) : List Gp := (List.range i).foldl (fun acc j => turnG acc ((ls[j]?).getD 0) (((stepsI ls)[j]?).getD 0)) []
/-- falling lengths -/
def Fall (ls : List Int) : Prop := (∀ l ∈ ls, 0 < l) ∧ ∀ (i : Nat) (a b : Int), ls[i]? = some a → ls[i + 1]? = some b → b < a
def gpV (g : Gp) : HO := .tup [.int g.1, .int g.2.1, .int g.2.2]
/-- xs: the groups gs, each a tuple -/
def GrpsV (H : Hp) (xs : List V) (gs : List Gp) : Prop := xs.length = gs.length ∧ ∀ (j : Nat) (x : V) (g : Gp), xs[j]? = some x → gs[j]? = some g → ∃ p : Addr, x = .ref p ∧ H p = some (gpV g)
end Mr

namespace Mr
open PySem L2
def posV : V → Bool
  | .int i => decide (0 < i)
  | _ => false
/-- are_lengths, of a list -/
def spAreLen (K : PySem.W.Frag) : Sp := fun vs H Q _ => ∃ x, vs = [x] ∧ ((∃ t, TyOf K H x t ∧ PySem.W.kitOne K t (.type "list") = some false ∧ ∀ H', Same H H' → Q (.bl false) H') ∨
  ∃ (p : Addr) (xs : List V), x = .ref p ∧ H p = some (.lst xs) ∧ xs.length ≤ 1000 ∧ (∀ y ∈ xs, Scal y ∨ NoInt K H y) ∧ (∀ ls : List Int, xs = ls.map V.int → Fall ls → ∀ H', Same H H' → Q (.bl true) H') ∧ ((¬ ∃ ls : List Int, xs = ls.map V.int ∧ Fall ls) → ∀ H', Same H H' → Q (.bl false) H'))
def spSteps : Sp := fun vs H Q _ => ∃ (p : Addr) (ls : List Int), vs = [.ref p] ∧ H p = some (.lst (ls.map V.int)) ∧ ls.length ≤ 1000 ∧ ∀ (p' : Addr) (H' : Hp), H p' = none → H' p' = some (.lst ((stepsI ls).map V.int)) → Same H H' → Q (.ref p') H'
/-- groups: of falling lengths the groups, else NoLengths -/
def spGroupsX (K : PySem.W.Frag) (C : Addr) : Sp := fun vs H Q E => ∃ x, vs = [x] ∧ ((∃ (p : Addr) (ls : List Int), x = .ref p ∧ H p = some (.lst (ls.map V.int)) ∧ ls.length ≤ 1000 ∧ Fall ls ∧ ∀ (p' : Addr) (H' : Hp) (xs : List V), H p' = none → H' p' = some (.lst xs) → GrpsV H' xs (dueG ls) → Same H H' → Q (.ref p') H') ∨
  ((∃ t, TyOf K H x t ∧ PySem.W.kitOne K t (.type "list") = some false) ∧ ∀ H', Same H H' → E (.ref C) none H') ∨
  (∃ (p : Addr) (xs : List V), x = .ref p ∧ H p = some (.lst xs) ∧ xs.length ≤ 1000 ∧ (∀ y ∈ xs, Scal y ∨ NoInt K H y) ∧ (¬ ∃ ls : List Int, xs = ls.map V.int ∧ Fall ls) ∧ ∀ H', Same H H' → E (.ref C) none H'))
def spGroups : Sp := fun vs H Q _ => ∃ (p : Addr) (ls : List Int), vs = [.ref p] ∧ H p = some (.lst (ls.map V.int)) ∧ ls.length ≤ 1000 ∧ Fall ls ∧ ∀ (p' : Addr) (H' : Hp) (xs : List V), H p' = none → H' p' = some (.lst xs) → GrpsV H' xs (dueG ls) → Same H H' → Q (.ref p') H'
end Mr
namespace Mr
open PySem L2
def spTakeB : Sp := fun vs H Q _ => ∃ (b : Addr) (n m : Int), vs = [.ref b, .int m] ∧ H b = some (.lst [.int n]) ∧ 0 ≤ n ∧ 0 < m ∧ m ≤ 10 ^ 40 ∧
  ∀ (d n' : Int) (H' : Hp), 0 ≤ d → d < m → 0 ≤ n' → H' b = some (.lst [.int n']) → But b H H' → Q (.int d) H'
/-- falling lengths drawn from the box -/
def spLensD : Sp := fun vs H Q _ => ∃ (b : Addr) (n : Int), vs = [.ref b] ∧ H b = some (.lst [.int n]) ∧ 0 ≤ n ∧
  ∀ (p : Addr) (ls : List Int) (n' : Int) (H' : Hp), ls.length ≤ 1000 → Fall ls → H p = none → H' p = some (.lst (ls.map V.int)) → 0 ≤ n' → H' b = some (.lst [.int n']) → But b H H' → Q (.ref p) H'
def spDueG : Sp := fun vs H Q _ => ∃ (p : Addr) (ls : List Int), vs = [.ref p] ∧ H p = some (.lst (ls.map V.int)) ∧ ls.length ≤ 1000 ∧
  ∀ (p' : Addr) (H' : Hp) (xs : List V), H p' = none → H' p' = some (.lst xs) → GrpsV H' xs (dueG ls) → Same H H' → Q (.ref p') H'
end Mr

namespace Mr
open PySem L2
/-! the mirrors of a row in the order in which they come; their inner and their less -/
def topT (l : List Nat) (b : Nat) : List Nat := sub l (b - ((endsN (l.take b))[0]?).getD 0) b
def mirs (l : List Nat) : Nat → List (List Nat)
  | 0 => []
  | b + 1 => if topT l (b + 1) ∈ mirs l b then mirs l b else mirs l b ++ [topT l (b + 1)]
/-- a mirror that ends at c -/
def EndsAt (l : List Nat) (c : Nat) (t : List Nat) : Prop := ∃ k, 1 ≤ k ∧ k ≤ c ∧ t = sub l (c - k) c ∧ PalI l (c - k) c
theorem ends_mem {l : List Nat} {c k : Nat} (hc : c ≤ l.length) : k ∈ endsN (l.take c) ↔ 1 ≤ k ∧ k ≤ c ∧ PalI l (c - k) c := by
  have e : (l.take c).length = c := by rw [List.length_take]; omega
  rw [endsN_def, List.mem_filter, mem_downs, e]
  unfold sufB
  rw [decide_eq_true_iff, e, sub_take, pal_iff hc]
  exact ⟨fun ⟨⟨a, b⟩, d⟩ => ⟨a, b, d⟩, fun ⟨a, b, d⟩ => ⟨⟨a, b⟩, d⟩⟩
def inner (t : List Nat) : List Nat := (t.drop 1).take (t.length - 2)
def lessN (t : List Nat) : List Nat := t.take (((endsN t)[1]?).getD 0)
/-- where a text stands in the list -/
def idxO (ms : List (List Nat)) (x : List Nat) : Option Nat := if x ∈ ms then some (ms.idxOf x) else none
abbrev Ent := List Nat × Option Nat × Option Nat
def entT (ms : List (List Nat)) (t : List Nat) : Ent := (t, idxO ms (inner t), idxO ms (lessN t))
def treeN (l : List Nat) : List Ent := (mirs l l.length).map (entT (mirs l l.length))
end Mr

namespace L2
open PySem PySem.Spec PyProof.Rows PySem.SeqAt PySem.MeetsSeq
section
variable {X : Cx}
def isS (z : Str) : Value → Bool
  | .str c _ => c == z
  | _ => false
/-- xs.index(text) of texts -/
def rIndexS : V → List V → Hp → VK → Prop := fun x vs H Q => ∃ (l : Addr) (ts : List (List Nat)) (t : List Nat) (j : Nat), x = .ref l ∧ vs = [.str (tx t)] ∧ H l = some (.lst (ts.map fun t => V.str (tx t))) ∧ ts[j]? = some t ∧ (∀ m, m < j → ts[m]? ≠ some t) ∧ Q (.int (j : Nat)) H
end
end L2
namespace Mr
open PySem L2
/-- a list of objects that stand for es, each by f -/
def ReV {α : Type} (f : α → HO) (H : Hp) (xs : List V) (es : List α) : Prop := xs.length = es.length ∧ ∀ (j : Nat) (x : V) (e : α), xs[j]? = some x → es[j]? = some e → ∃ p : Addr, x = .ref p ∧ H p = some (f e)
theorem ReV.mono {α : Type} {f : α → HO} {H H' : Hp} {xs : List V} {es : List α} (h : ReV f H xs es) (k : ∀ p e, H p = some (f e) → H' p = some (f e)) : ReV f H' xs es := ⟨h.1, fun j x g h1 h2 => let ⟨p, e, q⟩ := h.2 j x g h1 h2; ⟨p, e, k _ _ q⟩⟩
theorem ReV.nil {α : Type} {f : α → HO} {H : Hp} : ReV f H [] [] := ⟨rfl, fun j x g h => by simp at h⟩
theorem ReV.push {α : Type} {f : α → HO} {H : Hp} {xs : List V} {gs : List α} {p : Addr} {g : α} (h : ReV f H xs gs) (hp : H p = some (f g)) : ReV f H (xs ++ [.ref p]) (gs ++ [g]) := by
  refine ⟨by simp [h.1], fun j x g' h1 h2 => ?_⟩
  by_cases hj : j < xs.length
  · rw [List.getElem?_append_left hj] at h1
    rw [List.getElem?_append_left (by rw [← h.1]; exact hj)] at h2
    exact h.2 j x g' h1 h2
  · rw [List.getElem?_append_right (by omega)] at h1
    rw [List.getElem?_append_right (by rw [← h.1]; omega), ← h.1] at h2
    have e0 : j - xs.length = 0 := by
      have := (List.getElem?_eq_some_iff.mp h1).1
      simp at this; omega
    rw [e0] at h1 h2
    have e1 : V.ref p = x := Option.some.inj h1
    have e2 : g = g' := Option.some.inj h2
    subst e1 e2
    exact ⟨p, rfl, hp⟩
def optV : Option Nat → V
  | none => .non
  | some i => .int (i : Int)
def entV (e : Ent) : HO := .tup [.str (tx e.1), optV e.2.1, optV e.2.2]
abbrev TreeV := ReV entV
def spTree : Sp := fun vs H Q _ => ∃ l : List Nat, vs = [.str (tx l)] ∧ rowL l = true ∧ ∀ (p : Addr) (xs : List V) (H' : Hp), H p = none → H' p = some (.lst xs) → TreeV H' xs (treeN l) → Same H H' → Q (.ref p) H'
def txV (ms : List (List Nat)) : List V := ms.map fun t => V.str (tx t)
theorem txV_flat (ms : List (List Nat)) : (txV ms).all flatV = true := by
  rw [List.all_eq_true]
  intro x hx
  obtain ⟨l, _, rfl⟩ := List.mem_map.mp hx
  rfl
/-- _law_mirrors -/
def spMirs : Sp := fun vs H Q _ => ∃ l : List Nat, vs = [.str (tx l)] ∧ rowL l = true ∧ ∀ (p : Addr) (H' : Hp), H p = none → H' p = some (.lst (txV (mirs l l.length))) → Same H H' → Q (.ref p) H'
/-- the dict of the numbers -/
def NumD (H : Hp) (p : Addr) (ms : List (List Nat)) : Prop := ∃ kvs : List (Key × V), H p = some (.dK kvs) ∧ kvs.length ≤ 1000 + ms.length ∧ ∀ x, valV kvs (Sum.inr (tx x)) = (idxO ms x).map fun i => V.int (i : Int)
theorem inV_tx (t : List Nat) : ∀ ms : List (List Nat), inV (.str (tx t)) (txV ms) = decide (t ∈ ms)
  | [] => rfl
  | m :: r => by
    have ih := inV_tx t r
    show inV (.str (tx t)) (.str (tx m) :: txV r) = _
    unfold inV at ih ⊢
    rw [List.any_cons, ih]
    have e : eqV (.str (tx t)) (.str (tx m)) = decide (t = m) := by
      show (tx t == tx m) = _
      rw [Bool.eq_iff_iff, decide_eq_true_iff]
      constructor
      · intro z; exact tx_inj (eq_of_beq z)
      · intro z; rw [z]; simp
    have e' : eqV (.str (tx m)) (.str (tx t)) = decide (t = m) := by
      show (tx m == tx t) = _
      rw [Bool.eq_iff_iff, decide_eq_true_iff]
      constructor
      · intro z; exact (tx_inj (eq_of_beq z)).symm
      · intro z; rw [z]; simp
    rw [e', List.decide_mem_cons]
    congr 1
    rw [Bool.eq_iff_iff]
    simp
/-- the tree as data -/
def entD (e : Ent) : PyData := .tuple [.str (tx e.1), (match e.2.1 with | none => .none | some i => .int (i : Int)), (match e.2.2 with | none => .none | some i => .int (i : Int))]
end Mr

namespace Mr
open PySem L2
/-! the tree's data: it may be shown, and is not too long -/
def optD (o : Option Nat) : PyData := match o with | none => .none | some i => .int (i : Int)
/-- may be shown: n deep at most, of weight w at most -/
def ShOk (d : PyData) (n w : Nat) : Prop := d.showable = true ∧ d.depth ≤ n ∧ d.leavesShort 13 = true ∧ d.weight ≤ w
def ShAll (ds : List PyData) (n w : Nat) : Prop := PyData.showableAll ds = true ∧ PyData.depthAll ds ≤ n ∧ PyData.leavesShortAll 13 ds = true ∧ PyData.weightAll ds ≤ w
end Mr

namespace L2
open PySem PySem.Spec PyProof.Rows
section
variable {X : Cx} {K : PySem.W.Frag} {o e : Expr} {es : List Expr} {to : TE} {t : TA} {name : Str} {apos cpos : Pos} {T id : String} {r : V → List V → Hp → VK → Prop}
end
end L2
namespace Mr
open PySem L2
/-! the way of a mirror: its ends, by their numbers -/
def dueW (ms : List (List Nat)) (t : List Nat) : List Nat := (endsN t).map fun k => ms.idxOf (t.take k)
/-- the step behind number i of the way -/
def stepW (ms : List (List Nat)) (t : List Nat) (i : Nat) : Option Nat := ((endsN t)[i]?).map fun k => ms.idxOf (t.take k)
/-! number_of and way -/
def spNumX (K : PySem.W.Frag) (C : Addr) : Sp := fun vs H Q E => ∃ (l : List Nat) (x : V), vs = [.str (tx l), x] ∧ rowL l = true ∧
  ((∃ t : List Nat, x = .str (tx t) ∧ mirV x = true ∧ t.length ≤ 100000 ∧ ∀ H', Same H H' → Q (optV (idxO (mirs l l.length) t)) H') ∨ (Thing K H x ∧ mirV x = false ∧ ∀ H', Same H H' → E (.ref C) none H'))
def NoNum (K : PySem.W.Frag) (l : List Nat) (H : Hp) (x : V) : Prop := (Scal x ∨ NoInt K H x) ∧ ∀ m : Nat, x = .int (m : Int) → ¬ m < (mirs l l.length).length
def spWayX (K : PySem.W.Frag) (C : Addr) : Sp := fun vs H Q E => ∃ (l : List Nat) (x : V), vs = [.str (tx l), x] ∧ rowL l = true ∧
  ((∃ (j : Nat) (t : List Nat), x = .int (j : Int) ∧ (mirs l l.length)[j]? = some t ∧ ∀ (p : Addr) (H' : Hp), H p = none → H' p = some (.lst (lensV (dueW (mirs l l.length) t))) → Same H H' → Q (.ref p) H') ∨ (NoNum K l H x ∧ ∀ H', Same H H' → E (.ref C) none H'))
def spTold17 (K : PySem.W.Frag) : Sp := fun vs H Q _ => ∃ (k : Int) (l : List Nat) (x : V), vs = [.int k, .str (tx l), x] ∧ rowL l = true ∧
  ((k = 0 ∧ ((∃ t : List Nat, x = .str (tx t) ∧ mirV x = true ∧ t.length ≤ 100000 ∧ ∀ H', Same H H' → Q (optV (idxO (mirs l l.length) t)) H') ∨ (Thing K H x ∧ mirV x = false ∧ ∀ H', Same H H' → Q (.str "mirror") H'))) ∨
   (k = 1 ∧ ((∃ (j : Nat) (t : List Nat), x = .int (j : Int) ∧ (mirs l l.length)[j]? = some t ∧ ∀ (p : Addr) (H' : Hp), H p = none → H' p = some (.lst (lensV (dueW (mirs l l.length) t))) → Same H H' → Q (.ref p) H') ∨ (NoNum K l H x ∧ ∀ H', Same H H' → Q (.str "number") H'))))
/-! rows of a, b, z; texts made mirrors -/
def Abz (l : List Nat) : Prop := ∀ c ∈ l, c = 97 ∨ c = 98 ∨ c = 122
def spClosedP : Sp := fun vs H Q _ => ∃ (l : List Nat), vs = [.str (tx l)] ∧ l.length ≤ 10000 ∧ ∀ (m : List Nat) (H' : Hp), (∀ c ∈ m, c ∈ l) → m.length ≤ 2 * l.length → m = m.reverse → (l ≠ [] → m ≠ []) → Same H H' → Q (.str (tx m)) H'
def spClosedZ : Sp := fun vs H Q _ => ∃ (l : List Nat), vs = [.str (tx l)] ∧ Abz l ∧ l.length ≤ 10000 ∧ ∀ (m : List Nat) (H' : Hp), Abz m → m.length ≤ 2 * l.length → Same H H' → Q (.str (tx m)) H'
def spRowZ : Sp := fun vs H Q _ => ∃ (b : Addr) (n most : Int), vs = [.ref b, .int most] ∧ H b = some (.lst [.int n]) ∧ 0 ≤ n ∧ 0 ≤ most ∧ most ≤ 1000 ∧
  ∀ (m : List Nat) (n' : Int) (H' : Hp), Abz m → (m.length : Int) ≤ most → 0 ≤ n' → H' b = some (.lst [.int n']) → But b H H' → Q (.str (tx m)) H'
/-! lists of numbers, shown -/
def lensD (ks : List Nat) : PyData := .list (ks.map fun (k : Nat) => PyData.int (k : Int))
end Mr

namespace L2
open PySem PySem.Spec PyProof.Rows PySem.SeqAt PySem.MeetsSeq
/-! ### sorted of texts, endswith, == of lists that are the same or of unlike length -/
theorem are_vals : ∀ {us : List Value} {ss : List Str}, StrsAre us ss → Vals (ss.map V.str) us
  | _, _, .nil => .nil
  | _, _, .cons y t r => .cons ⟨t, rfl⟩ (are_vals r)
section
variable {X : Cx}
def rEndsS : V → List V → Hp → VK → Prop := fun x vs H Q => ∃ t u : List Nat, x = .str (tx t) ∧ vs = [.str (tx u)] ∧ u.length ≤ t.length ∧ u = t.drop (t.length - u.length) ∧ Q (.bl true) H
/-- == of two lists that are the same, n deep below them, or of unlike length -/
def rEqDL (n : Nat) : R2 := fun x y H Q => ∃ p q xs ys, x = .ref p ∧ y = .ref q ∧ H p = some (.lst xs) ∧ H q = some (.lst ys) ∧ ((xs.length = ys.length ∧ (∀ (j : Nat) (u v : V), xs[j]? = some u → ys[j]? = some v → DSame H n u v) ∧ Q (.bl true) H) ∨ (xs.length ≠ ys.length ∧ Q (.bl false) H))
end
/-! what is sorted is one list -/
theorem str_ext {a b : Str} (h : a.cps.toList = b.cps.toList) : a = b := by
  cases a; cases b
  simp at h
  rw [h]
end L2

namespace Mr
open PySem L2
/-! the tree of a beginning; elder ones; the row turned about -/
/-! the row turned about has the same mirrors -/
end Mr

namespace Mr
open PySem L2
/-! trees looked at, entries looked at -/
def spElder : Sp := fun vs H Q _ => ∃ o : Option Nat, vs = [optV o, optV o] ∧ Q (.bl true) H
def spEntry : Sp := fun vs H Q _ => ∃ (p q : Addr) (e : Ent), vs = [.ref p, .ref q] ∧ H p = some (entV e) ∧ H q = some (entV e) ∧ Q (.bl true) H
def spIsTree : Sp := fun vs H Q _ => ∃ (p : Addr) (xs : List V) (l : List Nat), vs = [.ref p, .str (tx l)] ∧ rowL l = true ∧ H p = some (.lst xs) ∧
  ((TreeV H xs (treeN l) ∧ ∀ H', Same H H' → Q (.bl true) H') ∨ (xs.length ≠ (treeN l).length ∧ ∀ H', Same H H' → Q (.bl false) H'))
def spEntryR : Sp := fun vs H Q _ => ∃ (p : Addr) (xs : List V) (l : List Nat) (j : Nat), vs = [.ref p, .int (j : Int)] ∧ rowL l = true ∧ H p = some (.lst xs) ∧ TreeV H xs (treeN l) ∧ j < (mirs l l.length).length ∧ ∀ H', Same H H' → Q (.bl true) H'
def spNum1 : Sp := fun vs H Q _ => ∃ (l t : List Nat), vs = [.str (tx l), .str (tx t)] ∧ rowL l = true ∧ mirV (.str (tx t)) = true ∧ t.length ≤ 100000 ∧ ∀ H', Same H H' → Q (optV (idxO (mirs l l.length) t)) H'
def spWay1 : Sp := fun vs H Q _ => ∃ (l : List Nat) (j : Nat) (t : List Nat), vs = [.str (tx l), .int (j : Int)] ∧ rowL l = true ∧ (mirs l l.length)[j]? = some t ∧ ∀ (p : Addr) (H' : Hp), H p = none → H' p = some (.lst (lensV (dueW (mirs l l.length) t))) → Same H H' → Q (.ref p) H'
end Mr

namespace L2
open PySem PySem.Spec PyProof.Rows
/-! ### sorted(xs, reverse=True) of ints, set(xs) of ints, len of it -/
section
variable {X : Cx} {x : Str} {p pos : Pos} {e : Expr} {es : List Expr} {kws : List Keyword} {t tk : TA} {id : String} {ks : List Str} {r : List V → List V → Hp → VK → Prop}
/-- a call of a built-in with keywords -/
def CallKR (X : Cx) (f : Value) (ks : List Str) (r : List V → List V → Hp → VK → Prop) : Prop :=
  ∀ (pins : List (Addr × Obj)) (s : Shared) (σ : St) (H : Hp) (xs zs : List V) (us ws : List Value) (Q : VK), Inv X pins σ H s → Vals xs us → Vals zs ws → r xs zs H Q → wpAny (model X.prog X.w) X.A (call f us (ks.zip ws)) (EP X pins σ Q) X.xe s
def tCBK (r : List V → List V → Hp → VK → Prop) (t tk : TA) : TE := fun σ H Q => t σ H fun vs H1 => tk σ H1 fun zs H2 => r vs zs H2 Q
def setOfI (ns : List Int) : List Int := firstMet (fun i => ns.getD i 0) ns.length
end
end L2

namespace L2
open PySem PySem.Spec PyProof.Rows
section
variable {X : Cx} {scope : Scope} {cl : List (Str × Addr)} {xs ys : List Str} {ix : List Nat}
end
end L2

namespace Mr
open PySem L2
/-! the steps of the ends: they never rise, and where they fall the length is more than the next two together -/
/-- lengths whose steps never rise, with what is promised where they fall -/
def Good : List Int → Prop
  | [] => True
  | a :: r => 0 < a ∧ hd0 r < a ∧ (r ≠ [] → hd0 r - hd0 r.tail ≤ a - hd0 r ∧ (hd0 r - hd0 r.tail < a - hd0 r → hd0 r + hd0 r.tail < a)) ∧ Good r
def castI (l : List Nat) : List Int := l.map fun k : Nat => (k : Int)
/-! groups told apart -/
def lenG (g : Gp) : List Int := (List.range g.2.2.toNat).map fun k : Nat => g.1 - g.2.1 * (k : Int)
def lensG (gs : List Gp) : List Int := (gs.map lenG).flatten
def HdG (r : List Int) (D : List Gp) : Prop := match D with
  | [] => r = []
  | y :: _ => r ≠ [] ∧ y.1 = hd0 r ∧ y.2.1 = hd0 r - hd0 r.tail ∧ 1 ≤ y.2.2
def stepG (D : List Gp) : List Int := D.map (·.2.1)
def leastI : Nat → Int
  | 0 => 1
  | 1 => 3
  | n + 2 => leastI (n + 1) + leastI n + 1
end Mr

namespace L2
open PySem PySem.Spec PyProof.Rows
end L2
namespace Mr
open PySem L2
/-- the lengths of the groups -/
def spLenG : Sp := fun vs H Q _ => ∃ (p : Addr) (xs : List V) (gs : List Gp), vs = [.ref p] ∧ H p = some (.lst xs) ∧ GrpsV H xs gs ∧ (lensG gs).length ≤ 1000 ∧ (∀ g ∈ gs, 1 ≤ g.2.2) ∧
  ∀ (p' : Addr) (H' : Hp), H p' = none → H' p' = some (.lst ((lensG gs).map V.int)) → Same H H' → Q (.ref p') H'
theorem atI_neg {α : Type} {xs : List α} {d : Nat} (h1 : 1 ≤ d) (h2 : d ≤ xs.length) : atI xs (-(d : Int)) = xs[xs.length - d]? := by
  unfold atI ixN
  rw [if_neg (by omega), if_pos (by omega)]
  have e : (-(d : Int) + (xs.length : Int)).toNat = xs.length - d := by omega
  first | (rw [e]; rfl) | (show xs[_]? = _; congr 1; omega)
def leasts (k : Nat) : List V := ((List.range k).map leastI).map V.int
def spRight : Sp := fun vs H Q _ => ∃ (p : Addr) (ls : List Int), vs = [.ref p] ∧ H p = some (.lst (ls.map V.int)) ∧ Good ls ∧ ls.length ≤ 60 ∧ ∀ H', Same H H' → Q (.bl true) H'
end Mr

namespace L2
open PySem PySem.Spec PyProof.Rows PySem.SeqAt PySem.MeetsSeq
open PySem.AutoSeq1 (wpAny_loadPart')
/-! ### a dict against a number; a list of whatever against a list of numbers -/
/-- x == n, x whatever of the odd things -/
def eqN : V → Int → Bool
  | .int i, n => i == n
  | .bl b, n => (if b then 1 else 0) == n
  | _, _ => false
/-- what may stand against a number -/
def Vs (H : Hp) (x : V) : Prop := match x with
  | .non => True
  | .bl _ => True
  | .int _ => True
  | .str _ => True
  | .ref p => (∃ xs, H p = some (.lst xs)) ∨ (∃ xs, H p = some (.tup xs)) ∨ ∃ kvs, H p = some (.dK kvs)
  | _ => False
section
variable {X : Cx} {pins : List (Addr × Obj)} {σ : St} {H : Hp} {s : Shared}
def eqNs (xs : List V) (ns : List Int) : Bool := decide (xs.length = ns.length) && (List.range xs.length).all fun j => eqN (xs.getD j .non) (ns.getD j 0)
def rEqN : R2 := fun x y H Q => ∃ p q xs ns, x = .ref p ∧ y = .ref q ∧ H p = some (.lst xs) ∧ H q = some (.lst (ns.map V.int)) ∧ (∀ x ∈ xs, Vs H x) ∧ Q (.bl (eqNs xs ns)) H
end
/-! ### repr of made data with small dicts -/
mutual
inductive RdW (H : Hp) : V → PyData → Prop
  | non : RdW H .non .none
  | bl (b : Bool) : RdW H (.bl b) (.bool b)
  | int (i : Int) : RdW H (.int i) (.int i)
  | str (z : Str) : RdW H (.str z) (.str z)
  | lst {p : Addr} {xs : List V} {ds : List PyData} : H p = some (.lst xs) → RdWs H xs ds → RdW H (.ref p) (.list ds)
  | tup {p : Addr} {xs : List V} {ds : List PyData} : H p = some (.tup xs) → RdWs H xs ds → RdW H (.ref p) (.tuple ds)
  | dic {p : Addr} {z : Str} {i : Int} : H p = some (.dK [(Sum.inr z, .int i)]) → RdW H (.ref p) (.dict [(.str z, .int i)])
inductive RdWs (H : Hp) : List V → List PyData → Prop
  | nil : RdWs H [] []
  | cons {x : V} {d : PyData} {xs : List V} {ds : List PyData} : RdW H x d → RdWs H xs ds → RdWs H (x :: xs) (d :: ds)
end
mutual
theorem RdW.mono {H H' : Hp} (s : Same H H') : ∀ {x : V} {d : PyData}, RdW H x d → RdW H' x d
  | _, _, .non => .non
  | _, _, .bl b => .bl b
  | _, _, .int i => .int i
  | _, _, .str z => .str z
  | _, _, .lst h r => .lst (s _ _ h) (RdWs.mono s r)
  | _, _, .tup h r => .tup (s _ _ h) (RdWs.mono s r)
  | _, _, .dic h => .dic (s _ _ h)
theorem RdWs.mono {H H' : Hp} (s : Same H H') : ∀ {xs : List V} {ds : List PyData}, RdWs H xs ds → RdWs H' xs ds
  | _, _, .nil => .nil
  | _, _, .cons a b => .cons (RdW.mono s a) (RdWs.mono s b)
end
section
variable {X : Cx} {pins : List (Addr × Obj)} {σ : St} {H : Hp} {s : Shared}
mutual
theorem RdW.reads (I : Inv X pins σ H s) : ∀ {x : V} {d : PyData} {u : Value}, RdW H x d → RelV x u → ∃ as, Reads s.heap u d as ∧ ∀ a ∈ as, H a ≠ none
  | _, _, _, .non, r => by cases r; exact ⟨_, .none, fun a h => by cases h⟩
  | _, _, _, .bl b, r => by cases r; exact ⟨_, .bool b, fun a h => by cases h⟩
  | _, _, _, .int i, r => by obtain ⟨t, rfl⟩ := r; exact ⟨_, .int i t, fun a h => by cases h⟩
  | _, _, _, .str z, r => by obtain ⟨t, rfl⟩ := r; exact ⟨_, .str z t, fun a h => by cases h⟩
  | _, _, _, .lst (p := p) h q, r => by
    cases r
    obtain ⟨_, its, n, rv, e⟩ := (show ObjOk X.prog X.w H s.heap _ (.lst _) from I.hok _ _ h)
    obtain ⟨as, ra, ha⟩ := RdWs.reads I q rv
    refine ⟨_, .list e rfl rfl (by simpa using ra), fun a hm => ?_⟩
    rcases List.mem_cons.mp hm with rfl | hm
    · rw [h]; simp
    · exact ha a hm
  | _, _, _, .tup h q, r => by
    cases r
    obtain ⟨_, its, rv, o, e, c, n, d⟩ := (show ObjOk X.prog X.w H s.heap _ (.tup _) from I.hok _ _ h)
    obtain ⟨as, ra, ha⟩ := RdWs.reads I q rv
    exact ⟨_, .tuple e c d (by simpa using ra), ha⟩
  | _, _, _, .dic (p := p) (z := z0) (i := i0) h, r => by
    cases r
    obtain ⟨_, _, vs, kv, o, es, ep, h1, h2, h3, _, h5, _⟩ := (show ObjOk X.prog X.w H s.heap _ (.dK _) from I.hok _ _ h)
    cases kv with
    | cons e1 e2 =>
      cases e2
      obtain ⟨e1, rv⟩ := e1
      cases hes : es.toList with
      | nil => rw [hes] at h5; cases h5
      | cons e0 er =>
        rw [hes] at h5
        cases h5 with
        | cons k1 k2 k3 =>
          cases k3
          obtain ⟨t2, e3⟩ := rv
          have k1' : keyIs (Sum.inr z0) e0.key = true := by rw [mixKind_is, ← e1] at k1; exact k1
          rcases keyIs_shape k1' with ⟨i, t, a, b⟩ | ⟨x, t, a, b⟩
          · cases a
          · cases a
            refine ⟨_, .dict (kvs := [(.str _, .int _)]) h1 h2.1 h3 (as := []) (bs := []) ?_ ?_, fun a hm => ?_⟩
            · rw [hes]
              show ReadsAll s.heap [e0.key] [.str _] []
              rw [b]
              exact .cons (as := []) (bs := []) (.str _ _) .nil
            · rw [hes]
              show ReadsAll s.heap [e0.val] [.int _] []
              rw [k2, e3]
              exact .cons (as := []) (bs := []) (.int _ _) .nil
            · have : a = p := by simpa using hm
              rw [this, h]; simp
theorem RdWs.reads (I : Inv X pins σ H s) : ∀ {xs : List V} {ds : List PyData} {us : List Value}, RdWs H xs ds → Vals xs us → ∃ as, ReadsAll s.heap us ds as ∧ ∀ a ∈ as, H a ≠ none
  | _, _, _, .nil, r => by cases r; exact ⟨_, .nil, fun a h => by cases h⟩
  | _, _, _, .cons a b, r => by
    cases r with
    | cons r1 r2 =>
      obtain ⟨as, ra, h1⟩ := RdW.reads I a r1
      obtain ⟨bs, rb, h2⟩ := RdWs.reads I b r2
      refine ⟨_, .cons ra rb, fun a hm => ?_⟩
      rcases List.mem_append.mp hm with hm | hm
      · exact h1 a hm
      · exact h2 a hm
end
/-- str(i) -/
theorem call_strI : CallR X (.type "str") (fun xs H Q => ∃ i : Int, xs = [.int i] ∧ i.natAbs.log2 < 1920 ∧ Q (.str (toString i : String)) H) := by
  intro pins s σ H xs us Q I r h
  obtain ⟨i, rfl, hs, q⟩ := h
  obtain ⟨u, rfl, t, rfl⟩ := vals1 r
  exact P.str_of_int hs ⟨.str _, H, I.tok _, ⟨_, rfl⟩, q⟩
end
end L2

namespace L2
open PySem PySem.Spec PyProof.Rows
end L2

namespace Mr
open PySem L2
/-! things of whatever kind: what may stand in a list, what may be handed in -/
inductive Elt (H : Hp) : V → Prop
  | bl (b : Bool) : Elt H (.bl b)
  | int (i : Int) (h : i.natAbs < 10 ^ 40) : Elt H (.int i)
  | str (z : Str) (h : z.cps.size ≤ 300) (hc : (z.cps.toList.all fun c => decide (c < 16 ^ 8)) = true) : Elt H (.str z)
  | odd (x : V) (h : Odd H x) : Elt H x
/-- a thing that is handed in -/
inductive Thg (b : Addr) (H : Hp) : V → Prop
  | elt (x : V) (h : Elt H x) : Thg b H x
  | lst (p : Addr) (xs : List V) (hp : H p = some (.lst xs)) (hb : p ≠ b) (hl : xs.length ≤ 60) (he : ∀ x ∈ xs, Elt H x) : Thg b H (.ref p)
  | tup (p : Addr) (xs : List V) (hp : H p = some (.tup xs)) (hl : xs.length ≤ 60) (he : ∀ x ∈ xs, Elt H x) : Thg b H (.ref p)
/-- may be shown: n deep at most, of weight w at most -/
def Sh2 (d : PyData) (n w : Nat) : Prop := d.showable = true ∧ d.depth ≤ n ∧ d.leavesShort 50 = true ∧ d.weight ≤ w
def Sh2s (ds : List PyData) (n w : Nat) : Prop := PyData.showableAll ds = true ∧ PyData.depthAll ds ≤ n ∧ PyData.leavesShortAll 50 ds = true ∧ PyData.weightAll ds ≤ w
section
variable {K : PySem.W.Frag}
end
def spSameG (K : PySem.W.Frag) : Sp := fun vs H Q _ => ∃ (x : V) (n : Int), vs = [x, .int n] ∧ (Scal x ∨ NoInt K H x) ∧ Q (.bl (decide (x = .int n))) H
def spAreG (K : PySem.W.Frag) : Sp := fun vs H Q _ => ∃ (x : V) (l : List Nat), vs = [x, .str (tx l)] ∧ rowL l = true ∧
  ((∃ (p : Addr) (xs : List V), x = .ref p ∧ H p = some (.lst xs) ∧ (∀ x ∈ xs, Scal x ∨ NoInt K H x) ∧ ∀ H', Same H H' → Q (.bl (decide (xs = lensV (reachesN l)))) H') ∨
   ((∃ t, TyOf K H x t ∧ PySem.W.kitOne K t (.type "list") = some false) ∧ ∀ H', Same H H' → Q (.bl false) H'))
def spBent04 : Sp := fun vs H Q _ => ∃ (b pd : Addr) (n : Int) (ks : List Nat) (x : V), vs = [.ref b, .ref pd, x] ∧ H b = some (.lst [.int n]) ∧ 0 ≤ n ∧ b ≠ pd ∧ H pd = some (.lst (lensV ks)) ∧ ks.length ≤ 29 ∧ (∀ k ∈ ks, k < 100) ∧ Odd H x ∧
  ∀ (y : V) (n' : Int) (H' : Hp), Thg b H' y → (∀ p, y = .ref p → H p = none) → 0 ≤ n' → H' b = some (.lst [.int n']) → But b H H' → Q y H'
end Mr

namespace L2
open PySem PySem.Spec PyProof.Rows PySem.SeqAt PySem.MeetsSeq
open PySem.AutoSeq1 (wpAny_loadPart')
/-! ### != of whatever thing and a text -/
section
variable {X : Cx}
def rNeS : R2 := fun x y H Q => ∃ z : Str, y = .str z ∧ Vs H x ∧ Q (.bl (!decide (x = .str z))) H
end
end L2

namespace Mr
open PySem L2
/-! things that are shown alike are alike: the tree's side is known -/
def cp (z : Str) : List Nat := z.cps.toList
def joinC : List (List Nat) → List Nat
  | [] => []
  | [x] => x
  | x :: y :: r => x ++ 44 :: 32 :: joinC (y :: r)
/-- the signs of what is shown -/
def shC (d : PyData) : List Nat := cp d.shown
/-- numbers that may stand there -/
def NiceI (i : Int) : Prop := i = 10 ^ 39 ∨ i = -1 ∨ ∃ n : Nat, n < 40 ∧ i = (n : Int)
def dig (n : Nat) : List Nat := cp ((toString (n : Int) : String) : Str)
/-! texts -/
def inn (l : List Nat) : List Nat := (l.map (Builtin.Str.reprChar 39)).flatten
def NiceS (l : List Nat) : Prop := Let l ∨ l = [65] ∨ l = [97, 32, 98] ∨ l = [97, 10] ∨ l = [49]
/-- what may stand anywhere: its numbers and texts are nice -/
def Leaf (d : PyData) : Prop := match d with
  | .int i => NiceI i
  | .str z => ∃ l, z = tx l ∧ NiceS l
  | _ => True
def dgB (c : Nat) : Bool := decide (48 ≤ c ∧ c ≤ 57)
/-- the first sign -/
def FirstC (d : PyData) (c : Nat) : Prop := match d with
  | .none => c = 78
  | .bool _ => c = 84 ∨ c = 70
  | .int _ => dgB c = true ∨ c = 45
  | .str _ => c = 39
  | .list _ => c = 91
  | .tuple _ => c = 40
  | .dict _ => c = 123
/-! entries and trees -/
def Ent2 (d : PyData) : Prop := Leaf d ∧ ∀ ds, d = .tuple ds → ∀ x ∈ ds, Leaf x
def Top2 (d : PyData) : Prop := Leaf d ∧ ∀ ds, d = .list ds → ∀ x ∈ ds, Ent2 x
/-- an entry of letters and small numbers -/
def SmallE (e : Ent) : Prop := Let e.1 ∧ (∀ i, e.2.1 = some i → i < 40) ∧ ∀ i, e.2.2 = some i → i < 40
end Mr

namespace Mr
open PySem L2
/-! things that are handed in where trees are asked for -/
def NiceV (x : V) : Prop := match x with
  | .int i => NiceI i
  | .str z => ∃ l, z = tx l ∧ NiceS l
  | _ => True
mutual
theorem rdw_one {H : Hp} : ∀ {x : V} {d d' : PyData}, RdW H x d → RdW H x d' → d = d'
  | _, _, _, .non, .non => rfl
  | _, _, _, .bl b, .bl _ => rfl
  | _, _, _, .int i, .int _ => rfl
  | _, _, _, .str z, .str _ => rfl
  | _, _, _, .lst h q, .lst h' q' => by rw [h] at h'; cases h'; rw [rdws_one q q']
  | _, _, _, .lst h q, .tup h' q' => by rw [h] at h'; cases h'
  | _, _, _, .lst h q, .dic h' => by rw [h] at h'; cases h'
  | _, _, _, .tup h q, .tup h' q' => by rw [h] at h'; cases h'; rw [rdws_one q q']
  | _, _, _, .tup h q, .lst h' q' => by rw [h] at h'; cases h'
  | _, _, _, .tup h q, .dic h' => by rw [h] at h'; cases h'
  | _, _, _, .dic h, .dic h' => by rw [h] at h'; cases h'; rfl
  | _, _, _, .dic h, .lst h' q' => by rw [h] at h'; cases h'
  | _, _, _, .dic h, .tup h' q' => by rw [h] at h'; cases h'
theorem rdws_one {H : Hp} : ∀ {xs : List V} {ds ds' : List PyData}, RdWs H xs ds → RdWs H xs ds' → ds = ds'
  | _, _, _, .nil, .nil => rfl
  | _, _, _, .cons a b, .cons a' b' => by rw [rdw_one a a', rdws_one b b']
end
/-- what stands in a list of entries -/
inductive En (b : Addr) (H : Hp) : V → Prop
  | lf (x : V) (h : Elt H x) (n : NiceV x) : En b H x
  | tup (p : Addr) (xs : List V) (hp : H p = some (.tup xs)) (hl : xs.length ≤ 5) (he : ∀ x ∈ xs, Elt H x ∧ NiceV x) : En b H (.ref p)
  | lst (p : Addr) (xs : List V) (hp : H p = some (.lst xs)) (hb : p ≠ b) (hl : xs.length ≤ 3) (he : ∀ x ∈ xs, Elt H x ∧ NiceV x) : En b H (.ref p)
inductive Tg (b : Addr) (H : Hp) : V → Prop
  | en (x : V) (h : En b H x) : Tg b H x
  | lst (p : Addr) (xs : List V) (hp : H p = some (.lst xs)) (hb : p ≠ b) (hl : xs.length ≤ 60) (he : ∀ x ∈ xs, En b H x) : Tg b H (.ref p)
  | tup (p : Addr) (xs : List V) (hp : H p = some (.tup xs)) (hl : xs.length ≤ 60) (he : ∀ x ∈ xs, En b H x) : Tg b H (.ref p)
section
variable {K : PySem.W.Frag}
end
/-- small entries -/
def SmE (e : Ent) : Prop := SmallE e ∧ e.1.length ≤ 100
def spElderG (K : PySem.W.Frag) : Sp := fun vs H Q _ => ∃ (x : V) (o : Option Nat) (d : PyData), vs = [x, optV o] ∧ (Scal x ∨ NoInt K H x) ∧ RdW H x d ∧ ∀ r : Bool, (r = true ↔ d = optD o) → Q (.bl r) H
def spEntryG : Sp := fun vs H Q _ => ∃ (b : Addr) (x : V) (q : Addr) (d : PyData) (e : Ent), vs = [x, .ref q] ∧ En b H x ∧ RdW H x d ∧ H q = some (entV e) ∧ ∀ r : Bool, (r = true ↔ d = entD e) → Q (.bl r) H
def spIsTreeG : Sp := fun vs H Q _ => ∃ (b : Addr) (x : V) (l : List Nat) (d : PyData), vs = [x, .str (tx l)] ∧ rowL l = true ∧ Tg b H x ∧ RdW H x d ∧ ∀ (r : Bool) (H' : Hp), (r = true ↔ d = .list ((treeN l).map entD)) → Same H H' → Q (.bl r) H'
def spBent16 : Sp := fun vs H Q _ => ∃ (b pd : Addr) (n : Int) (xs : List V) (es : List Ent) (x : V), vs = [.ref b, .ref pd, x] ∧ H b = some (.lst [.int n]) ∧ 0 ≤ n ∧ b ≠ pd ∧ H pd = some (.lst xs) ∧ TreeV H xs es ∧ es.length ≤ 20 ∧ (∀ e ∈ es, SmE e) ∧ Odd H x ∧
  ∀ (y : V) (n' : Int) (H' : Hp), Tg b H' y → (∀ p, y = .ref p → H p = none) → 0 ≤ n' → H' b = some (.lst [.int n']) → But b H H' → Q y H'
end Mr

namespace Mr
open PySem L2
/-! boxes of the later laws: the number in a box may be below nought -/
def Abcz (l : List Nat) : Prop := ∀ c ∈ l, c = 97 ∨ c = 98 ∨ c = 99 ∨ c = 122
theorem Abcz.app {l m : List Nat} (a : Abcz l) (b : Abcz m) : Abcz (l ++ m) := fun c h => (List.mem_append.mp h).elim (a c) (b c)
theorem Abcz.rev {l : List Nat} (a : Abcz l) : Abcz l.reverse := fun c h => a c (List.mem_reverse.mp h)
theorem Abcz.sub {l m : List Nat} (a : Abcz l) (h : ∀ c ∈ m, c ∈ l) : Abcz m := fun c q => a c (h c q)
theorem Abcz.nil : Abcz [] := fun _ h => absurd h (by simp)
theorem Abcz.take {l : List Nat} (a : Abcz l) (n : Nat) : Abcz (l.take n) := a.sub fun _ h => List.mem_of_mem_take h
theorem Abcz.drop {l : List Nat} (a : Abcz l) (n : Nat) : Abcz (l.drop n) := a.sub fun _ h => List.mem_of_mem_drop h
theorem Abcz.cut {l : List Nat} (a : Abcz l) (lo hi : Option Int) : Abcz (cutL l lo hi) := (a.drop _).take _
theorem Abcz.lets {l : List Nat} (a : Abcz l) : Let l := fun c h => by have := a c h; omega
theorem e_abcz : ("abcz" : Str) = tx [97, 98, 99, 122] := by decide +kernel
section
variable (K : PySem.W.Frag)
def spBoxI : Sp := fun vs H Q _ => ∃ (a : Addr) (ns : List Int) (k : Int), vs = [.ref a, .int k] ∧ SqL K H a (ns.map V.int) ∧ 0 ≤ k ∧ ∀ (b : Addr) (n : Int) (H' : Hp), H b = none → H' b = some (.lst [.int n]) → Same H H' → Q (.ref b) H'
end
def spTakeI : Sp := fun vs H Q _ => ∃ (b : Addr) (n m : Int), vs = [.ref b, .int m] ∧ H b = some (.lst [.int n]) ∧ 0 < m ∧ m < 1000000 ∧
  ∀ (d n' : Int) (H' : Hp), 0 ≤ d → d < m → H' b = some (.lst [.int n']) → But b H H' → Q (.int d) H'
def spRowI : Sp := fun vs H Q _ => ∃ (b : Addr) (n most : Int), vs = [.ref b, .int most] ∧ H b = some (.lst [.int n]) ∧ 0 ≤ most ∧ most ≤ 1000 ∧
  ∀ (m : List Nat) (n' : Int) (H' : Hp), Abcz m → (m.length : Int) ≤ most → H' b = some (.lst [.int n']) → But b H H' → Q (.str (tx m)) H'
/-- _law_mirror -/
def spMirI : Sp := fun vs H Q _ => ∃ l : List Nat, vs = [.str (tx l)] ∧ l.length ≤ sizeLine ∧ Q (.bl (!decide (l = []) && decide (l = l.reverse))) H
/-! the ends by place -/
def lstV (ls : List Nat) : HO := .lst (lensV ls)
abbrev LenV := ReV lstV
def endsAt (l : List Nat) : List (List Nat) := (List.range (l.length + 1)).map fun b => endsN (l.take b)
theorem endsAt_len (l : List Nat) : (endsAt l).length = l.length + 1 := by unfold endsAt; rw [List.length_map, List.length_range]
theorem endsAt_get {l : List Nat} {b : Nat} (h : b ≤ l.length) : (endsAt l)[b]? = some (endsN (l.take b)) := by
  unfold endsAt
  rw [List.getElem?_map, List.getElem?_range (by omega)]
  rfl
def spEBP : Sp := fun vs H Q _ => ∃ l : List Nat, vs = [.str (tx l)] ∧ rowL l = true ∧ ∀ (p : Addr) (xs : List V) (H' : Hp), H p = none → H' p = some (.lst xs) → LenV H' xs (endsAt l) → Same H H' → Q (.ref p) H'
theorem ReV.at {α : Type} {f : α → HO} {H : Hp} {xs : List V} {es : List α} (h : ReV f H xs es) {j : Nat} {e : α} (he : es[j]? = some e) : ∃ p : Addr, xs[j]? = some (.ref p) ∧ H p = some (f e) := by
  have hj : j < xs.length := by rw [h.1]; exact (List.getElem?_eq_some_iff.mp he).1
  obtain ⟨p, e1, e2⟩ := h.2 j xs[j] e (List.getElem?_eq_getElem hj) he
  exact ⟨p, by rw [List.getElem?_eq_getElem hj, e1], e2⟩
theorem ends_count (l : List Nat) : (endsN l).length ≤ l.length := by
  have := filt_le l.length (sufB l)
  rw [endsN_def]
  exact this
/-- longest_entry: of a row with its ends, and numbers -/
def spLE : Sp := fun vs H Q _ => ∃ (l : List Nat) (pl pn : Addr) (ms : List (List Nat)), vs = [.str (tx l), .ref pl, .ref pn] ∧ 1 ≤ l.length ∧ l.length ≤ 200 ∧ H pl = some (.lst (lensV (endsN l))) ∧ NumD H pn ms ∧
  ∀ (p : Addr) (H' : Hp), H p = none → H' p = some (entV (entT ms (topT l l.length))) → Same H H' → Q (.ref p) H'
end Mr
namespace Mr
open PySem L2
/-- need_mirror -/
def spNM (K : PySem.W.Frag) (C : Addr) : Sp := fun vs H Q E => ∃ x : V, vs = [x] ∧
  ((∃ t : List Nat, x = .str (tx t) ∧ mirV x = true ∧ t.length ≤ 100000 ∧ ∀ H', Same H H' → Q .non H') ∨ (Thing K H x ∧ mirV x = false ∧ ∀ H', Same H H' → E (.ref C) none H'))
end Mr

namespace L2
open PySem PySem.Spec PyProof.Rows PySem.SeqAt PySem.MeetsSeq
/-! ### min of a list of ints; len of a dict -/
section
variable {X : Cx}
/-- where the ways of a statement meet again: J is what holds there -/
def tJoin (t : TS) : TS := fun D σ H => ∃ J : St → Hp → Prop, (∀ σ' H', J σ' H' → D.nx σ' H') ∧ t { D with nx := J } σ H
theorem ps_join {st : Stmt} {t : TS} (h : PS X st t) : PS X st (tJoin t) := by
  intro pins s σ H D I q
  obtain ⟨J, hJ, q⟩ := q
  refine thn (h pins s σ H { D with nx := J } I q) fun f s1 r => ?_
  cases f with
  | next =>
    obtain ⟨σ', H', I', j⟩ := r
    exact ⟨σ', H', I', hJ _ _ j⟩
  | ret v => exact r
  | brk => exact r
  | cont => exact r
end
end L2

namespace Mr
/-! the fewest stretches by place, of which the lengths are told that may end there -/
def minL : List Nat → Nat
  | [] => 0
  | x :: r => if r = [] then x else min x (minL r)
/-- the numbers that are known, of the places that one stretch leads from -/
def knownN (told : List (Option Nat)) (b : Nat) (L : List Nat) : List Nat := L.filterMap fun k => (told[b - k]?).getD none
def nextF (told : List (Option Nat)) (b : Nat) (L : List Nat) : Option Nat := if knownN told b L = [] then none else some (minL (knownN told b L) + 1)
def fewAt (L : Nat → List Nat) : Nat → List (Option Nat)
  | 0 => [some 0]
  | n + 1 => fewAt L n ++ [nextF (fewAt L n) (n + 1) (L (n + 1))]
def few (L : Nat → List Nat) (b : Nat) : Option Nat := ((fewAt L b)[b]?).getD none
/-- lengths that may end at the place b -/
def Fits (L : Nat → List Nat) : Prop := ∀ b k, k ∈ L b → 1 ≤ k ∧ k ≤ b
end Mr

namespace Mr
open PySem L2
/-! cuts: the fewest stretches by place -/
def lenOf (Ls : List (List Nat)) (b : Nat) : List Nat := (Ls[b]?).getD []
def fewV (os : List (Option Nat)) : List V := os.map optV
def spFBP : Sp := fun vs H Q _ => ∃ (p : Addr) (xs : List V) (Ls : List (List Nat)), vs = [.ref p] ∧ H p = some (.lst xs) ∧ LenV H xs Ls ∧ 1 ≤ Ls.length ∧ Ls.length ≤ 1000 ∧ Fits (lenOf Ls) ∧ (∀ b, (lenOf Ls b).length ≤ 1000) ∧
  ∀ (p' : Addr) (H' : Hp), H p' = none → H' p' = some (.lst (fewV (fewAt (lenOf Ls) (Ls.length - 1)))) → Same H H' → Q (.ref p') H'
theorem lens_ints (ks : List Nat) : lensV ks = (ks.map fun (k : Nat) => (k : Int)).map V.int := by unfold lensV; rw [List.map_map]; rfl
def fewI (l : List Nat) (b : Nat) : Nat := (few (lenOf (endsAt l)) b).getD 0
def boundsN (l : List Nat) : List Nat := (List.range (l.length + 1)).map (fewI l)
/-- where a stretch of a length may begin -/
def begN (l : List Nat) (b : Nat) : List Nat := (endsN (l.take b)).map (b - ·)
/-- _law_begins -/
def spBeg : Sp := fun vs H Q _ => ∃ (l : List Nat) (b : Nat), vs = [.str (tx l), .int (b : Int)] ∧ b ≤ l.length ∧ l.length ≤ 1000 ∧ ∀ (p : Addr) (H' : Hp), H p = none → H' p = some (.lst (lensV (begN l b))) → Same H H' → Q (.ref p) H'
/-- bounds, and _law_bounds, are spLens boundsN -/
def keepsB (ns : List Int) (b : Nat) (L : List Nat) : Bool := L.all fun k => decide (ns.getD b 0 ≤ ns.getD (b - k) 0 + 1)
def spKeeps : Sp := fun vs H Q _ => ∃ (p pl : Addr) (ns : List Int) (b : Nat) (L : List Nat), vs = [.ref p, .int (b : Int), .ref pl] ∧ H p = some (.lst (ns.map V.int)) ∧ b < ns.length ∧ H pl = some (.lst (lensV L)) ∧ L.length ≤ 1000 ∧ (∀ k ∈ L, k ≤ b) ∧
  ∀ H', Same H H' → Q (.bl (keepsB ns b L)) H'
def areB (l : List Nat) (ns : List Int) : Bool := decide (ns.length = l.length + 1) && (decide (ns.getD 0 0 = 0) && (List.range (l.length + 1)).all fun b => keepsB ns b (endsN (l.take b)))
def spAreB : Sp := fun vs H Q _ => ∃ (p : Addr) (ns : List Int) (l : List Nat), vs = [.ref p, .str (tx l)] ∧ rowL l = true ∧ H p = some (.lst (ns.map V.int)) ∧ ns.length ≤ 1000 ∧ ∀ H', Same H H' → Q (.bl (areB l ns)) H'
end Mr

namespace Mr
open PySem L2
/-! how many unlike mirrors -/
def kindsN (l : List Nat) : Nat := (mirs l l.length).length
def spKinds : Sp := fun vs H Q _ => ∃ l : List Nat, vs = [.str (tx l)] ∧ rowL l = true ∧ ∀ H', Same H H' → Q (.int (kindsN l : Nat)) H'
def spFull : Sp := fun vs H Q _ => ∃ l : List Nat, vs = [.str (tx l)] ∧ rowL l = true ∧ ∀ H', Same H H' → Q (.bl (decide (kindsN l = l.length))) H'
/-- a dict of which the keys are the texts of S -/
def SetL (kvs : List (Key × V)) (S : List Nat → Prop) (B : Nat) : Prop := ∃ ts : List (List Nat), ts.Nodup ∧ ts.length ≤ B ∧ kvs.length = ts.length ∧ (∀ x, (valV kvs (Sum.inr (tx x))).isSome = decide (x ∈ ts)) ∧ ∀ t, t ∈ ts ↔ S t
/-- the mirror stretches that end up to a place -/
def MirTo (l : List Nat) (i j : Nat) (t : List Nat) : Prop := ∃ f c, f < c ∧ c ≤ l.length ∧ (c ≤ i ∨ (c = i + 1 ∧ f < j)) ∧ t = sub l f c ∧ PalI l f c
end Mr

namespace Mr
open PySem L2
/-! cuts told: lists of pairs -/
def pairV (c : Nat × Nat) : HO := .tup [.int (c.1 : Int), .int (c.2 : Int)]
abbrev PairV := ReV pairV
/-- a cut from a place on -/
def CutFrom (l : List Nat) : Nat → List (Nat × Nat) → Prop
  | a, [] => a = l.length
  | a, c :: r => c.1 = a ∧ a < c.2 ∧ c.2 ≤ l.length ∧ PalI l a c.2 ∧ CutFrom l c.2 r
def firstsN (l : List Nat) (b : Nat) : List Nat := (begN l b).filter fun f => decide (fewI l f < fewI l b)
def nextB (l : List Nat) (b : Nat) : Nat := ((firstsN l b)[0]?).getD 0
theorem begN_mem {l : List Nat} {b f : Nat} (h : b ≤ l.length) (hf : f ∈ begN l b) : f < b ∧ PalI l f b ∧ b - f ∈ endsN (l.take b) := by
  obtain ⟨k, hk, rfl⟩ := List.mem_map.mp hf
  obtain ⟨k1, k2, k3⟩ := (ends_mem h).mp hk
  exact ⟨by omega, k3, by rw [show b - (b - k) = k by omega]; exact hk⟩
def cutAcc (l : List Nat) : Nat → Nat → List (Nat × Nat) → List (Nat × Nat)
  | 0, _, acc => acc
  | n + 1, b, acc => if b = 0 then acc else cutAcc l n (nextB l b) ((nextB l b, b) :: acc)
def cutN (l : List Nat) : List (Nat × Nat) := cutAcc l l.length l.length []
def spFewest : Sp := fun vs H Q _ => ∃ l : List Nat, vs = [.str (tx l)] ∧ rowL l = true ∧ ∀ H', Same H H' → Q (.int (fewI l l.length : Nat)) H'
def spCut : Sp := fun vs H Q _ => ∃ l : List Nat, vs = [.str (tx l)] ∧ rowL l = true ∧ ∀ (p : Addr) (xs : List V) (H' : Hp), H p = none → H' p = some (.lst xs) → PairV H' xs (cutN l) → Same H H' → Q (.ref p) H'
/-- _law_is_cut of a cut -/
def spLIC : Sp := fun vs H Q _ => ∃ (p : Addr) (xs : List V) (cs : List (Nat × Nat)) (l : List Nat), vs = [.ref p, .str (tx l)] ∧ H p = some (.lst xs) ∧ PairV H xs cs ∧ cs.length ≤ 1000 ∧ l.length ≤ 1000 ∧ CutFrom l 0 cs ∧ ∀ H', Same H H' → Q (.bl true) H'
end Mr

namespace Mr
open PySem L2
/-! where a text stands -/
def occF (l t : List Nat) : List Nat := (List.range l.length).filter fun f => decide ((l.drop f).take t.length = t)
def occN (l t : List Nat) : List (Nat × Nat) := (occF l t).map fun f => (f, f + t.length)
def occTo (l t : List Nat) (i : Nat) : List (Nat × Nat) := ((List.range i).filter fun f => decide ((l.drop f).take t.length = t)).map fun f => (f, f + t.length)
def spStrX (K : PySem.W.Frag) (C : Addr) : Sp := fun vs H Q E => ∃ (l : List Nat) (x : V), vs = [.str (tx l), x] ∧ rowL l = true ∧
  ((∃ t : List Nat, x = .str (tx t) ∧ mirV x = true ∧ t.length ≤ 1000 ∧ ∀ (p : Addr) (xs : List V) (H' : Hp), H p = none → H' p = some (.lst xs) → PairV H' xs (occN l t) → Same H H' → Q (.ref p) H') ∨ (Thing K H x ∧ mirV x = false ∧ ∀ H', Same H H' → E (.ref C) none H'))
def spTold32 (K : PySem.W.Frag) : Sp := fun vs H Q _ => ∃ (l : List Nat) (x : V), vs = [.str (tx l), x] ∧ rowL l = true ∧
  ((∃ t : List Nat, x = .str (tx t) ∧ mirV x = true ∧ t.length ≤ 1000 ∧ ∀ (p : Addr) (xs : List V) (H' : Hp), H p = none → H' p = some (.lst xs) → PairV H' xs (occN l t) → Same H H' → Q (.ref p) H') ∨ (Thing K H x ∧ mirV x = false ∧ ∀ H', Same H H' → Q (.str "mirror") H'))
def spStrL : Sp := fun vs H Q _ => ∃ (l t : List Nat), vs = [.str (tx l), .str (tx t)] ∧ l.length ≤ 1000 ∧ t.length ≤ 1000 ∧ ∀ (p : Addr) (xs : List V) (H' : Hp), H p = none → H' p = some (.lst xs) → PairV H' xs (occN l t) → Same H H' → Q (.ref p) H'
def pairD (c : Nat × Nat) : PyData := .tuple [.int (c.1 : Int), .int (c.2 : Int)]
end Mr

namespace L2
open PySem PySem.Spec PyProof.Rows
/-! ### methods of an own class, and making an instance -/
structure AtM (K : PySem.W.Frag) (C : Addr) (m qual : Str) (st : Stmt) (ps : List Str) : Prop where
  ex : ∃ (f : Addr) (fd : FuncData), Fun K m qual st f fd ∧ Meth K C m f ∧ Binds K fd ps []
theorem AtM.mk' {K : PySem.W.Frag} {C f : Addr} {m qual : Str} {st : Stmt} {ps : List Str} {oc : Value} {od an : Option Addr} {osl : Array (Option Value)} {kV doc pm cdv ct : Value}
    (a : PySem.W.findIn K (.ref C) m = some (some (.ref f))) (i : PySem.W.isFn K (.ref f) = true)
    (l : K.lookup f = some ⟨oc, od, .func (PySem.W.fnOf m qual (defArgs st) (defBody st) (defScope st) .none kV doc pm an cdv ct), osl⟩)
    (c : PySem.W.codeIn K cdv qual = true) (k : PySem.W.keepIn K (.ref f) = true)
    (b : ∀ (kV doc pm : Value) (an : Option Addr) (cdv ct : Value) (us : List Value), us.length = ps.length → bindArgs (PySem.W.fnOf m qual (defArgs st) (defBody st) (defScope st) .none kV doc pm an cdv ct) ⟨us, []⟩ = pure (ps.zip us)) : AtM K C m qual st ps :=
  ⟨f, _, fun_mk l c k, ⟨a, i, k⟩, (fun_mk l c k).binds b⟩
section
variable {P : Program} {w : World} {K : PySem.W.Frag} {mg : Str → Option Value} {base : Heap}
structure Mt (P : Program) (w : World) (K : PySem.W.Frag) (mg : Str → Option Value) (base : Heap) (k : Nat) (C : Addr) (m : Str) (ps : List Str) (sp : Sp) : Prop where
  ex : ∃ (f : Addr) (fd : FuncData), FnOk P w K mg base CX0 k f fd ps sp ∧ Meth K C m f ∧ Binds K fd ps []
structure MtX (P : Program) (w : World) (K : PySem.W.Frag) (mg : Str → Option Value) (base : Heap) (k : Nat) (C : Addr) (m : Str) (ps : List Str) (sp : Sp) : Prop where
  ex : ∃ (f : Addr) (fd : FuncData), FnOk P w K mg base (CX1 P w) k f fd ps sp ∧ Meth K C m f ∧ Binds K fd ps []
theorem AtM.mtx {k : Nat} {C : Addr} {m qual : Str} {st : Stmt} {ps : List Str} {sp : Sp} (a : AtM K C m qual st ps) (h : ∀ f fd, Fun K m qual st f fd → FnOk P w K mg base (CX1 P w) k f fd ps sp) : MtX P w K mg base k C m ps sp :=
  let ⟨f, fd, F, M, b⟩ := a.ex
  ⟨f, fd, h f fd F, M, b⟩
/-- a class that may be made without arguments -/
structure MkC (P : Program) (w : World) (K : PySem.W.Frag) (mg : Str → Option Value) (base : Heap) (k : Nat) (C : Addr) (sp : Sp) : Prop where
  ex : ∃ (f : Addr) (fd : FuncData), FnOk P w K mg base CX0 k f fd ["self"] sp ∧ Mk K C f ∧ Binds K fd ["self"] []
theorem AtM.mkc {k : Nat} {C : Addr} {qual : Str} {st : Stmt} {sp : Sp} (a : AtM K C "__init__" qual st ["self"]) (mk : PySem.W.makesIn K C = true) (kc : PySem.W.keepIn K (.ref C) = true) (h : ∀ f fd, Fun K "__init__" qual st f fd → FnOk P w K mg base CX0 k f fd ["self"] sp) : MkC P w K mg base k C sp :=
  let ⟨f, fd, F, M, b⟩ := a.ex
  ⟨f, fd, h f fd F, ⟨mk, M.at_, M.fn, kc⟩, b⟩
end
section
variable {X : Cx} {k j : Nat} {C : Addr} {m x : Str} {ps : List Str} {sp : Sp} {e o : Expr} {es : List Expr} {p apos pos : Pos} {ta : TE} {t : TA} {pl : Sem Bool}
theorem pe_mt (d : Mt X.prog X.w X.K X.mg X.base j C m ps sp) (c : Cls X.K C) (hr : Room k X.A) (he : PE X o ta) (ha : PA X (e :: es) t) (hjk : j ≤ k := by decide)
    (hst : starEach (e :: es) X.env = (false, eval e X.env) :: starEach es X.env := by rfl) (hpl : (backTo pos (starEach es X.env)).any (·.1) = false := by rfl)
    (ht : eval (.Call (.Attribute o m apos) (e :: es) [] pos) X.env = (do
      let ov ← eval o X.env
      standAt apos.atName
      let (f, first) ← holding [ov] (getMethod ov m pl)
      callWith pos f first (backTo pos (starEach (e :: es) X.env)) (backToKw pos (keywordEach [] X.env))) := by rfl) : PE X (.Call (.Attribute o m apos) (e :: es) [] pos) (tMeth C m sp [] E0 ta t) := by
  obtain ⟨f, fd, F, M, b⟩ := d.ex
  exact pe_meth (pl := pl) he c M (F.mono hjk) hr b .nil pass0 ha hst hpl ht
theorem pe_mk0 (d : MkC X.prog X.w X.K X.mg X.base j C sp) (hr : Room (k + 1) X.A) (hg : Gl X x) (hm : X.mg x = some (.ref C)) (hjk : j ≤ k := by decide) (hdb : (x == ("__debug__" : Str)) = false := by decide) : PE X (.Call (.Name x p) [] [] pos) (tMake C sp [] E0 tNil) := by
  obtain ⟨f, fd, F, M, b⟩ := d.ex
  exact pe_make0 M (F.mono hjk) hr hg hm b .nil pass0 hdb
end
end L2
namespace L2
open PySem PySem.Spec PyProof.Rows
theorem MtX.mt {P : Program} {w : World} {K : PySem.W.Frag} {mg : Str → Option Value} {base : Heap} {k : Nat} {C : Addr} {m : Str} {ps : List Str} {sp sp' : Sp} (d : MtX P w K mg base k C m ps sp) (h : ∀ vs H Q E, sp' vs H Q E → sp vs H Q E0) : Mt P w K mg base k C m ps sp' := by
  obtain ⟨f, fd, F, M, b⟩ := d.ex
  refine ⟨f, fd, ⟨fun vs H Q E z => F.len vs H Q E0 (h _ _ _ _ z), fun A outer s H args us vs Q E hr he hb hv hs => ?_⟩, M, b⟩
  refine codeAny_mono (F.run A outer s H args us vs Q E0 hr he hb hv (h _ _ _ _ hs)) fun r s' q => ?_
  cases r with
  | error e =>
    obtain ⟨_, _, _, _, _, _, _, _, _, _, _, _, z⟩ := q
    exact z.elim
  | ok fl => cases fl <;> exact q
def tMethX (C : Addr) (m : Str) (sp : Sp) (Ex : XS) (ta : TE) (t : TA) : TE := fun σ H Q => ta σ H fun x H1 => ∃ a dx fs, x = .ref a ∧ H1 a = some (.ins C dx fs) ∧ fs.lookup m = none ∧ t σ H1 fun vs H2 => sp (x :: vs) H2 Q (Ex σ)
section
variable {X : Cx} {k j : Nat} {C : Addr} {m : Str} {ps : List Str} {sp : Sp} {o : Expr} {apos pos : Pos} {ta : TE} {pl : Sem Bool} {Ex : XS}
end
end L2

namespace Mr
open PySem L2
/-! how many unlike mirrors: a sign more, rows turned about, beginnings and ends -/
end Mr

namespace Mr
open PySem L2
/-! growers -/
structure GrA where
  g : Addr
  dx : Addr
  pe : Addr
  pb : Addr
  pt : Addr
  pn : Addr
def grF (A : GrA) (l : List Nat) : List (Str × V) := [("signs", .str (tx l)), ("endings", .ref A.pe), ("brought", .ref A.pb), ("entries", .ref A.pt), ("numbers", .ref A.pn)]
section
variable {A : GrA} {l : List Nat}
end
/-- the ends that the row had with each of its signs, and whether each brought a mirror -/
def grEnds (l : List Nat) : List (List Nat) := (List.range l.length).map fun i => endsN (l.take (i + 1))
def newsN (l : List Nat) : List Bool := (List.range l.length).map fun i => decide (topT l (i + 1) ∉ mirs l i)
def topL (l : List Nat) : List Nat := topT l l.length
/-- a grower at A with the row l; what it has made itself lies nowhere in B -/
structure GrV (B : Hp) (C : Addr) (H : Hp) (A : GrA) (l : List Nat) : Prop where
  dom : ∀ c, H c = none → B c = none
  row : rowL l = true
  ins : H A.g = some (.ins C A.dx (grF A l))
  ends : ∃ xs, H A.pe = some (.lst xs) ∧ LenV H xs (grEnds l) ∧ ∀ p, V.ref p ∈ xs → p ≠ A.pe ∧ p ≠ A.pb ∧ p ≠ A.pt ∧ B p = none
  news : H A.pb = some (.lst ((newsN l).map V.bl))
  tree : ∃ ts, H A.pt = some (.lst ts) ∧ TreeV H ts (treeN l)
  nums : NumD H A.pn (mirs l l.length)
  d1 : A.pe ≠ A.pb
  d2 : A.pe ≠ A.pt
  d3 : A.pb ≠ A.pt
/-- all but the grower's own things stays -/
def ButG (A : GrA) (H H' : Hp) : Prop := ∀ c o, H c = some o → c ≠ A.g → c ≠ A.pe → c ≠ A.pb → c ≠ A.pt → c ≠ A.pn → H' c = some o
/-- the things of a grower that was made behind H -/
def GrFree (A : GrA) (H : Hp) : Prop := H A.g = none ∧ H A.pe = none ∧ H A.pb = none ∧ H A.pt = none ∧ H A.pn = none
structure ClG (K : PySem.W.Frag) (mg : Str → Option Value) (C : Addr) : Prop where
  cl : Cls K C
  n1 : NoAttr K C "signs"
  n2 : NoAttr K C "endings"
  n3 : NoAttr K C "brought"
  n4 : NoAttr K C "entries"
  n5 : NoAttr K C "numbers"
  mgC : mg "Grower" = some (.ref C)
def spGInit (C : Addr) : Sp := fun vs H Q _ => ∃ (x dx : Addr) (B : Hp), vs = [.ref x] ∧ H x = some (.ins C dx []) ∧ (∀ c, H c = none → B c = none) ∧ ∀ (A : GrA) (H' : Hp), A.g = x → GrV B C H' A [] → H A.pe = none → H A.pb = none → H A.pt = none → H A.pn = none → (∀ c o, H c = some o → c ≠ x → H' c = some o) → Q .non H'
/-- what its ends want of a grower -/
structure GrE (C : Addr) (H : Hp) (A : GrA) (l : List Nat) : Prop where
  len : l.length ≤ 200
  ins : H A.g = some (.ins C A.dx (grF A l))
  ends : ∃ xs, H A.pe = some (.lst xs) ∧ LenV H xs (grEnds l)
def spGEnds (C : Addr) : Sp := fun vs H Q _ => ∃ (A : GrA) (l : List Nat), vs = [.ref A.g] ∧ GrE C H A l ∧ ∀ (p : Addr) (H' : Hp), H p = none → H' p = some (.lst (lensV (endsN l))) → Same H H' → Q (.ref p) H'
def spEW : Sp := fun vs H Q _ => ∃ (l : List Nat) (p : Addr) (c : Nat), vs = [.str (tx l), .ref p, .str (tx [c])] ∧ l.length ≤ 200 ∧ H p = some (.lst (lensV (endsN l))) ∧ ∀ (p' : Addr) (H' : Hp), H p' = none → H' p' = some (.lst (lensV (endsN (l ++ [c])))) → Same H H' → Q (.ref p') H'
def spAdd (C : Addr) : Sp := fun vs H Q _ => ∃ (B : Hp) (A : GrA) (l : List Nat) (c : Nat), vs = [.ref A.g, .str (tx [c])] ∧ GrV B C H A l ∧ 97 ≤ c ∧ c ≤ 122 ∧ l.length < 200 ∧
  ∀ (p : Addr) (H' : Hp), H p = none → H' p = some (.tup [.int (((mirs (l ++ [c]) (l ++ [c]).length).idxOf (topL (l ++ [c])) : Nat) : Int), .bl (decide (topL (l ++ [c]) ∉ mirs l l.length))]) → GrV B C H' A (l ++ [c]) → ButG A H H' → Q (.ref p) H'
end Mr

namespace Mr
open PySem L2
/-! how deep, and the tops -/
def topsN (l : List Nat) : List Nat := (List.range l.length).map fun i => (mirs l l.length).idxOf (topT l (i + 1))
def deepsN (l : List Nat) : List Nat := (List.range l.length).map fun i => (endsN (l.take (i + 1))).length
end Mr

namespace Mr
open PySem L2
/-! what growers tell -/
def spGRow (C : Addr) : Sp := fun vs H Q _ => ∃ (B : Hp) (A : GrA) (l : List Nat), vs = [.ref A.g] ∧ GrV B C H A l ∧ Q (.str (tx l)) H
def spGMany (C : Addr) : Sp := fun vs H Q _ => ∃ (B : Hp) (A : GrA) (l : List Nat), vs = [.ref A.g] ∧ GrV B C H A l ∧ Q (.int ((mirs l l.length).length : Nat)) H
def spGTree (C : Addr) : Sp := fun vs H Q _ => ∃ (B : Hp) (A : GrA) (l : List Nat), vs = [.ref A.g] ∧ GrV B C H A l ∧ ∀ (p : Addr) (xs : List V) (H' : Hp), H p = none → H' p = some (.lst xs) → TreeV H' xs (treeN l) → Same H H' → Q (.ref p) H'
def deepN (l : List Nat) : Nat := (deepsN l).sum
def spGMM (C : Addr) : Sp := fun vs H Q _ => ∃ (B : Hp) (A : GrA) (l : List Nat), vs = [.ref A.g] ∧ GrV B C H A l ∧ ∀ H', Same H H' → Q (.int (deepN l : Nat)) H'
def spAsked (C : Addr) : Sp := fun vs H Q _ => ∃ (B : Hp) (A : GrA) (l : List Nat) (kind : Int), vs = [.ref A.g, .str (tx l), .int kind] ∧ GrV B C H A l ∧ ∀ H', Same H H' → Q (.bl true) H'
end Mr
namespace Mr
open PySem L2
end Mr
namespace Mr
open PySem L2
def spTakeX (C c6 : Addr) : Sp := fun vs H Q E => ∃ (B : Hp) (A : GrA), vs = [.ref A.g] ∧
  ((∃ (l : List Nat) (c : Nat), GrV B C H A (l ++ [c]) ∧ ∀ H', GrV B C H' A l → ButG A H H' → Q (.str (tx [c])) H') ∨ (GrV B C H A [] ∧ ∀ H', Same H H' → E (.ref c6) none H'))
def spTakeG (C : Addr) : Sp := fun vs H Q _ => ∃ (B : Hp) (A : GrA) (l : List Nat) (c : Nat), vs = [.ref A.g] ∧ GrV B C H A (l ++ [c]) ∧ ∀ H', GrV B C H' A l → ButG A H H' → Q (.str (tx [c])) H'
end Mr

namespace L2
open PySem PySem.Spec PyProof.Rows
structure FnOkG (P : Program) (w : World) (K : PySem.W.Frag) (mg : Str → Option Value) (base : Heap) (CX : CXT) (k : Nat) (f : Addr) (fd : FuncData) (ps : List Str) (sp : Sp) : Prop where
  len : ∀ vs H Q E, sp vs H Q E → vs.length = ps.length
  run : ∀ (A : Around) (outer : List Env) (s : Shared) (H : Hp) (args : Args) (us : List Value) (vs : List V) (Q : VK) (E : XK), Room k A → A.guards = some [] → Env0 P w K mg base A outer s H → BindsTo s fd args (ps.zip us) → Vals vs us → sp vs H Q E →
    codeAny (model P w) A (.call (.ref f) args) (CR CX outer P w H s Q E) s
section
variable {P : Program} {w : World} {K : PySem.W.Frag} {mg : Str → Option Value} {base : Heap}
end
end L2

namespace L2
open PySem PySem.Spec PyProof.Rows
/-! ### defs that are called where no repr is under way -/
structure DfG (P : Program) (w : World) (K : PySem.W.Frag) (mg : Str → Option Value) (base : Heap) (k : Nat) (x : Str) (ps : List Str) (sp : Sp) : Prop where
  ex : ∃ (f : Addr) (fd : FuncData), FnOkG P w K mg base CX0 k f fd ps sp ∧ mg x = some (.ref f) ∧ PySem.W.keepIn K (.ref f) = true ∧ Binds K fd ps []
section
variable {X : Cx} {k j : Nat} {x : Str} {ps : List Str} {sp : Sp} {e : Expr} {es : List Expr} {p pos : Pos} {t : TA}
end
end L2

namespace Mr
open PySem L2
/-! two growers -/
/-- the things of one are none of the other's -/
def Apart (A A' : GrA) : Prop := ∀ c, (c = A.g ∨ c = A.pe ∨ c = A.pb ∨ c = A.pt ∨ c = A.pn) → c ≠ A'.g ∧ c ≠ A'.pe ∧ c ≠ A'.pb ∧ c ≠ A'.pt ∧ c ≠ A'.pn
def spRight25 (C : Addr) : Sp := fun vs H Q _ => ∃ (B : Hp) (A : GrA) (l : List Nat), vs = [.ref A.g, .str (tx l)] ∧ GrV B C H A l ∧ ∀ H', Same H H' → Q (.bl true) H'
end Mr
namespace Mr
open PySem L2
abbrev Not5 (c : Addr) (A : GrA) : Prop := c ≠ A.g ∧ c ≠ A.pe ∧ c ≠ A.pb ∧ c ≠ A.pt ∧ c ≠ A.pn
structure TwoS (B : Hp) (A1 A2 : GrA) (pg pr b : Addr) : Prop where
  ap : Apart A1 A2
  b1 : B A1.pe ≠ none ∧ B A1.pb ≠ none ∧ B A1.pt ≠ none
  b2 : B A2.pe ≠ none ∧ B A2.pb ≠ none ∧ B A2.pt ≠ none
  nb1 : Not5 b A1
  nb2 : Not5 b A2
  np1 : Not5 pr A1
  np2 : Not5 pr A2
  ng1 : Not5 pg A1
  ng2 : Not5 pg A2
  Bb : B b ≠ none
  Bp : B pr ≠ none
  bp : b ≠ pr
  bg : b ≠ pg
  pp : pg ≠ pr
structure Two (B : Hp) (C : Addr) (H : Hp) (A1 A2 : GrA) (pg pr b : Addr) (l1 l2 : List Nat) (n : Int) : Prop where
  g1 : GrV B C H A1 l1
  g2 : GrV B C H A2 l2
  hg : H pg = some (.lst [.ref A1.g, .ref A2.g])
  hr : H pr = some (.lst [.str (tx l1), .str (tx l2)])
  n0 : 0 ≤ n
  hb : H b = some (.lst [.int n])
section
variable {B H H' : Hp} {C : Addr} {A1 A2 : GrA} {pg pr b : Addr} {l1 l2 l1' l2' : List Nat} {n n' : Int}
end
end Mr

namespace Mr
open PySem L2
def spTaken (C : Addr) : Sp := fun vs H Q _ => ∃ (B : Hp) (A : GrA), vs = [.ref A.g] ∧
  ((∃ (l : List Nat) (c : Nat), GrV B C H A (l ++ [c]) ∧ ∀ H', GrV B C H' A l → ButG A H H' → Q (.str (tx [c])) H') ∨ (GrV B C H A [] ∧ ∀ H', Same H H' → Q (.str (tx [98, 97, 114, 101])) H'))
end Mr

namespace Mr
open PySem L2
/-! how many stretches are mirrors: place by place -/
def p01 (l : List Nat) (a b : Nat) : Nat := if palB l a b = true then 1 else 0
end Mr

namespace L2
open PySem
section
variable {X : Cx} {pos : Pos} {t u : TS}
/-- an if of which the test tells J: the ways through the test meet ahead of both branches -/
def tIfJ (c : TT) (t u : TS) : TS := fun D σ H => ∃ J : Bool → Hp → Prop, c σ H J ∧ ∀ b H1, J b H1 → if b = true then t D σ H1 else u D σ H1
end
end L2
namespace Mr
open PySem L2
/-! all that a grower tells, in a list -/
def toldV (l : List Nat) (pe pt : Addr) : List V := [.str (tx l), .int ((mirs l l.length).length : Nat), .ref pe, .ref pt, .int (deepN l : Nat)]
def spTold27 (C : Addr) : Sp := fun vs H Q _ => ∃ (B : Hp) (A : GrA) (l : List Nat), vs = [.ref A.g] ∧ GrV B C H A l ∧
  ∀ (p pe pt : Addr) (xs : List V) (H' : Hp), H p = none → H' p = some (.lst (toldV l pe pt)) → H' pe = some (.lst (lensV (endsN l))) → H' pt = some (.lst xs) → TreeV H' xs (treeN l) → Same H H' → Q (.ref p) H'
end Mr

namespace Mr
open PySem L2
/-! what is no row is refused -/
def spNR1 (K : PySem.W.Frag) (C : Addr) : Sp := fun vs H _ E => ∃ x : V, vs = [x] ∧ Thing K H x ∧ rowV x = false ∧ ∀ H', Same H H' → E (.ref C) none H'
def spNRa (K : PySem.W.Frag) (C : Addr) : Sp := fun vs H _ E => ∃ x y : V, vs = [x, y] ∧ Thing K H x ∧ rowV x = false ∧ ∀ H', Same H H' → E (.ref C) none H'
def spNRb (K : PySem.W.Frag) (C : Addr) : Sp := fun vs H _ E => ∃ x y : V, vs = [y, x] ∧ Thing K H x ∧ rowV x = false ∧ ∀ H', Same H H' → E (.ref C) none H'
def spWay07 (K : PySem.W.Frag) (C : Addr) (n : Nat) : Sp := fun vs H _ E => ∃ (x : V) (v : Nat), vs = [.int (v : Int), x] ∧ v < n ∧ Thing K H x ∧ rowV x = false ∧ ∀ H', Same H H' → E (.ref C) none H'
def spTold07 (K : PySem.W.Frag) : Sp := fun vs H Q _ => ∃ (x : V) (h v : Nat), vs = [.int (h : Int), .int (v : Int), x] ∧ ((h = 0 ∧ v < 10) ∨ (h = 1 ∧ v < 9)) ∧ Thing K H x ∧ rowV x = false ∧ ∀ H', Same H H' → Q (.str ("row" : Str)) H'
/-- need_row: nothing where it is a row, else NoRow -/
def spNeedX (K : PySem.W.Frag) (C : Addr) : Sp := fun vs H Q E => ∃ x, vs = [x] ∧ Thing K H x ∧ (rowV x = true → ∀ H', Same H H' → Q .non H') ∧ (rowV x = false → ∀ H', Same H H' → E (.ref C) none H')
end Mr

namespace L2
open PySem PySem.Spec PyProof.Rows
section
variable {X : Cx} {k j : Nat} {C : Addr} {m : Str} {ps : List Str} {sp : Sp} {o e : Expr} {es : List Expr} {apos pos : Pos} {ta : TE} {t : TA} {pl : Sem Bool} {Ex : XS}
/-- o.m(e, ..) of a method that may raise -/
theorem pe_mtx (d : MtX X.prog X.w X.K X.mg X.base j C m ps sp) (c : Cls X.K C) (hr : Room k X.A) (hx : PassesX X Ex) (he : PE X o ta) (ha : PA X (e :: es) t) (hjk : j ≤ k := by decide)
    (hst : starEach (e :: es) X.env = (false, eval e X.env) :: starEach es X.env := by rfl) (hpl : (backTo pos (starEach es X.env)).any (·.1) = false := by rfl)
    (ht : eval (.Call (.Attribute o m apos) (e :: es) [] pos) X.env = (do
      let ov ← eval o X.env
      standAt apos.atName
      let (f, first) ← holding [ov] (getMethod ov m pl)
      callWith pos f first (backTo pos (starEach (e :: es) X.env)) (backToKw pos (keywordEach [] X.env))) := by rfl) : PE X (.Call (.Attribute o m apos) (e :: es) [] pos) (tMethX C m sp Ex ta t) := by
  intro pins s σ H Q I h
  obtain ⟨f, fd, F, M, hb⟩ := d.ex
  refine PySem.W.methodCall_KW (pl := pl) (thn (he pins s σ H _ I h) fun u s1 ⟨x, H1, I1, rx, a, dx, fs, ex, ea, l, q⟩ => ?_) ht
  subst ex
  obtain rfl : u = Value.ref a := rx
  refine getmeth_ok I1 ea c M l ?_
  refine PySem.W.callWith_K (first := [.ref a]) (h₀ := X.base) I.ok.mod.kin M.kp (thn (ha pos pins s1 σ H1 _ I1 q) fun us s2 ⟨vs, H2, I2, r, q2⟩ => ⟨I2.kIn, ?_⟩) hst hpl
  have q3 : sp (.ref a :: vs) H2 Q (Ex σ) := q2
  have rr : Vals (V.ref a :: vs) (Value.ref a :: us) := .cons rfl r
  have hl : ((Value.ref a :: us) ++ ([] : List Value)).length = ps.length := by rw [List.append_nil, ← rr.length]; exact F.len _ _ _ _ q3
  have bb := hb s2 (.ref a :: us) I2.kIn hl
  rw [List.append_nil] at bb
  refine wpAny_call (codeAny_mono ((F.mono hjk).run X.A X.stack s2 H2 ⟨.ref a :: us, []⟩ (.ref a :: us) (.ref a :: vs) Q (Ex σ) hr I2.env0 bb rr q3) fun r s' hq => ?_)
  cases r with
  | error e => exact hx pins σ H2 s2 e s' I2 hq
  | ok fl =>
    cases fl with
    | ret u => exact I2.after hq
    | next => exact False.elim hq
    | brk => exact False.elim hq
    | cont => exact False.elim hq
end
end L2
namespace Mr
open PySem L2
/-! a grower that is handed whatever -/
def spAddX (K : PySem.W.Frag) (C c5 c7 : Addr) : Sp := fun vs H Q E => ∃ (B : Hp) (A : GrA) (x : V), vs = [.ref A.g, x] ∧
  ((∃ (l : List Nat) (c : Nat), x = .str (tx [c]) ∧ GrV B C H A l ∧ 97 ≤ c ∧ c ≤ 122 ∧ l.length < 200 ∧
      ∀ (p : Addr) (H' : Hp), H p = none → H' p = some (.tup [.int (((mirs (l ++ [c]) (l ++ [c]).length).idxOf (topL (l ++ [c])) : Nat) : Int), .bl (decide (topL (l ++ [c]) ∉ mirs l l.length))]) → GrV B C H' A (l ++ [c]) → ButG A H H' → Q (.ref p) H') ∨
   (∃ l : List Nat, GrV B C H A l ∧ Thing K H x ∧ (rowV x = false ∨ ∃ m : List Nat, x = .str (tx m) ∧ m.length ≤ 100000 ∧ m.length ≠ 1) ∧ ∀ H', Same H H' → E (.ref c5) none H') ∨
   (∃ (l : List Nat) (c : Nat), x = .str (tx [c]) ∧ GrV B C H A l ∧ 97 ≤ c ∧ c ≤ 122 ∧ l.length = 200 ∧ ∀ H', Same H H' → E (.ref c7) none H'))
def spState26 (C : Addr) : Sp := fun vs H Q _ => ∃ (B : Hp) (A : GrA) (l : List Nat), vs = [.ref A.g] ∧ GrV B C H A l ∧
  ∀ (p pe : Addr) (H' : Hp), H p = none → H pe = none → H' p = some (.tup [.str (tx l), .int ((mirs l l.length).length : Nat), .ref pe, .int ((mirs l l.length).length : Nat), .int (deepN l : Nat)]) → H' pe = some (.lst (lensV ((endsN l).take 3))) → Same H H' → Q (.ref p) H'
def spTold26 (K : PySem.W.Frag) (C : Addr) : Sp := fun vs H Q _ => ∃ (B : Hp) (A : GrA) (x : V), vs = [.ref A.g, x] ∧
  ((∃ l : List Nat, GrV B C H A l ∧ Thing K H x ∧ (rowV x = false ∨ ∃ m : List Nat, x = .str (tx m) ∧ m.length ≤ 100000 ∧ m.length ≠ 1) ∧ ∀ H', Same H H' → Q (.str ("sign" : Str)) H') ∨
   (∃ (l : List Nat) (c : Nat), x = .str (tx [c]) ∧ GrV B C H A l ∧ 97 ≤ c ∧ c ≤ 122 ∧ l.length = 200 ∧ ∀ H', Same H H' → Q (.str ("many" : Str)) H'))
end Mr

namespace L2
open PySem PySem.Spec PyProof.Rows PySem.SeqAt PySem.MeetsSeq
/-! ### xs.count(n) of ints; xs[i] op= e -/
section
variable {X : Cx}
def rCountI : V → List V → Hp → VK → Prop := fun x vs H Q => ∃ (l : Addr) (ns : List Int) (n : Int), x = .ref l ∧ vs = [.int n] ∧ H l = some (.lst (ns.map V.int)) ∧ Q (.int (ns.count n : Nat)) H
end
end L2

namespace L2
open PySem PySem.Spec PyProof.Rows PySem.SeqAt PySem.MeetsSeq
/-! ### a dict that stands at the top -/
def TopD (K : PySem.W.Frag) (a : Addr) (kvs : List (Key × V)) : Prop :=
  ∃ (o : Obj) (es : Array DictEntry) (ep : Nat) (vs : List (Key × Value)), K.lookup a = some o ∧ o.ExactDict ∧ o.data = .dict es ep ∧ (∀ (P : Program) (w : World), KeysOf (mixKind P w) es ∧ Pairs (mixKind P w) es.toList vs) ∧ (vs.map (·.1)).Nodup ∧ KV kvs vs ∧ (a == sysModules) = false
section
variable {X : Cx} {o i : Expr} {pos : Pos} {td ty : TE} {a : Addr} {kvs : List (Key × V)}
def tTGet (a : Addr) (kvs : List (Key × V)) (td ty : TE) : TE := fun σ H Q => td σ H fun x H1 => ty σ H1 fun y H2 => ∃ k v, x = .ref a ∧ y = kV k ∧ valV kvs k = some v ∧ Q v H2
end
end L2

namespace L2
open PySem PySem.Spec PyProof.Rows
/-! ### the end of a range while an exception is handled -/
theorem entry_unchain : entryFor table "proto.unchain" = some Builtin.«proto.unchain» := entryFor_of_tree (by kernel_rfl)
theorem unchain_none {prog : Program} {w : World} {A : Around} {s : Shared} {e : Value} {a : Addr} {Q : Value → Shared → Prop} {E : Value → Shared → Prop} (n : NoCtx s.heap a) (h : Q .none s) :
    wpAny (model prog w) A (holding [e] (runValue (.builtin "proto.unchain" ⟨[e, .ref a, .ref a, .bool false], []⟩))) Q E s := by
  obtain ⟨o, vs, ho, d, z⟩ := n
  refine wpAny_holding (wpAny_runValue (codeAny_builtin entry_unchain ?_))
  unfold Builtin.«proto.unchain»
  dsimp only
  refine wpAny_bind (wpAny_field ho d z ?_)
  exact wpAny_pure h
theorem range_stopH {prog : Program} {w : World} {A : Around} {E : Value → Shared → Prop} {s : Shared} {it a : Addr} {x left step : Int} {Q : Option Value → Shared → Prop} (hh : A.handled = some (.ref a)) (n : NoCtx s.heap a) (hit : IsRangeIter s.heap it x left step) (hl : left ≤ 0)
    (hQ : ∀ h', Heap.ExtBut it s.heap h' → Q none { s with heap := h' }) : wpAny (model prog w) A (pyNext (.ref it)) Q E s := by
  have T : s.TypeIs (.ref it) "range_iterator" := ⟨_, hit, rfl⟩
  have old : a < s.heap.objs.size := let ⟨_, _, e, _⟩ := n; Heap.lt_size e
  unfold pyNext
  refine wpAny_bind (wpAny_attempt (wpAny_callSpecial?_slot (name := Str.ofString "__next__") T F.slot_range_iterator_next (wpAny_call_entry F.slot_range_iterator_next T F.entry_range_iterator_next ?_ (F.args_range_iterator_next_1 _))))
  refine wpAny_bind (m := field (.ref it) 0) (wpAny_field hit rfl (x := rawInt x) rfl (wpAny_bind (m := field (.ref it) 1) (wpAny_field hit rfl (x := rawInt left) rfl (wpAny_bind (m := field (.ref it) 2) (wpAny_field hit rfl (x := rawInt step) rfl ?_)))))
  show wpAny _ _ (if left ≤ 0 then _ else _) _ _ s
  rw [if_pos hl]
  refine wpAny_bind (wpAny_rule (wpAny_bind (m := newExc (.type "StopIteration") [] >>= _) (wpAny_bind ?_)))
  unfold newExc newTuple
  refine wpAny_bind (wpAny_newObj_type (wpAny_bind (m := firstArgMember _ _) (wpAny_of_eq (a := Value.none) (by first | rfl | (simp only [firstArgMember]; rfl)) (wpAny_newObj_type ?_ (by size_fits)))) (by size_fits))
  unfold raiseNew
  refine wpAny_bind (wpAny_handled ?_)
  rw [show A.in1.handled = some (.ref a) from hh]
  dsimp only
  have ne : (Value.ref a != Value.ref (s.heap.push { cls := .type "tuple", data := .seq #[] }).objs.size) = true := by
    rw [Heap.size_push]
    simp only [bne_iff_ne, ne_eq, Value.ref.injEq]
    exact Nat.ne_of_lt (Nat.lt_succ_of_lt old)
  rw [if_pos ne]
  refine wpAny_bind (unchain_none ((n.push _).push _) ?_)
  refine wpAny_bind (m := setField (.ref _) 2 (.ref a)) (wpAny_setField (Heap.get?_push_size _ rfl) rfl (by show 2 < 6; decide) (wpAny_throw ?_))
  refine wpAny_bind (wpAny_isInstance (T := "StopIteration") (b := true) ⟨_, Heap.get?_update_self _ (Heap.get?_push_size _ rfl) rfl, rfl⟩ isSubtype_stop (wpAny_pure (hQ _ fun b o hb e => ?_)))
  have lt := Heap.lt_size e
  rw [Heap.get?_update_other _ _ (by rw [Heap.size_push]; exact Nat.ne_of_gt (Nat.lt_succ_of_lt lt))]
  exact Heap.get?_push_of_some _ (Heap.get?_push_of_some _ e)

/-- what is handled is an exception that is tracked -/
def Hand (A : Around) (H : Hp) : Prop := ∃ a cls, A.handled = some (.ref a) ∧ H a = some (excO a cls)
theorem Hand.to {A : Around} {H H' : Hp} (h : Hand A H) (k : ∀ a o, H a = some o → H' a = some o) : Hand A H' := let ⟨a, c, e, z⟩ := h; ⟨a, c, e, k _ _ z⟩
theorem Inv.noCtx {X : Cx} {pins : List (Addr × Obj)} {σ : St} {H : Hp} {s : Shared} {a : Addr} {cls : Value} (I : Inv X pins σ H s) (h : H a = some (excO a cls)) : NoCtx s.heap a := by
  obtain ⟨⟨o, p, _, vs, d, z⟩, _⟩ := (show ObjOk X.prog X.w H s.heap a (excO a cls) from I.hok a _ h)
  exact ⟨o, vs, p, d, z⟩
/-- what is walked while A stands around -/
structure TurnH (P : Program) (w : World) (K : PySem.W.Frag) (A : Around) (tg : Expr) (J : It) (fp : List Addr) (it : Addr) (tn : Nat → Heap → Prop) : Prop where
  obj : ∀ i h, tn i h → ∀ b ∈ fp, ∃ o, h.get? b = some o ∧ ∀ v, o.data ≠ .cell v
  keep : ∀ i h h', tn i h → (∀ b ∈ fp, ∀ o, h.get? b = some o → h'.get? b = some o) → tn i h'
  item : ∀ (X : Cx), X.prog = P → X.w = w → X.K = K → X.A = A → ∀ (i : Nat) (pins : List (Addr × Obj)) (s : Shared) (σ : St) (H : Hp) (E : Value → Shared → Prop), Inv X pins σ H s → (∀ b ∈ fp, FpOk X pins H b) → tn i s.heap → J.go i H →
    wpAny (model P w) X.A (pyNext (.ref it)) (fun r s1 => ∃ u, r = some u ∧ wpAny (model P w) X.A (letOwnedTupleGo tg (.ref it) u) (fun _ s2 => ∃ x H', Inv X pins σ H' s2 ∧ RelV x u ∧ J.yld i H x H' ∧ tn (i + 1) s2.heap ∧ ∀ b ∈ fp, H' b = none) E s1) E s
  done : ∀ (X : Cx), X.prog = P → X.w = w → X.K = K → X.A = A → ∀ (i : Nat) (pins : List (Addr × Obj)) (s : Shared) (σ : St) (H : Hp) (E : Value → Shared → Prop), Inv X pins σ H s → (∀ b ∈ fp, FpOk X pins H b) → tn i s.heap → J.stop i H →
    wpAny (model P w) X.A (pyNext (.ref it)) (fun r s1 => r = none ∧ Inv X pins σ H s1) E s
  self : ∀ (A : Around) (i : Nat) (s : Shared) (Q : Value → Shared → Prop) (E : Value → Shared → Prop), tn i s.heap → Q (.ref it) s → wpAny (model P w) A (pyIter (.ref it)) Q E s
/-- lo, lo + 1, .. while an exception is handled -/
def ItrH (A : Around) (lo : Int) (n : Nat) : It := ⟨fun i _ => i < n, fun i H x H' => H' = H ∧ x = .int (lo + i), fun i H => n ≤ i ∧ Hand A H⟩
theorem turnH_range {P : Program} {w : World} {K : PySem.W.Frag} {A : Around} {tg : Expr} (it : Addr) (lo : Int) (n : Nat) : TurnH P w K A tg (ItrH A lo n) [it] it (fun i h => IsRangeIter h it (lo + (i : Nat)) ((n : Int) - (i : Nat)) 1) where
  obj := fun i h st b hb => by
    obtain rfl : b = it := List.mem_singleton.mp hb
    exact ⟨_, st, fun v z => by cases (show Data.fields _ = Data.cell v from z)⟩
  keep := fun i h h' st k => k it (List.mem_singleton.mpr rfl) _ st
  item := fun X hP hw hK hA i pins s σ H E I hf st hg => by
    subst hP hw hK hA
    obtain ⟨f0, f1, f2, f3, f4, f5⟩ := hf it (List.mem_singleton.mpr rfl)
    have hg' : i < n := hg
    refine wpAny_pyNext_range_item st (by omega) fun h' st' sb => ?_
    have I1 : Inv X pins σ H { s with heap := h', toks := s.toks + 1 } := I.turned (fun b o hb e => (sb.2 b hb).trans e) f0 f1 f3 f4 f5
    refine ⟨_, rfl, go_of (s := { s with heap := h', toks := s.toks + 1 }) (n := "range_iterator") st' rfl rfl (by decide) ⟨.int (lo + i), H, I1, ⟨_, rfl⟩, ⟨rfl, rfl⟩, ?_, fun b hb => (hf b hb).1⟩⟩
    have e1 : lo + ((i + 1 : Nat) : Int) = lo + (i : Int) + 1 := by omega
    have e2 : (n : Int) - ((i + 1 : Nat) : Int) = (n : Int) - (i : Int) - 1 := by omega
    show IsRangeIter h' it (lo + ((i + 1 : Nat) : Int)) ((n : Int) - ((i + 1 : Nat) : Int)) 1
    rw [e1, e2]
    exact st'
  done := fun X hP hw hK hA i pins s σ H E I hf st hg => by
    subst hP hw hK hA
    obtain ⟨f0, f1, f2, f3, f4, f5⟩ := hf it (List.mem_singleton.mpr rfl)
    obtain ⟨hn, a, cls, hh, ha⟩ := hg
    exact range_stopH hh (I.noCtx ha) st (by omega) fun h' eb => ⟨rfl, I.turned (t' := s.toks) (fun b o hb e => eb b o hb e) f0 f1 f3 f4 f5⟩
  self := fun _ _ _ _ _ st h => wpAny_pyIter_rangeiter st h
def PIEH (X : Cx) (pins : List (Addr × Obj)) (σ : St) (tg : Expr) (R : It → Hp → Prop) (itv : Value) (s2 : Shared) : Prop :=
  ∃ (it : Addr) (fp : List Addr) (tn : Nat → Heap → Prop) (J : It) (H' : Hp), itv = .ref it ∧ Inv X pins σ H' s2 ∧ TurnH X.prog X.w X.K X.A tg J fp it tn ∧ tn 0 s2.heap ∧ (∀ b ∈ fp, FpOk X pins H' b) ∧ R J H'
def PIH (X : Cx) (tg iter : Expr) (wi : TI) : Prop :=
  ∀ (pins : List (Addr × Obj)) (s : Shared) (σ : St) (H : Hp) (R : It → Hp → Prop), Inv X pins σ H s → wi σ H R →
    wpAny (model X.prog X.w) X.A (eval iter X.env) (fun v s1 => wpAny (model X.prog X.w) X.A (pyIter v) (PIEH X pins σ tg R) X.xe s1) X.xe s
section
variable {X : Cx} {tg : Expr}
theorem range_itH {pins : List (Addr × Obj)} {σ : St} {H : Hp} {s : Shared} {R : It → Hp → Prop} {E : Value → Shared → Prop} {hi : Int} {t u v : Tok} {tk : Nat} (I : Inv X pins σ H s) (h3 : -(2 ^ 62) ≤ hi) (h4 : hi < 2 ^ 62)
    (q : R (ItrH X.A 0 hi.toNat) H) : wpAny (model X.prog X.w) X.A (pyIter (.ref s.heap.objs.size)) (PIEH X pins σ tg R) E { s with heap := s.heap.push { cls := .type "range", data := .fields #[.int 0 t, .int hi u, .int 1 v] }, toks := tk } := by
  refine wpAny_pyIter_range (IsRange.new ..) (small_one (by omega) (by omega) h3 h4) ?_
  generalize hG : s.heap.push { cls := .type "range", data := .fields #[.int 0 t, .int hi u, .int 1 v] } = G
  have I1 : Inv X pins σ H { s with heap := G, toks := tk } := I.kept fun b o e => hG ▸ Heap.get?_push_of_some _ e
  refine ⟨G.objs.size, [G.objs.size], _, _, H, rfl, I1.kept (t' := tk) fun b o e => Heap.get?_push_of_some _ e, turnH_range _ 0 hi.toNat, ?_, fun b hb => ?_, q⟩
  · have e2 : ((hi.toNat : Nat) : Int) - ((0 : Nat) : Int) = Builtin.Range.rangeSize 0 hi 1 := by rw [rangeSize_one]; split <;> omega
    show IsRangeIter _ _ (0 + ((0 : Nat) : Int)) (((hi.toNat : Nat) : Int) - ((0 : Nat) : Int)) 1
    rw [e2, show (0 : Int) + ((0 : Nat) : Int) = 0 from rfl]
    exact Heap.get?_push_size _ rfl
  · obtain rfl : b = G.objs.size := List.mem_singleton.mp hb
    exact I1.fpOk (Nat.le_refl _) (I1.hok.fresh (Nat.le_refl _))
def iRngH (A : Around) (ta : TA) : TI := fun σ H R => ta σ H fun vs H1 => ∃ j : Int, vs = [.int j] ∧ -(2 ^ 62) ≤ j ∧ j < 2 ^ 62 ∧ R (ItrH A 0 j.toNat) H1
theorem pi_rangeH {A : Around} (hA : X.A = A) {a : Expr} {ta : TA} {p pos : Pos} (hg : Gl X "range") (hm : X.mg "range" = none) (ha : PA X [a] ta) (hs : starEach [a] X.env = [(false, eval a X.env)] := by rfl) : PIH X tg (.Call (.Name "range" p) [a] [] pos) (iRngH A ta) := by
  subst hA
  intro pins s σ H R I h
  refine Call_ (ld_blt I hg hm boot_range (PyProof.Rows.callWith_type1 (thn (ha pos pins s σ H _ I h) fun us s1 ⟨vs, H1, I1, r1, q1⟩ => ?_) hs rfl))
  obtain ⟨j, rfl, q1, q2, q⟩ := q1
  obtain ⟨u, rfl, r⟩ := r1.one
  obtain ⟨t, rfl⟩ := r
  exact call_range_1 (range_itH I1 q1 q2 q)
end
section
variable {X : Cx} {scope : Scope} {cl : List (Str × Addr)} {x : Str} {ys : List Str} {ix : List Nat}
theorem pe_compH {elt iter : Expr} {ifs : List Expr} {px pos : Pos} {wi : TI} {tt : TT} {te : TE} (n : CompNames X scope cl x ys ix) (hi : PIH X (.Name x px) iter wi)
    (ht : ∀ C fp s H, PTs (cmpCx X (x :: ys) scope cl C fp s H) ifs tt) (he : ∀ C fp s H, PE (cmpCx X (x :: ys) scope cl C fp s H) elt te)
    (hs : ∀ x, foldedSetIterable iter X.env x = pure x := by intro _; rfl) : PE X (.ListComp elt [⟨.Name x px, iter, ifs, 0⟩] scope pos) (tComp wi ix tt te) := by
  intro pins s σ H Q I h
  rw [eval_ListComp]
  refine wpAny_comprehension_free (use := none) rfl hs n.clos n.kind n.names' (thn (hi pins s σ H _ I h) fun v s1 h1 => thn h1 fun itv s2 h2 => ?_)
  obtain ⟨it, fp, tn, J, H2, e, I2, T, st2, f2, W, ⟨m0, w0⟩, turn⟩ := h2
  subst e
  have fo : ∀ b ∈ fp, b < s2.heap.objs.size := fun b hb => let ⟨_, e, _⟩ := T.obj _ _ st2 b hb; Heap.lt_size e
  refine wpAny_newObj_type (wpAny_newFunctionEnv n.cell' (by intro y hy; simp at hy) (fun h₁ hns₁ hsb₁ => ?_) n.kind)
  dsimp only at hns₁ hsb₁ ⊢
  generalize hH3 : s2.heap.push { cls := .type "list", dict := none, data := .seq ([] : List Value).toArray } = G at hns₁ hsb₁ ⊢
  have hC : G.objs.size = s2.heap.objs.size + 1 := by rw [← hH3, Heap.size_push]
  have hDC : s2.heap.objs.size ≠ G.objs.size := by rw [hC]; exact Nat.ne_of_lt (Nat.lt_succ_self _)
  have hCle : s2.heap.objs.size ≤ G.objs.size := by rw [hC]; exact Nat.le_succ _
  have below : ∀ b, b < s2.heap.objs.size → b ≠ G.objs.size ∧ b ≠ s2.heap.objs.size := fun b hb => ⟨by rw [hC]; exact Nat.ne_of_lt (Nat.lt_succ_of_lt hb), Nat.ne_of_lt hb⟩
  have old : ∀ b o, s2.heap.get? b = some o → h₁.get? b = some o := fun b o e => hsb₁.extBut b o (below b (Heap.lt_size e)).1 (Heap.get?_push_of_some _ (hH3 ▸ Heap.get?_push_of_some _ e))
  have hacc : h₁.get? s2.heap.objs.size = some { cls := .type "list", data := .seq ([] : List Value).toArray 0 } := hsb₁.extBut _ _ hDC (Heap.get?_push_of_some _ (hH3 ▸ Heap.get?_push_size _ rfl))
  have st1 : tn 0 h₁ := T.keep _ _ _ st2 fun b _ o e => old b o e
  have stat : ∀ {H' : Hp} {ob : Obj}, (∀ b ∈ fp, H' b = none) → ∀ b ∈ fp, FpOk (cmpCx X (x :: ys) scope cl G.objs.size fp s2 H2) [(s2.heap.objs.size, ob)] H' b := fun {H' ob} hn b hb =>
    ⟨hn b hb, (below b (fo b hb)).1, fun z => by
      rcases List.mem_cons.mp (I2.stkSub b z) with e | e
      · exact (f2 b hb).2.1 e
      · exact (f2 b hb).2.2.1 e, .inl hb, fun y c e => (f2 b hb).2.2.2.2.1 y c (n.sub' y c e), fun p hp => by
      have hp' : p ∈ [(s2.heap.objs.size, ob)] := hp
      have e := List.mem_singleton.mp hp'
      subst e
      exact Ne.symm (below b (fo b hb)).2⟩
  have hfin : ∀ (s4 : Shared) (H3 : Hp) (zs : List V) (its : List Value) (k : Nat) (m' : Str → Option Value), Inv (cmpCx X (x :: ys) scope cl G.objs.size fp s2 H2) [(s2.heap.objs.size, { cls := .type "list", data := .seq its.toArray k })] (cst ix σ) H3 s4 → Vals zs its →
      zs.length ≤ sizeLine → (∀ p, H3 p = none → Q (.ref p) (upd H3 p (.lst zs))) → compPost (model X.prog X.w) X.A X.xe none (EP X pins σ Q) (.ref s2.heap.objs.size) G.objs.size (.ok .next) s4 := by
    intro s4 H3 zs its k m' I4 rv hz q
    obtain ⟨m4, hn4, _⟩ := I4.loc
    refine ⟨m4, hn4, fun h' hs' => ?_⟩
    obtain ⟨eD, nD, _, _, _⟩ := I4.pin (s2.heap.objs.size, { cls := .type "list", data := .seq its.toArray k }) (by show _ ∈ [] ++ [_]; simp)
    have nC : H3 G.objs.size = none := I4.free
    have kp : ∀ b o, b ≠ G.objs.size → s4.heap.get? b = some o → h'.get? b = some o := fun b o hb e => hs'.extBut b o hb e
    have hok : HOk X.prog X.w (upd H3 s2.heap.objs.size (.lst zs)) h' := fun b u e => by
      by_cases hb : b = s2.heap.objs.size
      · subst hb
        rw [upd_same] at e
        cases e
        exact ⟨hz, its, k, rv, kp _ _ hDC eD⟩
      · rw [upd_ne hb] at e
        exact (I4.hok b u e).stay (fun c w hc qq => kp c w (by
          rcases hc with z | z
          · intro y; rw [y] at z; rw [← z, nC] at e; cases e
          · exact ne_of_none z nC) qq) (fun c qq => by rw [upd_ne (ne_of_none qq nD)]; exact qq) fun c xs qq => by rw [upd_ne (ne_of_none qq nD)]; exact qq
    have un : Un (frs X.stack) fp H2 (upd H3 s2.heap.objs.size (.lst zs)) s2.heap h' := by
      have u4 : Un (frs X.stack) fp H2 H3 s2.heap s4.heap := I4.base
      refine ⟨fun b o e nn hb hx => kp b o (below b (Heap.lt_size e)).1 (u4.keep b o e nn hb hx), fun b o e nn hb hx => ?_, fun b o e nn hx => ?_, fun b o e hx => ?_, fun b xs e => ?_, fun b o u e => ?_, fun b ps e => ?_⟩
      · obtain ⟨sl, e1⟩ := u4.slot b o e nn hb hx
        exact ⟨sl, kp _ _ (below b (Heap.lt_size e)).1 e1⟩
      · rw [upd_ne (below b (Heap.lt_size e)).2]
        exact u4.free b o e nn hx
      · obtain ⟨o', e1⟩ := u4.there b o e hx
        exact ⟨o', kp _ _ (below b (Heap.lt_size e)).1 e1⟩
      · have z := u4.tups b xs e
        rw [upd_ne (ne_of_none z nD)]
        exact z
      · have z := u4.frzs b o u e
        rw [upd_ne (ne_of_none z nD)]
        exact z
      · obtain ⟨more, z⟩ := u4.tbls b ps e
        exact ⟨more, by rw [upd_ne (ne_of_none z nD)]; exact z⟩
    exact ⟨.ref s2.heap.objs.size, upd H3 s2.heap.objs.size (.lst zs), I2.call' (s' := { s4 with heap := h' }) (ch := fp) I4.os un hok I4.bare (fun b hb => ⟨(f2 b hb).2.2.2.1, (f2 b hb).2.1, (f2 b hb).2.2.2.2.1, (f2 b hb).2.2.2.2.2⟩), rfl, q _ nD⟩
  have loop : ∀ s₃ : Shared, s₃ = { s2 with heap := h₁, toks := s2.toks + ([] : List (Str × Value)).length } →
      codeAny (model X.prog X.w) X.A (.compLoop (.ListComp elt [⟨.Name x px, iter, ifs, 0⟩] scope pos) 0 (.ref it) (.ref s2.heap.objs.size) (compEnvC scope cl G.objs.size X.env))
        (compPost (model X.prog X.w) X.A X.xe none (EP X pins σ Q) (.ref s2.heap.objs.size) G.objs.size) s₃ := by
    rintro s₃ rfl
    refine codeAny_compLoop_tests (fun m s' => ∃ (i : Nat) (zs : List V) (its : List Value) (k : Nat) (H' : Hp),
        Inv (cmpCx X (x :: ys) scope cl G.objs.size fp s2 H2) [(s2.heap.objs.size, { cls := .type "list", data := .seq its.toArray k })] (cst ix σ) H' s' ∧ Vals zs its ∧ tn i s'.heap ∧ (∀ b ∈ fp, H' b = none) ∧ W i m zs H') ?_ m0
      ⟨0, [], [], 0, H2, cmp_start n I2 f2 fo (Nat.le_refl _) hCle hDC old hns₁ hacc (fun v z => by cases z), .nil, st1, fun b hb => (f2 b hb).1, w0⟩
    rintro m s3 ⟨i, zs, its, k, H3, I3, rv, st3, fr3, w3⟩
    rcases turn i m zs H3 w3 with ⟨stop, hz, qn⟩ | ⟨go, hz, step⟩
    · refine nof (thn (T.done (cmpCx X (x :: ys) scope cl G.objs.size fp s2 H2) rfl rfl rfl rfl i _ s3 _ H3 _ I3 (stat fr3) st3 stop) fun r s4 ⟨hr, I4⟩ => ?_)
      subst hr
      exact hfin s4 H3 zs its k (fun _ => none) I4 rv hz qn
    · refine nof (thn (T.item (cmpCx X (x :: ys) scope cl G.objs.size fp s2 H2) rfl rfl rfl rfl i _ s3 _ H3 _ I3 (stat fr3) st3 go) fun r s4 ⟨u, hr, h4⟩ => ?_)
      subst hr
      have go_on : ∀ {s5 s7 : Shared} {y : V} {H5 H7 : Hp}, (∀ b ∈ fp, H5 b = none) → tn (i + 1) s5.heap → Inv (cmpCx X (x :: ys) scope cl G.objs.size fp s2 H2) ([(s2.heap.objs.size, { cls := .type "list", data := .seq its.toArray k })] ++ pinsAt fp s5.heap) ((cst ix σ).set 0 (some y)) H7 s7 →
          Inv (cmpCx X (x :: ys) scope cl G.objs.size fp s2 H2) [(s2.heap.objs.size, { cls := .type "list", data := .seq its.toArray k })] (cst ix σ) H7 s7 ∧ tn (i + 1) s7.heap ∧ (∀ b ∈ fp, H7 b = none) := by
        intro s5 s7 y H5 H7 fr5 st5 I7
        have pn : ∀ b o, b ∈ fp → s5.heap.get? b = some o → s7.heap.get? b = some o ∧ H7 b = none := fun b o hb e => by
          have z := I7.pin (b, o) (List.mem_append_right _ (List.mem_append_right _ (mem_pinsAt hb e)))
          exact ⟨z.1, z.2.1⟩
        refine ⟨(I7.weak (σ' := cst ix σ) (by simp) fun j v e => ?_).unpinned, T.keep _ _ _ st5 fun b hb o e => (pn b o hb e).1, fun b hb => ?_⟩
        · cases j with
          | zero =>
            have e' : (none : Option V) = some v := Option.some.inj e
            cases e'
          | succ j => simpa [cst] using e
        · obtain ⟨o, e, _⟩ := T.obj _ _ st5 b hb
          exact (pn b o hb e).2
      have e0 : (letOwnedTupleGo (.Name x px) (.ref it) u >>= fun _ => assign (.Name x px) (compEnvC scope cl G.objs.size X.env) u) = assign (.Name x px) (compEnvC scope cl G.objs.size X.env) u := rfl
      show wpAny _ _ (assign (.Name x px) (compEnvC scope cl G.objs.size X.env) u) _ _ s4
      rw [← e0]
      refine nof (wpAny_bind (thn h4 fun _ s5 ⟨y, H5, I5, r5, y5, st5, fr5⟩ => ?_))
      have I5' := I5.pinned (stat fr5) (T.obj _ _ st5)
      have lx : (relabel scope X.env).names.lookup x = some .local := lookup_relabel_local n.hx
      have pg : PG (cmpCx X (x :: ys) scope cl G.objs.size fp s2 H2) (.Name x px) (gName 0) := pg_name n.nd rfl (.inl lx) (.inr lx)
      refine thn (pg _ s5 _ H5 y u (fun σ' H' => σ' = (cst ix σ).set 0 (some y) ∧ H' = H5) I5' r5 ⟨rfl, rfl⟩) fun _ s6 ⟨σ6, H6, I6, e6, e6'⟩ => ?_
      subst e6 e6'
      refine nof (thn (ht _ _ _ _ _ s6 _ _ _ I6 (step y _ y5)) fun b s7 ⟨H7, I7, q7⟩ => ?_)
      cases b with
      | false =>
        rw [if_neg (by decide)] at q7 ⊢
        obtain ⟨m', hm, w7⟩ := q7
        obtain ⟨I8, st8, fr8⟩ := go_on fr5 st5 I7
        exact ⟨m', hm, i + 1, zs, its, k, H7, I8, rv, st8, fr8, w7⟩
      | true =>
        rw [if_pos rfl] at q7 ⊢
        refine nof (thn (he _ _ _ _ _ s7 _ _ _ I7 q7) fun v8 s8 ⟨z8, H8, I8, r8, m', hm, w8⟩ => ?_)
        obtain ⟨I9, st9, fr9⟩ := go_on fr5 st5 I8
        obtain ⟨eD, nD, neL, _, _⟩ := I9.pin (s2.heap.objs.size, { cls := .type "list", data := .seq its.toArray k }) (by show _ ∈ [] ++ [_]; simp)
        refine append_at eD (fun h' hs' hD' => ?_) (by rw [List.size_toArray, ← rv.length]; exact hz)
        have kp : ∀ b o, b ≠ s2.heap.objs.size → s8.heap.get? b = some o → h'.get? b = some o := fun b o hb e => hs'.extBut b o hb e
        have lt_cell : ∀ y c, cl.lookup y = some c → c ≠ s2.heap.objs.size := fun y c e => by
          obtain ⟨v, q⟩ := I2.cell y c (n.sub' y c e)
          exact Nat.ne_of_lt q.lt
        have nst : s2.heap.objs.size ∉ frs X.stack := fun z => by
          rcases List.mem_cons.mp (I2.stkSub _ z) with e | e
          · exact absurd (Nat.lt_of_lt_of_le I2.lt (by rw [← e]; exact Nat.le_refl _)) (Nat.lt_irrefl _)
          · exact I2.nofs (Nat.le_refl _) e
        have I10 : Inv (cmpCx X (x :: ys) scope cl G.objs.size fp s2 H2) [] (cst ix σ) H8 { s8 with heap := h', toks := s8.toks } :=
          (I9.pins_of (pins' := []) fun p hp => absurd hp (by simp)).turned (it := s2.heap.objs.size) kp nD neL (.inr (Nat.le_refl _)) lt_cell fun p hp => absurd (show p ∈ ([] : List (Addr × Obj)) from hp) (by simp)
        refine ⟨m', hm, i + 1, zs ++ [z8], its ++ [v8], k + 1, H8, I10.pins_of fun p hp => ?_, rv.append (.cons r8 .nil), T.keep _ _ _ st9 fun b hb o e => kp b o (below b (fo b hb)).2 e, fr9, w8⟩
        have e := List.mem_singleton.mp hp
        subst e
        refine ⟨?_, nD, hDC, nst, fun v z => by cases z⟩
        rw [← List.push_toArray]
        exact hD'
  exact codeAny_compStart_list (loop _ rfl) (T.self X.A 0 _ _ _ st1 (loop _ rfl))
end
/-- [.. for x in range(n) if ..] while an exception is handled, as one uses it -/
theorem comp_rangeH {A : Around} {lo : Int} {n : Nat} {σ : St} {ix : List Nat} {tt : TT} {te : TE} {H : Hp} {Z : List V → Hp → Prop} (hl : n ≤ sizeLine) (Pv : Nat → List V → Hp → Prop) (h0 : Pv 0 [] H) (hh : ∀ ys H, Pv n ys H → Hand A H)
    (hs : ∀ i ys H (N : List V → Hp → Prop), i < n → ys.length ≤ i → Pv i ys H → (∀ ys' H', ys'.length ≤ i + 1 → Pv (i + 1) ys' H' → N ys' H') →
      tt ((cst ix σ).set 0 (some (.int (lo + i)))) H fun b H4 => if b = true then te ((cst ix σ).set 0 (some (.int (lo + i)))) H4 fun v H5 => N (ys ++ [v]) H5 else N ys H4)
    (hd : ∀ ys H, ys.length ≤ n → Pv n ys H → Z ys H) :
    ∃ W : Nat → Nat → List V → Hp → Prop, (∃ m, W 0 m [] H) ∧ ∀ i m ys H2, W i m ys H2 →
      ((ItrH A lo n).stop i H2 ∧ ys.length ≤ sizeLine ∧ Z ys H2) ∨
      ((ItrH A lo n).go i H2 ∧ ys.length ≤ sizeLine ∧ ∀ x H3, (ItrH A lo n).yld i H2 x H3 → tt ((cst ix σ).set 0 (some x)) H3 fun b H4 =>
        if b = true then te ((cst ix σ).set 0 (some x)) H4 fun v H5 => ∃ m', m' < m ∧ W (i + 1) m' (ys ++ [v]) H5 else ∃ m', m' < m ∧ W (i + 1) m' ys H4) := by
  refine ⟨fun i m ys H => m = n - i ∧ i ≤ n ∧ ys.length ≤ i ∧ Pv i ys H, ⟨n, by simp, Nat.zero_le _, Nat.le_refl _, h0⟩, ?_⟩
  rintro i m ys H ⟨rfl, hi, hy, p⟩
  by_cases hlt : i < n
  · refine .inr ⟨hlt, by omega, fun x H' y => ?_⟩
    obtain ⟨e, e2⟩ := y
    subst e e2
    exact hs i ys _ (fun ys' H5 => ∃ m', m' < n - i ∧ m' = n - (i + 1) ∧ i + 1 ≤ n ∧ ys'.length ≤ i + 1 ∧ Pv (i + 1) ys' H5) hlt hy p fun ys' H' h1 h2 => ⟨n - (i + 1), by omega, rfl, hlt, h1, h2⟩
  · have e : i = n := by omega
    subst e
    exact .inl ⟨⟨Nat.le_refl _, hh ys H p⟩, by omega, hd ys H hy p⟩
/-! ### a def that is called while an exception is handled -/
structure FnOkH (P : Program) (w : World) (K : PySem.W.Frag) (mg : Str → Option Value) (base : Heap) (k : Nat) (f : Addr) (fd : FuncData) (ps : List Str) (sp : Sp) : Prop where
  len : ∀ vs H Q E, sp vs H Q E → vs.length = ps.length
  run : ∀ (A : Around) (outer : List Env) (s : Shared) (H : Hp) (args : Args) (us : List Value) (vs : List V) (Q : VK) (E : XK), RoomN k A → Hand A H → Env0 P w K mg base A outer s H → BindsTo s fd args (ps.zip us) → Vals vs us → sp vs H Q E →
    codeAny (model P w) A (.call (.ref f) args) (CR CX0 outer P w H s Q E) s
theorem FnOkH.mono {P : Program} {w : World} {K : PySem.W.Frag} {mg : Str → Option Value} {base : Heap} {j k : Nat} {f : Addr} {fd : FuncData} {ps : List Str} {sp : Sp} (F : FnOkH P w K mg base j f fd ps sp) (h : j ≤ k) :
    FnOkH P w K mg base k f fd ps sp := ⟨F.len, fun A outer s H args us vs Q E hr => F.run A outer s H args us vs Q E (hr.mono h)⟩
structure DfH (P : Program) (w : World) (K : PySem.W.Frag) (mg : Str → Option Value) (base : Heap) (k : Nat) (x : Str) (ps : List Str) (sp : Sp) : Prop where
  ex : ∃ (f : Addr) (fd : FuncData), FnOkH P w K mg base k f fd ps sp ∧ mg x = some (.ref f) ∧ PySem.W.keepIn K (.ref f) = true ∧ Binds K fd ps []
def tCallH (A : Around) (sp : Sp) (t : TA) : TE := fun σ H Q => t σ H fun vs H1 => Hand A H1 ∧ sp vs H1 Q E0
section
variable {P : Program} {w : World} {K : PySem.W.Frag} {mg : Str → Option Value} {base : Heap}
theorem At.dfh {k : Nat} {x : Str} {st : Stmt} {ps : List Str} {sp : Sp} (a : At K mg x st ps) (h : ∀ f fd, Fun K x x st f fd → FnOkH P w K mg base k f fd ps sp) : DfH P w K mg base k x ps sp :=
  let ⟨f, fd, F, m, b⟩ := a.ex
  ⟨f, fd, h f fd F, m, F.kp, .all b⟩
/-- THE RULE for a def that is called while an exception is handled -/
theorem Fun.okh {x qual : Str} {st : Stmt} {f : Addr} {fd : FuncData} {N ps : List Str} {k : Nat} {sp : Sp} (F : Fun K x qual st f fd) (S : FnScope N ps (defScope st)) (len : ∀ vs H Q E, sp vs H Q E → vs.length = ps.length)
    (hbody : ∀ (cdv : Value) (A : Around) (outer : List Env) (s : Shared) (H : Hp) (vs : List V) (Q : VK) (E : XK), RoomN k (A.deeper (envOfC qual (defScope st) s.heap.objs.size f cdv)) → Hand A H → sp vs H Q E →
      ∃ t, PSs (cxN P w K mg base N qual (defScope st) f cdv A outer s H) (defBody st) t ∧ t { nx := fun _ H' => Q .non H', rt := Q } (start N vs) H) : FnOkH P w K mg base (k + 1) f fd ps sp := by
  obtain ⟨oc, od, kV, doc, pm, an, cdv, ct, osl, rfl, lk, hcd⟩ := F.ex
  refine ⟨len, fun A outer s H args us vs Q E hr hd e0 hb r hsp => ?_⟩
  have hl := len _ _ _ _ hsp
  have KX : K.In s.heap := e0.mod.kin.keeps fun b o e => (e0.bs b o e).1
  have lim : s.heap.NoLimit := e0.mod.nolimit.keeps fun b o e => (e0.bs b o e).1
  have hkind : ∀ y ∈ ps.zip us, (defScope st).names.lookup y.1 = some .local ∨ ((defScope st).names.lookup y.1 = some .cell ∧ ((cellsFrom (s.heap.objs.size + 1) (defScope st).names []).lookup y.1).isSome = true) := fun ⟨n, v⟩ hy => by
    rcases S.par n (List.of_mem_zip hy).1 with q | q
    · exact .inl q
    · exact .inr ⟨q, PySem.W.cellsFrom_some _ _ _ (.inl q)⟩
  refine codeAny_call_function hr.depth (KX _ _ lk) rfl S.co S.gen rfl (PySem.W.codeRec_of KX hcd) (hb _ _ _ _ ?_)
  refine wpAny_newFunctionEnv_cells S.kind hkind fun env he s1 x => ?_
  subst he
  refine ⟨lim.keeps x.toInCall.keep, codeAny_func ?_⟩
  obtain ⟨t, ht, hq⟩ := hbody cdv A outer s H vs Q E (hr.deeper _) hd hsp
  have e1 : Env0 P w K mg base { A with handled := none } outer s H := ⟨e0.frames, e0.mod, e0.bs, e0.bsz, e0.funs, e0.frf, e0.hok, e0.bare⟩
  have I0 : Inv (cxOf CX0 P w K mg base N qual (defScope st) f cdv { A with handled := none } outer s H E0) [] (start N vs) H s1 := inv_start S rfl e1 hl r x
  have ok := I0.ok
  have I : Inv (cxN P w K mg base N qual (defScope st) f cdv A outer s H) [] (start N vs) H s1 :=
    ⟨⟨ok.mod, ok.kind, ok.glob, ok.blt, ok.above, ok.inj, ok.has, ok.cab, (fun z => by cases z), ok.frames, ok.stk, ok.exf, ok.bs, ok.bsz, ok.noex, ok.exfs, ok.funs, ok.frf⟩, I0.os, I0.bare, I0.base, I0.loc, I0.cell, I0.free, I0.freeC, I0.pin, I0.hok, I0.len⟩
  refine wpAny_mono (ht [] s1 (start N vs) H _ I hq) (fun fl s' hs => ?_) fun e s' hs => hs.elim
  cases fl with
  | ret u =>
    obtain ⟨v, σ', H', J, rv, q⟩ := hs
    exact ⟨v, H', J.os, J.bare, J.base, J.hok, rv, q⟩
  | next =>
    obtain ⟨σ', H', J, q⟩ := hs
    exact ⟨V.non, H', J.os, J.bare, J.base, J.hok, rfl, q⟩
  | brk =>
    obtain ⟨_, _, _, q⟩ := hs
    exact False.elim q
  | cont =>
    obtain ⟨_, _, _, q⟩ := hs
    exact False.elim q
end
section
variable {X : Cx} {k j : Nat} {x : Str} {ps : List Str} {sp : Sp} {e : Expr} {es : List Expr} {p pos : Pos} {t : TA}
theorem pe_dfh {A : Around} (hA : X.A = A) (d : DfH X.prog X.w X.K X.mg X.base j x ps sp) (hr : RoomN k X.A) (hg : Gl X x) (ha : PA X (e :: es) t) (hjk : j ≤ k := by decide) (hdb : (x == ("__debug__" : Str)) = false := by decide)
    (he : starEach (e :: es) X.env = (false, eval e X.env) :: starEach es X.env := by rfl) (hpl : (backTo pos (starEach es X.env)).any (·.1) = false := by rfl) : PE X (.Call (.Name x p) (e :: es) [] pos) (tCallH A sp t) := by
  intro pins s σ H Q I h
  obtain ⟨f, fd, F, hm, hk, hb⟩ := d.ex
  refine wpAny_Call_Name_kw (ld_glob I hg hm ?_ hdb)
  refine PySem.W.callWith_K (h₀ := X.base) I.ok.mod.kin hk (thn (ha pos pins s σ H _ I h) fun us s1 ⟨vs, H1, I1, r, q⟩ => ⟨I1.kIn, ?_⟩) he hpl
  obtain ⟨hd, q⟩ := q
  have hl : (us ++ ([] : List Value)).length = ps.length := by rw [List.append_nil, ← r.length]; exact F.len _ _ _ _ q
  have bb := hb s1 us I1.kIn hl
  rw [List.append_nil] at bb
  refine wpAny_call (codeAny_mono ((F.mono hjk).run X.A X.stack s1 H1 ⟨us, []⟩ us vs Q E0 hr (hA ▸ hd) I1.env0 bb r q) fun r s' hq => ?_)
  cases r with
  | error e => exact False.elim hq
  | ok fl =>
    cases fl with
    | ret u => exact I1.after hq
    | next => exact False.elim hq
    | brk => exact False.elim hq
    | cont => exact False.elim hq
end
/-! ### the name of an exception, where a comprehension of the suite reads it: it lies in a cell -/
section
variable {X : Cx} {pins : List (Addr × Obj)} {σ : St} {H : Hp} {s : Shared}
/-- the cell of a name without a value may hold what it will -/
theorem Inv.emptied {i : Nat} {x : Str} {c : Addr} {v0 v1 : Option Value} {h' : Heap} (I : Inv X pins σ H s) (hN : X.N.Nodup) (hi : X.N[i]? = some x) (hσ : σ[i]? = some none) (hfn : X.fn x = true) (hc : X.env.cells.lookup x = some c) (z0 : s.heap.IsCell c v0) (z1 : h'.IsCell c v1) (sb : Heap.SameBut c s.heap h') : Inv X pins σ H { s with heap := h' } := by
  have young : ∀ b o, X.s₀.heap.get? b = some o → b ≠ c := fun b o e => Nat.ne_of_lt (Nat.lt_of_lt_of_le (Heap.lt_size e) (I.ok.cab x c hfn hc))
  obtain ⟨m, hn, hl⟩ := id I.loc
  obtain ⟨oc, ho, hd⟩ := id z0
  refine ⟨I.ok, I.os, I.bare, ⟨fun b o e n hb hx => (sb.2 b (young b o e)).trans (I.base.keep b o e n hb hx), fun b o e n hb hx => ?_, I.base.free, fun b o e hx => ?_, I.base.tups, I.base.frzs, I.base.tbls⟩,
    ⟨m, hn.sameBut sb (Ne.symm (I.cne x c hc)), fun j y v' e1 e2 e3 => ?_⟩, fun y c' e => ?_, I.free, I.freeC, fun p hp => ?_, fun b ob e => ?_, I.len⟩
  · obtain ⟨sl, e1⟩ := I.base.slot b o e n hb hx
    exact ⟨sl, (sb.2 b (young b o e)).trans e1⟩
  · obtain ⟨o', e1⟩ := I.base.there b o e hx
    exact ⟨o', (sb.2 b (young b o e)).trans e1⟩
  · obtain ⟨u', r', q⟩ := hl j y v' e1 e2 e3
    refine ⟨u', r', q.imp id fun ⟨k, c', e, z'⟩ => ⟨k, c', e, z'.sameBut sb fun z => ?_⟩⟩
    subst z
    have hj := nodup_ix hN e1 (I.ok.inj _ _ _ e hc ▸ hi)
    subst hj
    rw [hσ] at e2
    cases e2
  · by_cases hcc : c' = c
    · exact ⟨v1, hcc ▸ z1⟩
    · obtain ⟨w2, z2⟩ := I.cell y c' e
      exact ⟨w2, z2.sameBut sb hcc⟩
  · obtain ⟨e, n, ne, nf, d⟩ := I.pin p hp
    refine ⟨(sb.2 p.1 fun q => ?_).trans e, n, ne, nf, d⟩
    rw [q, ho] at e
    exact d v0 (by rw [← Option.some.inj e]; exact hd)
  · refine (I.hok b ob e).stay (fun d w' hd' q => (sb.2 d fun z => ?_).trans q) (fun _ q => q) fun _ _ q => q
    have fr := I.freeC x c hc
    subst z
    rcases hd' with z | z
    · rw [z] at fr; rw [fr] at e; cases e
    · rw [fr] at z; cases z
theorem name_goneC {M : Model} {A : Around} {E : Value → Shared → Prop} {i : Nat} {x : Str} {pos : Pos} {Q : Unit → Shared → Prop} (I : Inv X pins σ H s) (hN : X.N.Nodup) (hi : X.N[i]? = some x) (hk : X.env.kindOf x = some .cell) (hfn : X.fn x = true)
    (h : ∀ s', Inv X pins (σ.set i none) H s' → Q () s') : wpAny M A (do bindName X.env x .none; unbindBehindTheSuite X.env x pos) Q E s := by
  have hiσ : i < σ.length := by rw [I.len]; exact (List.getElem?_eq_some_iff.mp hi).1
  refine wpAny_bind (wpAny_bindName (store_ok I hN hi (.inr hk) (v := .non) rfl (fun s1 I1 => ?_) (.inl hfn)))
  obtain ⟨c, hc⟩ := I1.ok.has x (.inl hk)
  obtain ⟨m, _, hl⟩ := id I1.loc
  obtain ⟨u, _, look⟩ := hl i x .non hi (List.getElem?_set_self hiσ) (.inr (.inl hk))
  have z0 : s1.heap.IsCell c (some u) := by
    rcases look with ⟨k, _⟩ | ⟨_, c', e, z⟩
    · rw [hk] at k; cases k
    · rw [hc] at e; cases e; exact z
  unfold unbindBehindTheSuite unbindName deleteName
  refine wpAny_onRaise (wpAny_bind (wpAny_point (wpAny_bind ?_)))
  simp only [hk]
  refine wpAny_bind (wpAny_cellOf hc (wpAny_bind (wpAny_cellGet z0 ?_)))
  simp only [Option.isSome_some, if_true]
  refine wpAny_cellSet (v := none) z0 fun h' z1 sb => wpAny_point (h _ ?_)
  have I2 : Inv X pins (σ.set i none) H s1 := I1.weak (by simp) fun j v e => by
    by_cases hj : i = j
    · subst hj; rw [List.getElem?_set_self hiσ] at e; cases e
    · rw [List.getElem?_set_ne hj] at e ⊢; exact e
  exact I2.emptied hN hi (List.getElem?_set_self hiσ) hfn hc z0 z1 sb
end
/-! ### try: .. except C as n: .., the suite knows what is handled -/
def tTryE (tb : XS → TS) (K : PySem.W.Frag) (R : Value) (i : Nat) (ts : Value → TS) : TS := fun D σ H => ∃ Ex : XS, tb Ex D σ H ∧ ∀ σ' cls H', Ex σ' cls none H' → PySem.W.exmOne K cls R = some true ∧ ∀ a, H' a = none →
  ts (.ref a) { nx := fun σ2 H2 => D.nx (σ2.set i none) H2, rt := D.rt, bk := fun σ2 H2 => D.bk (σ2.set i none) H2, ct := fun σ2 H2 => D.ct (σ2.set i none) H2 } (σ'.set i (some (.ref a))) (upd H' a (excO a cls))
section
variable {X : Cx} {Ex : XS} {pins : List (Addr × Obj)} {tb : XS → TS} {ts : Value → TS} {c n : Str} {i : Nat} {R : Addr} {body suite : List Stmt} {b₀ : Stmt} {np hpos pos : Pos}
theorem ps_tryE (stk : X.stack = X.env :: X.outer) (hfr : X.env.frame = some X.env.locals) (hN : X.N.Nodup) (hi : X.N[i]? = some n) (hk : X.env.kindOf n = some .cell) (hfn : X.fn n = true) (hg : Gl X c) (hm : X.mg c = some (.ref R))
    (hb : ∀ pins Ex, PSs (X.tryX pins Ex) body (tb Ex)) (hs : ∀ e, PSs (X.inExc e) (b₀ :: suite) (ts e)) (hdb : (c == ("__debug__" : Str)) = false := by decide) :
    PS X (.Try body [.ExceptHandler (some (.Name c np)) (some n) (b₀ :: suite) hpos] [] [] pos) (tTryE tb X.K (.ref R) i ts) := by
  intro pins s σ H D I h
  obtain ⟨Ex, hq, hx⟩ := h
  refine wpAny_Try_except (wpAny_mono (hb pins Ex [] s σ H D (I.pinX.wish _) hq) (fun f s1 q => ?_) fun e s1 q => ?_)
  · have q1 : SP X pins D f s1 := SP.untry q
    cases f with
    | next => exact wpAny_execs_nil q1
    | ret v => exact q1
    | brk => exact q1
    | cont => exact q1
  · obtain ⟨pins', σ1, H1, s0, I1, a, cls, a0, H', B, rfl, os, bare, un, hok, ⟨fl, nc⟩, cov, ex⟩ := q
    obtain ⟨hm1, hx1⟩ := hx σ1 cls H' ex
    have fl1 := fl
    rw [stk] at fl1
    refine looks_onN (by rw [I.ok.frames, stk]) hfr fl1 nc fun h1 hh up1 nc1 => ?_
    refine landsN hh nc1 fun h2 fl2 up2 nc2 => ?_
    rw [← stk] at fl2
    have I1' : Inv X pins σ1 H1 s0 := I1.unpin
    obtain ⟨hna, I2⟩ := I1'.caught os bare un hok fl.1 fl2 nc2 (up1.trans up2) cov
    have M2 := I2.mark (.ref a)
    refine wpAny_handleBy_cons (codeAny_handlers_test (ld_glob M2 hg hm ?_ hdb)) (by intro q; cases q)
    have LT : PySem.W.Looks (model X.prog X.w) h2 (typeOf (.ref a)) cls := by
      obtain ⟨ob, he, hc⟩ := fl2.there
      obtain ⟨oc, od, dt, sl⟩ := ob
      dsimp only at hc
      subst hc
      exact (PySem.W.Looks.ld he).andThen .now
    refine (PySem.W.exm_one M2.kIn LT hm1).here ?_
    show codeAny _ _ _ _ _
    refine codeAny_handlers_suite_as ?_
    refine lands_againN fl2 nc2 fun h3 fl3 up3 nc3 => ?_
    obtain ⟨_, I3⟩ := I1'.caught os bare un hok fl.1 fl3 nc3 ((up1.trans up2).trans up3) cov
    refine store_ok (X := X.inExc (.ref a)) (I3.mark _) hN hi (.inr hk) (v := .ref a) rfl (fun s4 I4 => ?_) (.inl hfn)
    refine wpAny_mono (hs (.ref a) pins s4 _ _ _ I4 (hx1 a hna)) (fun f s5 q => ?_) fun e s5 q => q.elim
    show wpAny _ _ _ _ _ _
    cases f with
    | next =>
      obtain ⟨σ', H5, I5, q⟩ := q
      exact name_goneC (I5.unmark I.ok) hN hi hk hfn fun s' J => ⟨_, _, J, q⟩
    | brk =>
      obtain ⟨σ', H5, I5, q⟩ := q
      exact name_goneC (I5.unmark I.ok) hN hi hk hfn fun s' J => ⟨_, _, J, q⟩
    | cont =>
      obtain ⟨σ', H5, I5, q⟩ := q
      exact name_goneC (I5.unmark I.ok) hN hi hk hfn fun s' J => ⟨_, _, J, q⟩
    | ret u =>
      obtain ⟨v, σ', H5, I5, r, q⟩ := q
      exact name_goneC (I5.unmark I.ok) hN hi hk hfn fun s' J => ⟨v, _, _, J, r, q⟩
end
end L2

namespace L2
open PySem PySem.Spec PyProof.Rows
/-! ### a def with several promises -/
structure DfU (P : Program) (w : World) (K : PySem.W.Frag) (mg : Str → Option Value) (base : Heap) (k : Nat) (x : Str) (sp : Sp) : Prop where
  ex : ∃ f : Addr, mg x = some (.ref f) ∧ PySem.W.keepIn K (.ref f) = true ∧ ∀ (A : Around) (outer : List Env) (s : Shared) (H : Hp) (us : List Value) (vs : List V) (Q : VK) (E : XK), K.In s.heap → Room k A → Env0 P w K mg base A outer s H → Vals vs us → sp vs H Q E →
    codeAny (model P w) A (.call (.ref f) ⟨us, []⟩) (CR (CX1 P w) outer P w H s Q E) s
section
variable {P : Program} {w : World} {K : PySem.W.Frag} {mg : Str → Option Value} {base : Heap} {k : Nat} {x : Str} {ps : List Str} {sp sp' : Sp}
end
end L2

namespace Mr
open PySem L2
theorem bt_ValueError : bootBuiltins "ValueError" = some (.type "ValueError") := by decide +kernel
/-- the classes of the refusals, as the text has them -/
structure Errs12 (K : PySem.W.Frag) (mg : Str → Option Value) (R c0 c1 c2 c3 c4 c5 c6 c7 c8 c9 c10 c11 : Addr) : Prop where
  mR : mg "RowError" = some (.ref R)
  m0 : mg "NoRow" = some (.ref c0)
  m1 : mg "NoCount" = some (.ref c1)
  m2 : mg "TooLong" = some (.ref c2)
  m3 : mg "TooMany" = some (.ref c3)
  m4 : mg "NoReaches" = some (.ref c4)
  m5 : mg "NoLine" = some (.ref c5)
  m6 : mg "Bare" = some (.ref c6)
  m7 : mg "NoLengths" = some (.ref c7)
  m8 : mg "NoMirror" = some (.ref c8)
  m9 : mg "NoNumber" = some (.ref c9)
  m10 : mg "NoSign" = some (.ref c10)
  m11 : mg "NoMiddle" = some (.ref c11)
/-- the class c, the one at place i, is raised and may be asked for -/
structure Rsd (K : PySem.W.Frag) (R : Addr) (cs : List Addr) (i : Nat) (c : Addr) : Prop where
  lt : i < 12
  ex : X.ExC K c
  kr : PySem.W.kitOne K (.ref c) (.ref R) = some true
  kv : PySem.W.kitOne K (.ref c) (.type "ValueError") = some true
  kk : ∀ (j : Nat) (d : Addr), cs[j]? = some d → PySem.W.kitOne K (.ref c) (.ref d) = some (decide (i = j))
def cls12 (i : Nat) : List V := (List.range 12).map fun j => V.bl (decide (i = j))
def spClasses (K : PySem.W.Frag) (R : Addr) (cs : List Addr) : Sp := fun vs H Q _ => ∃ (a c : Addr) (i : Nat), vs = [.ref a] ∧ H a = some (excO a (.ref c)) ∧ Rsd K R cs i c ∧ ∀ p H', H p = none → H' p = some (.lst (cls12 i)) → Same H H' → Q (.ref p) H'
def spOnly (K : PySem.W.Frag) (R : Addr) (cs : List Addr) : Sp := fun vs H Q _ => ∃ (a c : Addr) (i j : Nat), vs = [.ref a, .int (j : Int)] ∧ H a = some (excO a (.ref c)) ∧ Rsd K R cs i c ∧ j < 12 ∧ ∀ H', Same H H' → Q (.bl (decide (i = j))) H'
theorem cls12_eq : ∀ i : Nat, i < 12 → ∀ j : Nat, j < 12 → eqVs (cls12 i) ((List.range 12).map fun k => V.bl (decide (k = j))) = decide (i = j) := by decide +kernel
theorem cls12_flat : ∀ i : Nat, i < 12 → (cls12 i).all flatV = true ∧ ((List.range 12).map fun k => V.bl (decide (k = i))).all flatV = true := by decide +kernel
/-- a thing that is no row -/
def spNoRow (K : PySem.W.Frag) : Sp := fun vs H Q _ => ∃ (b : Addr) (n : Int), vs = [.ref b] ∧ H b = some (.lst [.int n]) ∧ ∀ (x : V) (n' : Int) (H' : Hp), Thing K H' x → rowV x = false → H' b = some (.lst [.int n']) → But b H H' → Q x H'
theorem only12 : ∀ i : Nat, i < 12 → (List.range 12).filter (fun j => decide (i = j)) = [i] := by decide +kernel
end Mr

namespace L2
open PySem PySem.Spec PyProof.Rows
section
variable {X : Cx} {Ex : XS} {pins : List (Addr × Obj)} {tb : XS → TS} {ts : Value → TS} {c n : Str} {i : Nat} {R : Addr} {body suite : List Stmt} {b₀ : Stmt} {np hpos pos : Pos}
end
end L2

namespace L2
open PySem PySem.Spec PyProof.Rows PySem.StrLaws PySem.Builtin PySem.Builtin.Str
/-! ### text.split(sign), int(text of a number) -/
def splitL (c : Nat) : List Nat → List (List Nat)
  | [] => [[]]
  | x :: r => if x = c then [] :: splitL c r else match splitL c r with
    | [] => [[x]]
    | w :: ws => (x :: w) :: ws
theorem splitL_no {c : Nat} : ∀ {w : List Nat}, c ∉ w → splitL c w = [w]
  | [], _ => rfl
  | x :: r, h => by
    rw [List.mem_cons, not_or] at h
    show (if x = c then _ else _) = _
    rw [if_neg (fun z => h.1 z.symm), splitL_no h.2]
theorem splitL_at {c : Nat} {r : List Nat} : ∀ {w : List Nat}, c ∉ w → splitL c (w ++ c :: r) = w :: splitL c r
  | [], _ => by show (if c = c then _ else _) = _; rw [if_pos rfl]
  | x :: v, h => by
    rw [List.mem_cons, not_or] at h
    show (if x = c then _ else match splitL c (v ++ c :: r) with | [] => _ | w :: ws => _) = _
    rw [if_neg (fun z => h.1 z.symm), splitL_at h.2]
theorem at_one {l : List Nat} {c k : Nat} : StrLaws.At (tx l) (tx [c]) (tx l).length k ↔ l[k]? = some c := by
  unfold StrLaws.At
  rw [subAt_eq, tx_len, tx_len]
  have e1 : (tx l).cps.toList = l := by simp
  have e2 : (tx [c]).cps.toList = [c] := by simp
  rw [e1, e2]
  constructor
  · rintro ⟨h1, h2⟩
    have h2 := eq_of_beq h2
    have h1 : k + 1 ≤ l.length := h1
    rw [List.drop_eq_getElem_cons (show k < l.length by omega)] at h2
    have h3 : [l[k]] = [c] := h2
    have : l[k] = c := (List.cons.inj h3).1
    rw [List.getElem?_eq_getElem (by omega), this]
  · intro h
    have hk := (List.getElem?_eq_some_iff.mp h).1
    refine ⟨by show k + 1 ≤ _; omega, ?_⟩
    rw [List.drop_eq_getElem_cons hk, (List.getElem?_eq_some_iff.mp h).2]
    exact beq_self_eq_true _
theorem sub_tx {l : List Nat} {a b : Nat} : strSub (tx l) a b = tx ((l.drop a).take (b - a)) := by
  apply str_ext
  rw [strSub_toList]
  try simp
theorem parts_of {l : List Nat} {c : Nat} : ∀ {cuts : List Nat} {a f : Nat}, a ≤ l.length → ChainG (tx l) (tx [c]) (tx l).length a cuts f → (∀ k, f ≤ k → ¬ StrLaws.At (tx l) (tx [c]) (tx l).length k) →
    ((a :: cuts.map (· + 1)).zip (cuts ++ [(tx l).length])).map (fun p => strSub (tx l) p.1 p.2) = (splitL c (l.drop a)).map tx
  | [], a, f, ha, h, hn => by
    have e : f = a := h
    subst e
    have hno : c ∉ l.drop f := fun z => by
      obtain ⟨j, hj⟩ := List.mem_iff_getElem?.mp z
      rw [List.getElem?_drop] at hj
      exact hn (f + j) (by omega) (at_one.mpr hj)
    rw [splitL_no hno]
    show [strSub (tx l) f (tx l).length] = [tx (l.drop f)]
    rw [sub_tx, tx_len, List.take_of_length_le (by rw [List.length_drop]; exact Nat.le_refl _)]
  | k :: r, a, f, ha, h, hn => by
    obtain ⟨h1, h2, h3, h4⟩ := h
    have hk := at_one.mp h2
    have hkl := (List.getElem?_eq_some_iff.mp hk).1
    have hno : c ∉ (l.drop a).take (k - a) := fun z => by
      obtain ⟨j, hj⟩ := List.mem_iff_getElem?.mp z
      have hjl : j < k - a := by have := (List.getElem?_eq_some_iff.mp hj).1; rw [List.length_take] at this; omega
      rw [List.getElem?_take_of_lt hjl, List.getElem?_drop] at hj
      exact h3 (a + j) (by omega) (by omega) (at_one.mpr hj)
    have e : l.drop a = (l.drop a).take (k - a) ++ c :: l.drop (k + 1) := by
      have e1 : (l.drop a).drop (k - a) = c :: l.drop (k + 1) := by
        rw [List.drop_drop, show a + (k - a) = k by omega, List.drop_eq_getElem_cons hkl, (List.getElem?_eq_some_iff.mp hk).2]
      rw [← e1, List.take_append_drop]
    rw [e, splitL_at hno, List.map_cons]
    show strSub (tx l) a k :: _ = _
    rw [sub_tx]
    refine congrArg _ ?_
    exact parts_of (cuts := r) (a := k + 1) (f := f) (by omega) h4 hn
theorem split_tx (l : List Nat) {c : Nat} (hc : c < 256) : Txt.split (tx l) (tx [c]) = (splitL c l).map tx := by
  unfold Txt.split
  have hk : Builtin.Str.strKind (tx [c]) = 1 := by
    unfold Builtin.Str.strKind
    rw [if_pos]
    simp [tx, hc]
  have hge : 1 ≤ Builtin.Str.strKind (tx l) := by
    unfold Builtin.Str.strKind
    split
    · exact Nat.le_refl _
    · split <;> decide
  rw [hk, decide_eq_false (show ¬ Builtin.Str.strKind (tx l) < 1 by omega), Bool.or_false]
  obtain ⟨f, ch, hn⟩ := occ_tight (tx l) (tx [c]) (by rw [tx_len]; exact Nat.le_refl _)
  have key := parts_of (Nat.zero_le _) ch hn
  rw [List.drop_zero] at key
  by_cases h0 : l = []
  · subst h0
    rw [if_pos (by rw [tx_len, tx_len]; rfl)]
    rfl
  · rw [if_neg (by rw [tx_len, tx_len]; have := List.length_pos_iff.mpr h0; show ¬ decide (l.length < 1) = true; rw [decide_eq_false (by omega)]; decide)]
    by_cases he : (occurrences (tx l) (tx [c]) 0 (tx l).length ((tx l).length + 1)).isEmpty = true
    · rw [if_pos he]
      rw [List.isEmpty_iff.mp he] at key
      rw [← key]
      show [tx l] = [strSub (tx l) 0 (tx l).length]
      rw [sub_tx, tx_len, List.drop_zero, Nat.sub_zero, List.take_length]
    · rw [if_neg he, ← key]
      unfold partsBetween
      rw [tx_len (l := [c])]
      rfl
section
variable {X : Cx}
def rSplit : V → List V → Hp → VK → Prop := fun x vs H Q => ∃ (l : List Nat) (c : Nat), x = .str (tx l) ∧ vs = [.str (tx [c])] ∧ c < 256 ∧ l.length ≤ 100000 ∧ ∀ p, H p = none → Q (.ref p) (upd H p (.lst ((splitL c l).map fun w => V.str (tx w))))
theorem splitL_len (c : Nat) : ∀ l : List Nat, (splitL c l).length ≤ l.length + 1
  | [] => Nat.le_refl _
  | x :: r => by
    have ih := splitL_len c r
    show (if x = c then [] :: splitL c r else match splitL c r with | [] => [[x]] | w :: ws => (x :: w) :: ws).length ≤ _
    split
    · rw [List.length_cons, List.length_cons]; omega
    · cases h : splitL c r with
      | nil => rw [List.length_cons]; show 1 ≤ _; omega
      | cons w ws => rw [h] at ih; rw [List.length_cons] at ih; show ws.length + 1 ≤ r.length + 1 + 1; omega
theorem mt_split : MtR X "str.split" rSplit := by
  intro pins s σ H x xs v us Q I rx rs h
  obtain ⟨l, c, rfl, rfl, hc, hz, q⟩ := h
  obtain ⟨t, rfl⟩ := rx
  obtain ⟨w, rfl, u, rfl⟩ := vals1 rs
  have hS := split_tx l hc
  have hy : ((tx [c]).length == 0) = false := by rw [tx_len]; rfl
  have hl : (tx l).length = l.length := tx_len l
  have fin : ∀ (n : Nat) (ts : List (Str × Tok)), ts.map (·.1) = (splitL c l).map tx → EP X pins σ Q (.ref s.heap.objs.size) { s with heap := s.heap.push { cls := .type "list", data := .seq (strValues ts).toArray }, toks := n } := fun n ts e => by
    have sa := strsAre_of_values ts
    rw [e] at sa
    have hv := are_vals sa
    rw [List.map_map] at hv
    refine ⟨.ref s.heap.objs.size, _, I.laid (t' := n) (o := .lst ((splitL c l).map fun w => V.str (tx w))) (fun _ _ k => Heap.get?_push_of_some _ k) (Nat.le_refl _) ?_, rfl, q _ (I.hok.fresh (Nat.le_refl _))⟩
    have := splitL_len c l
    exact ⟨by rw [List.length_map, sizeLine_eq]; omega, strValues ts, 0, hv, Heap.get?_push_size _ rfl⟩
  unfold Txt.split at hS
  have few : (partsBetween (tx l) (occurrences (tx l) (tx [c]) 0 (tx l).length ((tx l).length + 1)) (tx [c]).length).length ≤ sizeLine := by
    have e := occ_length_le (tx l) (tx [c]) 0 (tx l).length ((tx l).length + 1)
    rw [length_partsBetween, sizeLine_eq]
    omega
  have short : (tx l).length ≤ sizeLine := by rw [hl, sizeLine_eq]; omega
  cases h1 : (decide ((tx l).length < (tx [c]).length) || decide (Builtin.Str.strKind (tx l) < Builtin.Str.strKind (tx [c]))) with
  | true =>
    rw [h1, if_pos rfl] at hS
    refine call_meets PySem.F.slot_str_split (typeIs_str _ _ _) PySem.F.entry_str_split (PySem.F.args_str_split_2 _ _) (meets_str_split_cannot_occur _ _ t u h1) ?_
    exact fin s.toks [(tx l, t)] hS
  | false =>
    rw [h1, if_neg (by decide)] at hS
    cases hf : (occurrences (tx l) (tx [c]) 0 (tx l).length ((tx l).length + 1)).isEmpty with
    | true =>
      rw [hf, if_pos rfl] at hS
      refine call_meets PySem.F.slot_str_split (typeIs_str _ _ _) PySem.F.entry_str_split (PySem.F.args_str_split_2 _ _) (meets_str_split_not_found _ _ t u h1 hy hf) ?_
      exact fin s.toks [(tx l, t)] hS
    | false =>
      rw [hf, if_neg (by decide)] at hS
      refine call_meets PySem.F.slot_str_split (typeIs_str _ _ _) PySem.F.entry_str_split (PySem.F.args_str_split_2 _ _) (meets_str_split_sep _ _ t u h1 hy hf short few) ?_
      have g := fin (s.toks + (partsBetween (tx l) (occurrences (tx l) (tx [c]) 0 (tx l).length ((tx l).length + 1)) (tx [c]).length).length) (numbered s.toks (partsBetween (tx l) (occurrences (tx l) (tx [c]) 0 (tx l).length ((tx l).length + 1)) (tx [c]).length)) (by rw [numbered_texts]; exact hS)
      rw [← strsFrom_eq] at g
      exact g
/-- the signs of a number -/
def numL (n : Nat) : List Nat := (Nat.toDigits 10 n).map Char.toNat
theorem num_tx (n : Nat) : Str.ofString (toString ((n : Nat) : Int)) = tx (numL n) := by
  apply str_ext
  rw [PySem.W.KIN.signs_num]
  simp [numL]
theorem call_intT : CallR X (.type "int") (fun xs H Q => ∃ n : Nat, xs = [.str (tx (numL n))] ∧ n < 10 ^ 10 ∧ Q (.int (n : Int)) H) := by
  intro pins s σ H xs us Q I r h
  obtain ⟨n, rfl, hn, q⟩ := h
  obtain ⟨u, rfl, t, rfl⟩ := vals1 r
  rw [← num_tx]
  exact PySem.W.KIN.call_num (by omega) (by omega) ⟨.int (n : Int), H, I.tok _, ⟨_, rfl⟩, q⟩
theorem call_strN : CallR X (.type "str") (fun xs H Q => ∃ n : Nat, xs = [.int (n : Int)] ∧ n < 10 ^ 10 ∧ Q (.str (tx (numL n))) H) := by
  intro pins s σ H xs us Q I r h
  obtain ⟨n, rfl, hn, q⟩ := h
  refine call_strI pins s σ H _ us Q I r ⟨(n : Int), rfl, ?_, by rw [← num_tx] at q; exact q⟩
  by_cases h0 : n = 0
  · subst h0; decide
  · exact (Nat.log2_lt (by omega)).mpr (Nat.lt_trans (show ((n : Nat) : Int).natAbs < 10 ^ 10 by omega) (Nat.lt_of_lt_of_le (show 10 ^ 10 < 2 ^ 40 by decide) (Nat.pow_le_pow_right (by decide) (by decide))))
end
end L2

namespace L2
open PySem PySem.Spec PyProof.Rows PySem.SeqAt PySem.MeetsSeq
section
variable {X : Cx} {k : Nat} {y : Str} {p pos : Pos} {e : Expr} {es : List Expr} {te : TE} {t : TA}
/-! ### a function called by a local name; x in a dict that stands at the top -/
/-- a function that is known, with its promise -/
def KnF (P : Program) (w : World) (K : PySem.W.Frag) (mg : Str → Option Value) (base : Heap) (k : Nat) (f : Addr) (sp : Sp) : Prop := ∃ (fd : FuncData) (ps : List Str), FnOk P w K mg base CX0 k f fd ps sp ∧ PySem.W.keepIn K (.ref f) = true ∧ Binds K fd ps []
theorem Df.knf {P : Program} {w : World} {K : PySem.W.Frag} {mg : Str → Option Value} {base : Heap} {x : Str} {ps : List Str} {sp : Sp} {f : Addr} (d : Df P w K mg base k x ps sp) (hm : mg x = some (.ref f)) : KnF P w K mg base k f sp := by
  obtain ⟨f', fd, F, hm', hk, hb⟩ := d.ex
  have e := Option.some.inj (hm.symm.trans hm')
  cases e
  exact ⟨fd, ps, F, hk, hb⟩
def tCallV (P : Program) (w : World) (K : PySem.W.Frag) (mg : Str → Option Value) (base : Heap) (k : Nat) (te : TE) (t : TA) : TE := fun σ H Q => te σ H fun v H1 => ∃ (f : Addr) (sp : Sp), v = .ref f ∧ KnF P w K mg base k f sp ∧ tCall sp [] E0 t σ H1 Q
end
section
variable {X : Cx} {o i : Expr} {td ty : TE} {a : Addr} {kvs : List (Key × V)}
def tTIn (a : Addr) (kvs : List (Key × V)) (ty td : TE) : TE := fun σ H Q => ty σ H fun y H1 => td σ H1 fun x H2 => ∃ k, x = .ref a ∧ y = kV k ∧ Q (.bl (valV kvs k).isSome) H2
/-- a dict that stands at the top, in this world: its keys may be texts -/
def TopW (P : Program) (w : World) (K : PySem.W.Frag) (a : Addr) (kvs : List (Key × V)) : Prop :=
  ∃ (o : Obj) (es : Array DictEntry) (ep : Nat) (vs : List (Key × Value)), K.lookup a = some o ∧ o.ExactDict ∧ o.data = .dict es ep ∧ KeysOf (mixKind P w) es ∧ Pairs (mixKind P w) es.toList vs ∧ (vs.map (·.1)).Nodup ∧ KV kvs vs ∧ (a == sysModules) = false
theorem TopW.at {pins : List (Addr × Obj)} {σ : St} {H : Hp} {s : Shared} (T : TopW X.prog X.w X.K a kvs) (I : Inv X pins σ H s) : ∃ vs, KV kvs vs ∧ Heap.DictOf (mixKind X.prog X.w) s.heap a vs ∧ (a == sysModules) = false := by
  obtain ⟨o, es, ep, vs, h1, h2, h3, h4, h4', h5, h6, h7⟩ := T
  exact ⟨vs, h6, ⟨o, es, ep, I.kIn a o h1, h2, h3, h4, h4', h5⟩, h7⟩
theorem pe_tgetW {pos : Pos} (T : TopW X.prog X.w X.K a kvs) (ho : PE X o td) (hi : PE X i ty) (hs : NoSl i) : PE X (.Subscript o i pos) (tTGet a kvs td ty) := by
  intro pins s σ H Q I h
  refine subD_of PySem.F.slot_dict_getitem.lookup hs (thn (ho pins s σ H _ I h) fun u s1 ⟨x, H1, I1, rx, q1⟩ => thn (hi pins s1 σ H1 _ I1 q1) fun iv s2 ⟨y, H2, I2, ry, k, v, ex, ey, l, q2⟩ => ?_)
  subst ex
  subst ey
  obtain rfl : u = Value.ref a := rx
  obtain ⟨vs, rel, dd, hd⟩ := T.at I2
  obtain ⟨w', hw, rw'⟩ := RelO.some_of (v := v) (o := valueAt vs k) (by rw [← l]; exact rel.val k)
  exact ⟨dd.typeIs, wpAny_getItem_of (kV_is ry) dd.mapOf hw ⟨v, H2, I2.tok _, rw', q2⟩⟩
theorem pc_tin (T : TopW X.prog X.w X.K a kvs) (hi : PE X i ty) (ho : PE X o td) : PC X .In i o (tTIn a kvs ty td) := by
  intro pins s σ H Q I h
  refine thn (hi pins s σ H _ I h) fun iv s1 z => ?_
  obtain ⟨y, H1, I1, ry, q1⟩ := z
  refine thn (ho pins s1 σ H1 _ I1 q1) fun u s2 z2 => ?_
  obtain ⟨x, H2, I2, rx, k, ex, ey, q2⟩ := z2
  subst ex
  subst ey
  obtain rfl : u = Value.ref a := rx
  obtain ⟨vs, rel, dd, hd⟩ := T.at I2
  refine wpAny_in_of (kV_is ry) hd dd.mapOf ?_
  rw [← (rel.val k).isSome_eq]
  exact ⟨.bl (valV kvs k).isSome, H2, I2.tok _, rfl, q2⟩
end
/-- texts as keys, things as values -/
theorem TopW.of {P : Program} {w : World} {K : PySem.W.Frag} {a : Addr} {ep : Nat} {es : Array DictEntry} (ts : List (Str × Tok × Addr)) (l : K.lookup a = some { cls := .type "dict", dict := none, data := .dict es ep, slots := #[] }) (hs : (a == sysModules) = false)
    (he : es.toList = ts.map fun p => ⟨hashStr w p.1, .str p.1 p.2.1, .ref p.2.2⟩) (hn : (ts.map (·.1)).Nodup) : TopW P w K a (ts.map fun p => (.inr p.1, .ref p.2.2)) := by
  refine ⟨_, _, _, ts.map fun p => (.inr p.1, .ref p.2.2), l, ⟨rfl, rfl, rfl⟩, rfl, fun e h => ?_, ?_, ?_, ?_, hs⟩
  · have h : e ∈ es.toList := by simpa using h
    rw [he] at h
    obtain ⟨p, _, rfl⟩ := List.mem_map.mp h
    exact ⟨.inr p.1, keyIs_str p.1 p.2.1, rfl⟩
  · rw [he]
    clear he hn
    induction ts with
    | nil => exact .nil
    | cons p ts ih => exact .cons (keyIs_str p.1 p.2.1) rfl ih
  · rw [List.map_map]
    have : ((·.1) ∘ fun p : Str × Tok × Addr => ((Sum.inr p.1 : Key), Value.ref p.2.2)) = (Sum.inr ∘ fun p : Str × Tok × Addr => p.1) := rfl
    rw [this, ← List.map_map]
    exact hn.map Sum.inr fun _ _ h z => h (Sum.inr.inj z)
  · clear he hn
    induction ts with
    | nil => exact .nil
    | cons p ts ih => exact .cons ⟨rfl, rfl⟩ ih
end L2

namespace L2
open PySem PySem.Spec PyProof.Rows
section
variable {X : Cx} {a b : Expr} {rest : List Expr} {pos : Pos} {ta tb : TE}
/-- a text, or what stands behind it -/
def tOrT (ta tb : TE) : TE := fun σ H Q => ta σ H fun x H1 => ∃ z : Str, x = .str z ∧ z.length ≤ sizeLine ∧ if z.length = 0 then tb σ H1 Q else Q (.str z) H1
theorem pe_orT (ha : PE X a ta) (hb : PE X (.BoolOp .Or (b :: rest) pos) tb) : PE X (.BoolOp .Or (a :: b :: rest) pos) (tOrT ta tb) := by
  intro pins s σ H Q I h
  refine BoolOp_or ?_
  refine thn (ha pins s σ H _ I h) fun v s1 z => ?_
  obtain ⟨x, H1, I1, r1, y, rfl, hz, q1⟩ := z
  have tr : TruV X.K (.str y) H1 ((y.length : Int) != 0) := ⟨hz, rfl⟩
  by_cases h0 : y.length = 0
  · rw [if_pos h0] at q1
    have e0 : ((y.length : Int) != 0) = false := by rw [h0]; rfl
    rw [e0] at tr
    refine wpAny_mono (tru_ok pins s1 σ H1 (.str y) v (fun k H' => k = false ∧ H' = H1) I1 r1 ⟨false, tr, rfl, rfl⟩) (fun c s2 w => ?_) fun _ _ w => w
    obtain ⟨H2, I2, rfl, rfl⟩ := w
    exact hb pins s2 σ _ Q I2 q1
  · rw [if_neg h0] at q1
    have e0 : ((y.length : Int) != 0) = true := by
      rw [bne_iff_ne]
      omega
    rw [e0] at tr
    refine wpAny_mono (tru_ok pins s1 σ H1 (.str y) v (fun k H' => k = true ∧ H' = H1) I1 r1 ⟨true, tr, rfl, rfl⟩) (fun c s2 w => ?_) fun _ _ w => w
    obtain ⟨H2, I2, rfl, rfl⟩ := w
    exact ⟨.str y, _, I2, r1, q1⟩
end
end L2

namespace Mr
open PySem L2
/-! the desk -/
def wNone : List Nat := [110, 111, 110, 101]
def wClear : List Nat := [99, 108, 101, 97, 114]
def wTake : List Nat := [116, 97, 107, 101]
def wAdd : List Nat := [97, 100, 100]
def wRow : List Nat := [114, 111, 119]
def wBack : List Nat := [98, 97, 99, 107]
def figs : List Nat := [48, 49, 50, 51, 52, 53, 54, 55, 56, 57]
def tonL (l : List Nat) : List Nat := if l = [] then wNone else l
theorem e_none : ("none" : Str) = tx wNone := by decide
theorem e_clear : ("clear" : Str) = tx wClear := by decide
theorem e_take : ("take" : Str) = tx wTake := by decide
theorem e_add : ("add" : Str) = tx wAdd := by decide
theorem e_figs : ("0123456789" : Str) = tx figs := by decide
def spTON : Sp := fun vs H Q _ => ∃ l : List Nat, vs = [.str (tx l)] ∧ l.length ≤ 1000 ∧ Q (.str (tx (tonL l))) H
def spTellRow : Sp := fun vs H Q _ => ∃ l : List Nat, vs = [.str (tx l)] ∧ rowL l = true ∧ ∀ H', Same H H' → Q (.str (tx (tonL l))) H'
def spTellBack : Sp := fun vs H Q _ => ∃ l : List Nat, vs = [.str (tx l)] ∧ rowL l = true ∧ ∀ H', Same H H' → Q (.str (tx (tonL l.reverse))) H'
def isNumB (w : List Nat) : Bool := decide (1 ≤ w.length) && (decide (w.length ≤ 4) && (w.all (fun c => decide (c ∈ figs)) && (decide (w = [48]) || decide (w[0]? ≠ some 48))))
theorem num_is : ∀ n : Nat, n < 400 → isNumB (numL n) = true := by decide +kernel
def spIsNum : Sp := fun vs H Q _ => ∃ w : List Nat, vs = [.str (tx w)] ∧ w.length ≤ 1000 ∧ ∀ H', Same H H' → Q (.bl (isNumB w)) H'
def spWA (C : Addr) : Sp := fun vs H Q E => ∃ l w : List Nat, vs = [.str (tx l), .str (tx w)] ∧ l.length ≤ 1000 ∧ w.length ≤ 1000 ∧ ((l.length + w.length ≤ 200 ∧ Q (.str (tx (l ++ w))) H) ∨ (200 < l.length + w.length ∧ E (.ref C) none H))
def spWT (C : Addr) : Sp := fun vs H Q E => ∃ (l : List Nat) (n : Nat), vs = [.str (tx l), .int (n : Int)] ∧ l.length ≤ 1000 ∧ ((n ≤ l.length ∧ Q (.str (tx (l.take (l.length - n)))) H) ∨ (l.length < n ∧ E (.ref C) none H))
theorem eqV_tx (a b : List Nat) : eqV (V.str (tx a)) (V.str (tx b)) = decide (a = b) := by
  by_cases h : a = b
  · rw [h, decide_eq_true rfl]; exact eqV_refl rfl
  · rw [decide_eq_false h]
    cases e : eqV (V.str (tx a)) (V.str (tx b)) with
    | false => rfl
    | true => exact absurd (tx_inj (eq_of_beq e)) h
theorem eqVs_w (a b : List Nat) : eqVs [V.str (tx a)] [V.str (tx b)] = decide (a = b) := by
  show (eqV (V.str (tx a)) (V.str (tx b)) && true) = _
  rw [eqV_tx, Bool.and_true]
theorem eqVs_w2 (a b c : List Nat) : eqVs [V.str (tx a), V.str (tx b)] [V.str (tx c)] = false := rfl
def wordsV (ws : List (List Nat)) : List V := ws.map fun w => V.str (tx w)
/-- what a line makes of the row: Bare or TooMany where it is refused -/
def RBn (B T : Addr) (l : List Nat) (ws : List (List Nat)) (H : Hp) (Q : VK) (E : XK) : Prop :=
  (ws = [wClear] ∧ ∀ H', Same H H' → Q (.str (tx [])) H') ∨
  (∃ n : Nat, ((n = 1 ∧ ws = [wTake]) ∨ (n < 400 ∧ ws = [wTake, numL n])) ∧ ((n ≤ l.length ∧ ∀ H', Same H H' → Q (.str (tx (l.take (l.length - n)))) H') ∨ (l.length < n ∧ ∀ H', Same H H' → E (.ref B) none H'))) ∨
  (∃ w : List Nat, ws = [wAdd, w] ∧ rowL w = true ∧ w ≠ [] ∧ ((l.length + w.length ≤ 200 ∧ ∀ H', Same H H' → Q (.str (tx (l ++ w))) H') ∨ (200 < l.length + w.length ∧ ∀ H', Same H H' → E (.ref T) none H'))) ∨
  (∃ w : List Nat, ws = [w] ∧ w ≠ wClear ∧ w ≠ wTake ∧ ∀ H', Same H H' → Q .non H')
def spRB (B T : Addr) : Sp := fun vs H Q E => ∃ (l : List Nat) (p : Addr) (ws : List (List Nat)), vs = [.str (tx l), .ref p] ∧ rowL l = true ∧ H p = some (.lst (wordsV ws)) ∧ RBn B T l ws H Q E
theorem num_len : ∀ n : Nat, n < 400 → (numL n).length ≤ 4 := by decide +kernel
/-- a line that asks: by the table of what is asked -/
def spAns (P : Program) (w : World) (K : PySem.W.Frag) (mg : Str → Option Value) (base : Heap) (k : Nat) (kvs : List (Key × V)) : Sp := fun vs H Q _ => ∃ (l : List Nat) (p : Addr) (a : List Nat) (f : Addr) (sp : Sp), vs = [.str (tx l), .ref p] ∧ H p = some (.lst (wordsV [a])) ∧
  valV kvs (Sum.inr (tx a)) = some (.ref f) ∧ KnF P w K mg base k f sp ∧ sp [.str (tx l)] H Q E0
end Mr

namespace Mr
open PySem L2
/-! a desk -/
structure ClD (K : PySem.W.Frag) (mg : Str → Option Value) (C : Addr) : Prop where
  cl : Cls K C
  n1 : NoAttr K C "kept"
  mgC : mg "Desk" = some (.ref C)
def dkO (C dx : Addr) (l : List Nat) : HO := .ins C dx [("kept", .str (tx l))]
def spDInit (C : Addr) : Sp := fun vs H Q _ => ∃ (x dx : Addr), vs = [.ref x] ∧ H x = some (.ins C dx []) ∧ Q .non (upd H x (dkO C dx []))
/-- what is behind a line: the row that it makes, or what it asks -/
def SayQ (P : Program) (w : World) (K : PySem.W.Frag) (mg : Str → Option Value) (base : Heap) (k : Nat) (kvs : List (Key × V)) (C dk dx : Addr) (l : List Nat) (ws : List (List Nat)) (H : Hp) (Q : VK) : VK := fun v H1 =>
  (∃ l' : List Nat, v = .str (tx l') ∧ l'.length ≤ 1000 ∧ ∀ H', H' dk = some (dkO C dx l') → But dk H H' → Q (.str (tx (numL l'.length))) H') ∨
  (v = .non ∧ ∃ (a : List Nat) (f : Addr) (sp : Sp), ws = [a] ∧ valV kvs (Sum.inr (tx a)) = some (.ref f) ∧ KnF P w K mg base k f sp ∧ sp [.str (tx l)] H1 Q E0)
def spSay (P : Program) (w : World) (K : PySem.W.Frag) (mg : Str → Option Value) (base : Heap) (k : Nat) (kvs : List (Key × V)) (C B T : Addr) : Sp := fun vs H Q E => ∃ (dk dx : Addr) (l line : List Nat), vs = [.ref dk, .str (tx line)] ∧ H dk = some (dkO C dx l) ∧ rowL l = true ∧ line.length ≤ 1000 ∧
  RBn B T l (splitL 32 line) H (SayQ P w K mg base k kvs C dk dx l (splitL 32 line) H Q) E
theorem dk_no {z : V} : ([("kept", z)] : List (Str × V)).lookup ("say" : Str) = none := by
  rw [List.lookup_cons]
  rw [show (("say" : Str) == ("kept" : Str)) = false by decide +kernel]
  rfl
/-- what _law_said tells: the answer, or the place of the class -/
def spSaid (P : Program) (w : World) (K : PySem.W.Frag) (mg : Str → Option Value) (base : Heap) (k : Nat) (kvs : List (Key × V)) (C B T : Addr) : Sp := fun vs H Q _ => ∃ (dk dx : Addr) (l line : List Nat), vs = [.ref dk, .str (tx line)] ∧ H dk = some (dkO C dx l) ∧ rowL l = true ∧ line.length ≤ 1000 ∧
  RBn B T l (splitL 32 line) H (SayQ P w K mg base k kvs C dk dx l (splitL 32 line) H Q) (fun c _ _ => ∃ i : Nat, ((c = .ref B ∧ i = 6) ∨ (c = .ref T ∧ i = 3)) ∧ ∀ p H'', H p = none → H'' p = some (.lst [.int (i : Int)]) → Same H H'' → Q (.ref p) H'')
end Mr

namespace Mr
open PySem L2
/-! what a desk says to its lines -/
section
variable {P : Program} {w : World} {K : PySem.W.Frag} {mg : Str → Option Value} {base : Heap} {k : Nat} {kvs : List (Key × V)} {C B T dk dx f0 : Addr} {l : List Nat} {H : Hp} {Q : VK} {E : XK}
theorem row_blank {a : List Nat} (h : rowL a = true) : 32 ∉ a := fun z => absurd ((rowL_iff.mp h).2 32 z) (by decide)
/-- the line that takes n signs: the bare word, or with a number -/
def TakeL (n : Nat) (line : List Nat) : Prop := (n = 1 ∧ line = wTake) ∨ (n < 400 ∧ line = wTake ++ 32 :: numL n)
end
theorem e_row : ("row" : Str) = tx wRow := by decide
theorem e_back : ("back" : Str) = tx wBack := by decide
theorem e_add1 : ("add " : Str) = tx (wAdd ++ [32]) := by decide
theorem ton_or {l : List Nat} (h : l.length ≤ 1000) {Q : VK} {H : Hp} (q : Q (.str (tx (tonL l))) H) : (tx l).length ≤ sizeLine ∧ if (tx l).length = 0 then Q (.str (tx wNone)) H else Q (.str (tx l)) H := by
  refine ⟨by rw [tx_len, sizeLine_eq]; omega, ?_⟩
  rw [tx_len]
  unfold tonL at q
  by_cases h0 : l = []
  · rw [if_pos h0] at q
    rw [if_pos (by rw [h0]; rfl)]
    exact q
  · rw [if_neg h0] at q
    rw [if_neg (fun z => h0 (List.eq_nil_of_length_eq_zero z))]
    exact q
theorem ton_orT {l : List Nat} (h : l.length ≤ 1000) {σ : St} {Q : VK} {H : Hp} (q : Q (.str (tx (tonL l))) H) : ∃ z : Str, V.str (tx l) = .str z ∧ z.length ≤ sizeLine ∧ if z.length = 0 then tC (.str (tx wNone)) σ H Q else Q (.str z) H := ⟨_, rfl, ton_or h q⟩
/-- both the same text, or both a list with the same number -/
def FdV (H : Hp) (x y : V) : Prop := (∃ z : List Nat, x = .str (tx z) ∧ y = .str (tx z)) ∨ ∃ p q : Addr, x = .ref p ∧ y = .ref q ∧ H p = some (.lst [.int 6]) ∧ H q = some (.lst [.int 6])
theorem valV_hit {x y : Str} {v : V} {r : List (Key × V)} (h : x = y) : valV ((Sum.inr x, v) :: r) (Sum.inr y) = some v := by
  subst h
  unfold valV
  rw [List.find?_cons_of_pos (by exact decide_eq_true rfl)]
  rfl
theorem valV_miss {x y : Str} {v : V} {r : List (Key × V)} (h : x ≠ y) : valV ((Sum.inr x, v) :: r) (Sum.inr y) = valV r (Sum.inr y) := by
  unfold valV
  rw [List.find?_cons_of_neg (by rw [decide_eq_false (fun z => h (Sum.inr.inj z))]; decide)]
theorem abcz_row {m : List Nat} (h : Abcz m) (hl : m.length ≤ 200) : rowL m = true := rowL_iff.mpr ⟨hl, h.lets⟩
end Mr

namespace L2
open PySem PySem.Spec PyProof.Rows PySem.SeqAt PySem.MeetsSeq
/-! ### sep.join(texts) -/
section
variable {X : Cx}
def joinL (sep : List Nat) : List (List Nat) → List Nat
  | [] => []
  | z :: zs => z ++ (zs.map (sep ++ ·)).flatten
theorem glue_foldlL (sep : List Nat) : ∀ (zs : List (List Nat)) (acc : List Nat), ((zs.map tx).foldl (fun a p => a ++ (tx sep).cps ++ p.cps) acc.toArray) = (acc ++ (zs.map (sep ++ ·)).flatten).toArray
  | [], acc => by simp
  | z :: zs, acc => by
    rw [List.map_cons, List.foldl_cons]
    have e : acc.toArray ++ (tx sep).cps ++ (tx z).cps = (acc ++ (sep ++ z)).toArray := by simp
    rw [e, glue_foldlL sep zs (acc ++ (sep ++ z)), List.map_cons, List.flatten_cons, List.append_assoc]
theorem join_txL (sep : List Nat) (zs : List (List Nat)) : Txt.join (tx sep) (zs.map tx) = tx (joinL sep zs) := by
  show Builtin.Str.glued (tx sep) (zs.map tx) = tx (joinL sep zs)
  unfold Builtin.Str.glued
  cases zs with
  | nil => rfl
  | cons z zs =>
    apply congrArg Str.mk
    show ((zs.map tx).foldl (fun acc p => acc ++ (tx sep).cps ++ p.cps) z.toArray) = _
    rw [glue_foldlL]
    rfl
theorem mt_joinL : MtR X "str.join" (fun x vs H Q => ∃ (p : Addr) (sep : List Nat) (zs : List (List Nat)), x = .str (tx sep) ∧ vs = [.ref p] ∧ SqL X.K H p (zs.map fun z => V.str (tx z)) ∧ (zs.map (·.length)).sum + sep.length * zs.length ≤ 16777216 ∧ Q (.str (tx (joinL sep zs))) H) := by
  intro pins s σ H x xs v us Q I rx rs h
  obtain ⟨p, sep, zs, rfl, rfl, hq, hz, q⟩ := h
  obtain ⟨t, rfl⟩ := rx
  obtain ⟨u, rfl, ru⟩ := vals1 rs
  cases ru
  obtain ⟨its, rv, pl, _⟩ := I.list hq
  refine join_list (ys := zs.map tx) pl.isList (by simpa using strsAre_of rv) ?_ fun t' k => ?_
  · rw [List.map_map, List.length_map]
    have e : ((fun z : Str => z.length) ∘ tx) = fun z : List Nat => z.length := by funext z; exact tx_len z
    rw [show (List.map ((fun x => x.length) ∘ tx) zs) = zs.map (·.length) from by rw [e], tx_len]
    rw [Nat.mul_comm] at hz
    omega
  · rw [join_txL]
    exact ⟨.str (tx (joinL sep zs)), H, I.tok k, ⟨t', rfl⟩, q⟩
end
end L2

namespace Mr
open PySem L2
/-! what a desk tells beside the row -/
section
variable {P : Program} {w : World} {K : PySem.W.Frag} {mg : Str → Option Value} {base : Heap} {k : Nat} {kvs : List (Key × V)} {C B T dk dx f0 : Addr} {l : List Nat} {H : Hp} {Q : VK} {E : XK}
end
/-- a number told as a text -/
def spTellN (f : List Nat → Nat) : Sp := fun vs H Q _ => ∃ l : List Nat, vs = [.str (tx l)] ∧ rowL l = true ∧ f l < 10 ^ 10 ∧ ∀ H', Same H H' → Q (.str (tx (numL (f l)))) H'
def wYes : List Nat := [121, 101, 115]
def wNo : List Nat := [110, 111]
def spTellFull : Sp := fun vs H Q _ => ∃ l : List Nat, vs = [.str (tx l)] ∧ rowL l = true ∧ ∀ H', Same H H' → Q (.str (tx (if kindsN l = l.length then wYes else wNo))) H'
end Mr
namespace Mr
open PySem L2
/-- the mirrors of the row in their order, each behind the other -/
def spTellTree : Sp := fun vs H Q _ => ∃ l : List Nat, vs = [.str (tx l)] ∧ rowL l = true ∧ (joinL [32] (mirs l l.length)).length ≤ 1000 ∧ ∀ H', Same H H' → Q (.str (tx (tonL (joinL [32] (mirs l l.length))))) H'
end Mr
namespace Mr
open PySem L2
theorem flat_sep (sep : List Nat) : ∀ zs : List (List Nat), (zs.map (sep ++ ·)).flatten.length = (zs.map (·.length)).sum + sep.length * zs.length
  | [] => by simp
  | z :: zs => by
    rw [List.map_cons, List.flatten_cons, List.length_append, List.length_append, flat_sep sep zs, List.map_cons, List.sum_cons, List.length_cons, Nat.mul_succ]
    omega
theorem e_blank : (" " : Str) = tx [32] := by decide
end Mr
namespace Mr
open PySem L2
/-! what a desk does when it is told, with no error -/
section
variable {P : Program} {w : World} {K : PySem.W.Frag} {mg : Str → Option Value} {base : Heap} {k : Nat} {kvs : List (Key × V)} {C B T dk dx : Addr} {l : List Nat} {H : Hp} {Q : VK} {E : XK}
def spSay0 (P : Program) (w : World) (K : PySem.W.Frag) (mg : Str → Option Value) (base : Heap) (k : Nat) (kvs : List (Key × V)) (C B T : Addr) : Sp := fun vs H Q _ => spSay P w K mg base k kvs C B T vs H Q E0
end
end Mr
namespace Mr
open PySem L2
def wTree : List Nat := [116, 114, 101, 101]
theorem e_tree : ("tree" : Str) = tx wTree := by decide
end Mr

namespace Mr
open PySem L2
/-! two desks -/
def b2i (t : Bool) : Int := if t then 1 else 0
def set1 (t : Bool) (m : List Nat) (l : Bool → List Nat) : Bool → List Nat := fun s => if s = t then m else l s
structure TwoD (C : Addr) (dk dx : Bool → Addr) (pd pr b : Addr) (r l : Bool → List Nat) (nb : Int) (H : Hp) : Prop where
  hd : H pd = some (.lst [.ref (dk false), .ref (dk true)])
  hr : H pr = some (.lst [.str (tx (r false)), .str (tx (r true))])
  hk : ∀ t, H (dk t) = some (dkO C (dx t) (l t))
  hb : H b = some (.lst [.int nb])
section
variable {C pd pr b : Addr} {dk dx : Bool → Addr} {r l : Bool → List Nat} {nb : Int} {H H' : Hp}
theorem ne_obj {p q : Addr} {x y : HO} (hp : H p = some x) (hq : H q = some y) (n : x ≠ y) : p ≠ q := fun z => by
  rw [z, hq] at hp
  exact n (Option.some.inj hp).symm
end
theorem joinL_le (sep : List Nat) (zs : List (List Nat)) : (joinL sep zs).length ≤ (zs.map (·.length)).sum + sep.length * zs.length := by
  cases zs with
  | nil => simp [joinL]
  | cons z zs =>
    unfold joinL
    rw [List.length_append, flat_sep, List.map_cons, List.sum_cons, List.length_cons, Nat.mul_succ]
    omega
end Mr

namespace L2
open PySem PySem.Spec PyProof.Rows
/-! ### f'{a}M{b}' of two numbers -/
section
variable {X : Cx} {a b : Expr} {p1 p2 p3 pos : Pos} {j : Bool} {ta tb : TE}
def tFNum (ml : List Nat) (ta tb : TE) : TE := fun σ H Q => ta σ H fun x H1 => ∃ n : Nat, x = .int (n : Int) ∧ n < 10 ^ 10 ∧ (numL n).length ≤ 100 ∧ tb σ H1 fun y H2 => ∃ k : Nat, y = .int (k : Int) ∧ k < 10 ^ 10 ∧ (numL k).length ≤ 100 ∧ Q (.str (tx (numL n ++ ml ++ numL k))) H2
end
end L2

namespace L2
open PySem PySem.Spec PyProof.Rows PySem.SeqAt PySem.MeetsSeq
/-! ### max(xs, default=d) of ints -/
section
variable {prog : Program} {w : World} {A : Around} {I : Addr} {fp wr : List Addr} {n : Nat} {P : Nat → Value → Prop} {St : Nat → Heap → Prop}
abbrev mxC (I S : Addr) (kw : List (Str × Value)) : Code := .builtin "max.loop" ⟨[.ref I, .none, .ref S], kw⟩
abbrev mxS (its : Array Value) (c : Nat) : Obj := { cls := .type "list", dict := none, data := .seq its c, slots := #[] }
abbrev mxK (wr : List Addr) (S : Addr) (h h' : Heap) : Prop := ∀ b o, b ∉ wr → b ≠ S → h.get? b = some o → h'.get? b = some o
end
section
variable {prog : Program} {w : World} {A : Around} {E : Value → Shared → Prop} {s : Shared}
end
section
variable {X : Cx}
end
end L2

namespace Mr
open PySem L2
/-! mirrors by signs behind -/
def behN (l : List Nat) : List Nat := l ++ (l.take (l.length - ((endsN l)[0]?).getD 0)).reverse
def spShort : Sp := fun vs H Q _ => ∃ l : List Nat, vs = [.str (tx l)] ∧ rowL l = true ∧ l.length ≤ 60 ∧ ∀ H', Same H H' → Q .non H'
def spBehN : Sp := fun vs H Q _ => ∃ l : List Nat, vs = [.str (tx l)] ∧ rowL l = true ∧ l.length ≤ 60 ∧ ∀ H', Same H H' → Q (.str (tx (behN l))) H'
def spAheN : Sp := fun vs H Q _ => ∃ l : List Nat, vs = [.str (tx l)] ∧ rowL l = true ∧ l.length ≤ 60 ∧ ∀ H', Same H H' → Q (.str (tx (behN l.reverse))) H'
def spLBeh : Sp := fun vs H Q _ => ∃ l : List Nat, vs = [.str (tx l)] ∧ l.length ≤ 1000 ∧ Q (.str (tx (behN l))) H
def per55 (p : List Nat) (d : Nat) : List Nat := (repL p 200).take (40 + d)
set_option maxHeartbeats 0
end Mr

namespace Mr
open PySem L2
/-! signs more: the table -/
def mendL (l : List Nat) : Nat → Nat → Nat
  | 0, _ => 0
  | 1, _ => 0
  | n + 2, f => if l[f]? = l[f + n + 1]? then mendL l n (f + 1) else min (mendL l (n + 1) (f + 1)) (mendL l (n + 1) f) + 1
def ky (a b : Nat) : List Key := [Sum.inl (a : Int), Sum.inl (b : Int)]
/-- the table has all stretches of less than n signs, and of those of n the first j -/
def Tab (l : List Nat) (n j : Nat) (kvs : List (List Key × V)) : Prop :=
  ∀ a b : Nat, valV kvs (ky a b) = if a < b ∧ b ≤ l.length ∧ (b - a < n ∨ (b - a = n ∧ a < j)) then some (.int (mendL l (b - a) a : Nat)) else none
/-- the whole table -/
def TabW (l : List Nat) (kvs : List (List Key × V)) : Prop := Tab l (l.length + 1) 0 kvs
def spMoreFor : Sp := fun vs H Q _ => ∃ (l : List Nat) (pt : Addr) (kvs : List (List Key × V)) (n f j : Nat), vs = [.str (tx l), .ref pt, .int (f : Int), .int ((f + n : Nat) : Int)] ∧ l.length ≤ 200 ∧ H pt = some (.dT kvs) ∧ Tab l n j kvs ∧ 1 ≤ n ∧ f + n ≤ l.length ∧
  ∀ H', Same H H' → Q (.int (mendL l n f : Nat)) H'
def spMendT : Sp := fun vs H Q _ => ∃ l : List Nat, vs = [.str (tx l)] ∧ rowL l = true ∧ l.length ≤ 60 ∧ ∀ (p : Addr) (kvs : List (List Key × V)) (H' : Hp), H p = none → H' p = some (.dT kvs) → TabW l kvs → Same H H' → Q (.ref p) H'
def spMore : Sp := fun vs H Q _ => ∃ l : List Nat, vs = [.str (tx l)] ∧ rowL l = true ∧ l.length ≤ 60 ∧ ∀ H', Same H H' → Q (.int (mendL l l.length 0 : Nat)) H'
/-! refusals: what is no row, then what is too long -/
def Ref2 (K : PySem.W.Frag) (H : Hp) (x : V) (c0 c2 C : Addr) : Prop := (Thing K H x ∧ rowV x = false ∧ C = c0) ∨ (∃ l : List Nat, x = .str (tx l) ∧ rowL l = true ∧ 60 < l.length ∧ C = c2)
def spNS (K : PySem.W.Frag) (c0 c2 : Addr) : Sp := fun vs H _ E => ∃ (x : V) (C : Addr), vs = [x] ∧ Ref2 K H x c0 c2 C ∧ ∀ H', Same H H' → E (.ref C) none H'
def spNSb (K : PySem.W.Frag) (c0 c2 : Addr) : Sp := fun vs H _ E => ∃ (x y : V) (C : Addr), vs = [y, x] ∧ Ref2 K H x c0 c2 C ∧ ∀ H', Same H H' → E (.ref C) none H'
/-- lies_in refuses -/
def RefL (K : PySem.W.Frag) (H : Hp) (x y : V) (c0 c2 C : Addr) : Prop :=
  (Thing K H x ∧ rowV x = false ∧ C = c0) ∨ ∃ l : List Nat, x = .str (tx l) ∧ rowL l = true ∧ ((Thing K H y ∧ rowV y = false ∧ C = c0) ∨
    ∃ m : List Nat, y = .str (tx m) ∧ rowL m = true ∧ (60 < l.length ∨ 120 < m.length) ∧ C = c2)
def spLiX (K : PySem.W.Frag) (c0 c2 : Addr) : Sp := fun vs H _ E => ∃ (x y z : V) (C : Addr), vs = [x, y, z] ∧ RefL K H x y c0 c2 C ∧ ∀ H', Same H H' → E (.ref C) none H'
/-- lies_in of None: no -/
def spLi0 : Sp := fun vs H Q _ => ∃ l m : List Nat, vs = [.str (tx l), .str (tx m), .non] ∧ rowL l = true ∧ l.length ≤ 60 ∧ rowL m = true ∧ m.length ≤ 120 ∧ ∀ H', Same H H' → Q (.bl false) H'
/-- the questions of the law: which refuse, which don't -/
def Ask56 (K : PySem.W.Frag) (H : Hp) (m : Nat) (x g : V) (c0 c2 C : Addr) : Prop := (m ≤ 6 ∧ Ref2 K H x c0 c2 C) ∨ (m = 7 ∧ RefL K H x g c0 c2 C) ∨ (m = 8 ∧ RefL K H g x c0 c2 C)
def AskR (m : Nat) (x g : V) : Prop := ∃ l r : List Nat, rowL l = true ∧ rowL r = true ∧ (((m = 0 ∨ m = 6) ∧ x = .str (tx l) ∧ l.length ≤ 60) ∨ (m = 7 ∧ x = .str (tx l) ∧ g = .str (tx r) ∧ l.length ≤ 60 ∧ r.length ≤ 120) ∨ (m = 8 ∧ g = .str (tx l) ∧ x = .str (tx r) ∧ l.length ≤ 60 ∧ r.length ≤ 120))
def spAskX (K : PySem.W.Frag) (c0 c2 : Addr) : Sp := fun vs H Q E => ∃ (m : Nat) (x g : V), vs = [.int (m : Int), x, g] ∧ ((∃ C, Ask56 K H m x g c0 c2 C ∧ ∀ H', Same H H' → E (.ref C) none H') ∨ (AskR m x g ∧ ∀ H', Same H H' → Q .non H'))
def spTold56 (K : PySem.W.Frag) (c0 c2 : Addr) : Sp := fun vs H Q _ => ∃ (m : Nat) (x g : V) (r : List V), vs = [.int (m : Int), x, g] ∧ ((Ask56 K H m x g c0 c2 c0 ∧ r = [.int 0]) ∨ (Ask56 K H m x g c0 c2 c2 ∧ r = [.int 2]) ∨ (AskR m x g ∧ r = [])) ∧ ∀ p H', H p = none → H' p = some (.lst r) → Same H H' → Q (.ref p) H'
def abN (j : Nat) : List Nat := repL [97, 98] (if j = 8 then 60 else 30)
end Mr

namespace Mr
open PySem L2
/-! how many cuts -/
def lastN (ms : List Nat) (b : Nat) (L : List Nat) : Nat := (L.map fun k => ms.getD (b - k) 0).sum
def wayAt (L : Nat → List Nat) : Nat → List Nat
  | 0 => [1]
  | n + 1 => wayAt L n ++ [lastN (wayAt L n) (n + 1) (L (n + 1))]
def ways (l : List Nat) (b : Nat) : Nat := (wayAt (lenOf (endsAt l)) b).getD b 0
theorem sum_lens' (ks : List Nat) : (ks.map fun (k : Nat) => (k : Int)).sum = ((ks.sum : Nat) : Int) := by
  induction ks with
  | nil => rfl
  | cons k r ih =>
    rw [List.map_cons, List.sum_cons, List.sum_cons, ih]
    omega
def spLastN : Sp := fun vs H Q _ => ∃ (pm pl : Addr) (ms L : List Nat) (b : Nat), vs = [.ref pm, .int (b : Int), .ref pl] ∧ H pm = some (.lst (lensV ms)) ∧ H pl = some (.lst (lensV L)) ∧ L.length ≤ 1000 ∧ (∀ k ∈ L, k ≤ b ∧ b - k < ms.length) ∧ ∀ H', Same H H' → Q (.int (lastN ms b L : Nat)) H'
def spWays : Sp := fun vs H Q _ => ∃ l : List Nat, vs = [.str (tx l)] ∧ rowL l = true ∧ ∀ H', Same H H' → Q (.int (ways l l.length : Nat)) H'
end Mr
namespace Mr
open PySem L2
def spTwice : Sp := fun vs H Q _ => ∃ n : Nat, vs = [.int (n : Int)] ∧ n ≤ 1000 ∧ Q (.int ((2 ^ n : Nat) : Int)) H
end Mr

namespace Mr
open PySem L2
/-! cuts of rows that go on in the same way -/
def Per (p : Nat) (l : List Nat) : Prop := ∀ i, i < l.length → l[i]? = some (97 + i % p)
end Mr
namespace Mr
open PySem L2
end Mr

namespace Mr
/-! ways from place to place by stretches that read alike; how many there are of a length -/
inductive Path (l : List Nat) : Nat → Nat → Nat → Prop
  | nil (a : Nat) : Path l a a 0
  | step {a f b n : Nat} : Path l a f n → f < b → b ≤ l.length → PalI l f b → Path l a b (n + 1)
theorem Path.le {l : List Nat} {a b n : Nat} (h : Path l a b n) : a + n ≤ b := by
  induction h with
  | nil => omega
  | step _ h3 _ _ ih => omega
/-! how many cuts of a number of stretches -/
def cofN (l : List Nat) : Nat → Nat → Nat
  | 0, b => if b = 0 then 1 else 0
  | c + 1, b => ((begN l b).map (cofN l c)).sum
theorem pos_sum {xs : List Nat} {g : Nat → Nat} (h : 0 < (xs.map g).sum) : ∃ x ∈ xs, 0 < g x := by
  induction xs with
  | nil => exact absurd h (Nat.lt_irrefl 0)
  | cons y r ih =>
    rw [List.map_cons, List.sum_cons] at h
    by_cases e : 0 < g y
    · exact ⟨y, List.mem_cons_self, e⟩
    · obtain ⟨x, h1, h2⟩ := ih (by omega)
      exact ⟨x, List.mem_cons_of_mem _ h1, h2⟩
theorem cof_path {l : List Nat} : ∀ {n b : Nat}, b ≤ l.length → 0 < cofN l n b → Path l 0 b n
  | 0, b, _, h => by
    unfold cofN at h
    by_cases e : b = 0
    · subst e; exact .nil 0
    · rw [if_neg e] at h; exact absurd h (Nat.lt_irrefl 0)
  | n + 1, b, hb, h => by
    obtain ⟨f, h1, h2⟩ := pos_sum (xs := begN l b) (g := cofN l n) h
    obtain ⟨h3, h4, _⟩ := begN_mem hb h1
    exact .step (cof_path (by omega) h2) h3 hb h4
theorem cof_out {l : List Nat} {n b : Nat} (hb : b ≤ l.length) (h : b < n) : cofN l n b = 0 := by
  by_cases e : 0 < cofN l n b
  · have := (cof_path hb e).le
    omega
  · omega
/-! many ways, from behind -/
def Mp (N : Nat) (A : Nat → Nat → Nat) : Nat → Nat → Nat → Nat
  | 0, a, b => if a = b then 1 else 0
  | c + 1, a, b => sm N fun f => A f b * Mp N A c a f
def adj (l : List Nat) (f b : Nat) : Nat := if f < b ∧ b - f ∈ endsN (l.take b) then 1 else 0
end Mr

namespace Mr
open PySem L2
/-! cuts looked at, drawn, counted -/
section
variable (K : PySem.W.Frag)
def NoLst (H : Hp) (x : V) : Prop := ∃ t, TyOf K H x t ∧ PySem.W.kitOne K t (.type "list") = some false
/-- what stands in a cut: no tuple, or one -/
def ElV (H : Hp) (x : V) : Option (List V) → Prop
  | none => NoTup K H x
  | some ys => ∃ p : Addr, x = .ref p ∧ H p = some (.tup ys) ∧ (ys.length = 2 → ∀ y ∈ ys, Scal y)
end
def icutB (l : List Nat) : Nat → List (Option (List V)) → Bool
  | a, [] => decide (a = l.length)
  | _, none :: _ => false
  | a, some ys :: r => rdL l ys && (match ys with
    | [.int i, .int j] => decide (i = (a : Int)) && (!decide (j = (a : Int)) && icutB l j.toNat r)
    | _ => false)
def spIC (K : PySem.W.Frag) : Sp := fun vs H Q _ => ∃ (x : V) (l : List Nat), vs = [x, .str (tx l)] ∧ rowL l = true ∧ ((NoLst K H x ∧ ∀ H', Same H H' → Q (.bl false) H') ∨
  ∃ (p : Addr) (xs : List V) (ds : List (Option (List V))), x = .ref p ∧ H p = some (.lst xs) ∧ xs.length = ds.length ∧ (∀ (j : Nat) (x : V) (d : Option (List V)), xs[j]? = some x → ds[j]? = some d → ElV K H x d) ∧ ∀ H', Same H H' → Q (.bl (icutB l 0 ds)) H')
def pairO (c : Nat × Nat) : Option (List V) := some [.int (c.1 : Int), .int (c.2 : Int)]
/-! how many of a number of stretches -/
def cofL (l : List Nat) (c : Nat) : List Nat := (List.range (l.length + 1)).map (cofN l c)
theorem cofL_len (l : List Nat) (c : Nat) : (cofL l c).length = l.length + 1 := by unfold cofL; rw [List.length_map, List.length_range]
theorem cofL_get {l : List Nat} {c b : Nat} (h : b ≤ l.length) : (cofL l c)[b]? = some (cofN l c b) := by unfold cofL; rw [List.getElem?_map, List.getElem?_range (by omega)]; rfl
theorem last_cof {l : List Nat} {c b : Nat} (hb : b ≤ l.length) : lastN (cofL l c) b (endsN (l.take b)) = cofN l (c + 1) b := by
  show _ = ((begN l b).map (cofN l c)).sum
  unfold lastN begN
  rw [List.map_map]
  congr 1
  refine List.map_congr_left fun k hk => ?_
  rw [List.getD_eq_getElem?_getD, cofL_get (by omega)]
  rfl
theorem cofL_zero (l : List Nat) : cofL l 0 = 1 :: List.replicate l.length 0 := by
  unfold cofL
  rw [List.range_succ_eq_map, List.map_cons, List.map_map]
  congr 1
  refine List.ext_getElem? fun i => ?_
  rw [List.getElem?_map, List.getElem?_replicate]
  by_cases h : i < l.length
  · rw [List.getElem?_range h, if_pos h]
    show some (if i + 1 = 0 then 1 else 0) = _
    rw [if_neg (by omega)]
  · rw [List.getElem?_eq_none (by rw [List.length_range]; omega), if_neg h]
    rfl
def spCof : Sp := fun vs H Q _ => ∃ (l : List Nat) (c : Nat), vs = [.str (tx l), .int (c : Int)] ∧ rowL l = true ∧ ∀ H', Same H H' → Q (.int (cofN l c l.length : Nat)) H'
/-- how many cuts of 0, 1, .. stretches -/
def cofC (l : List Nat) (j : Nat) : List Nat := (List.range j).map fun c => cofN l c l.length
/-! of the laws -/
def spDrawn : Sp := fun vs H Q _ => ∃ (b : Addr) (n : Int) (l : List Nat), vs = [.ref b, .str (tx l)] ∧ H b = some (.lst [.int n]) ∧ l.length ≤ 1000 ∧
  ∀ (p : Addr) (xs : List V) (cs : List (Nat × Nat)) (n' : Int) (H' : Hp), H p = none → H' p = some (.lst xs) → PairV H' xs cs → CutFrom l 0 cs → H' b = some (.lst [.int n']) → But b H H' → Q (.ref p) H'
def spLesser : Sp := fun vs H Q _ => ∃ (b : Addr) (n : Int) (l : List Nat), vs = [.ref b, .str (tx l)] ∧ H b = some (.lst [.int n]) ∧ l.length ≤ 1000 ∧
  ∀ (p : Addr) (ns : List Int) (n' : Int) (H' : Hp), H p = none → H' p = some (.lst (ns.map V.int)) → areB l ns = true → H' b = some (.lst [.int n']) → But b H H' → Q (.ref p) H'
def LessTo (l : List Nat) (ns : List Int) : Prop := ns.getD 0 0 = 0 ∧ ∀ b, b < ns.length → ∀ f ∈ begN l b, ns.getD b 0 ≤ ns.getD f 0 + 1
end Mr

namespace Mr
open PySem L2
/-! even cuts -/
def evF (L : List Nat) : List Nat := L.filter fun k => decide (k % 2 = 0)
def evAt (l : List Nat) : List (List Nat) := (endsAt l).map evF
def evFew (l : List Nat) : List (Option Nat) := fewAt (lenOf (evAt l)) l.length
def evN (l : List Nat) (b : Nat) : Option Nat := few (lenOf (evAt l)) b
def spEv : Sp := fun vs H Q _ => ∃ (p : Addr) (L : List Nat), vs = [.ref p] ∧ H p = some (.lst (lensV L)) ∧ L.length ≤ 1000 ∧ ∀ (p' : Addr) (H' : Hp), H p' = none → H' p' = some (.lst (lensV (evF L))) → Same H H' → Q (.ref p') H'
def spEvFew : Sp := fun vs H Q _ => ∃ l : List Nat, vs = [.str (tx l)] ∧ rowL l = true ∧ ∀ (p : Addr) (H' : Hp), H p = none → H' p = some (.lst (fewV (evFew l))) → Same H H' → Q (.ref p) H'
def evPl (l : List Nat) (n : Nat) : List Nat := (List.range n).filter fun b => (evN l b).isSome
def evPlaces (l : List Nat) : List Nat := evPl l (l.length + 1)
def spFewEven : Sp := fun vs H Q _ => ∃ l : List Nat, vs = [.str (tx l)] ∧ rowL l = true ∧ ∀ H', Same H H' → Q (optV (evN l l.length)) H'
def spEvenRow : Sp := fun vs H Q _ => ∃ (b : Addr) (n : Int), vs = [.ref b] ∧ H b = some (.lst [.int n]) ∧ ∀ (m : List Nat) (n' : Int) (H' : Hp), Abcz m → m.length ≤ 16 → H' b = some (.lst [.int n']) → But b H H' → Q (.str (tx m)) H'
end Mr

namespace Mr
open PySem L2
/-! what a desk tells, all of it: a text that the row alone says -/
def spTellT (f : List Nat → List Nat) (m : Nat) : Sp := fun vs H Q _ => ∃ l : List Nat, vs = [.str (tx l)] ∧ rowL l = true ∧ l.length ≤ m ∧ ∀ H', Same H H' → Q (.str (tx (f l))) H'
def lastL (l : List Nat) : List Nat := l.drop (l.length - ((endsN l)[0]?).getD 0)
open Classical in
noncomputable def longL (l : List Nat) : List Nat := if h : ∃ p : Nat × Nat, BestP l p.1 p.2 then numL (Classical.choose h).1 ++ [45] ++ numL (Classical.choose h).2 else wNone
def wNever : List Nat := [110, 101, 118, 101, 114]
def evenL (l : List Nat) : List Nat := match evN l l.length with
  | none => wNever
  | some n => numL n
def fac : Nat → Nat
  | 0 => 1
  | n + 1 => (n + 1) * fac n
end Mr

namespace Mr
open PySem L2
/-! k87: all that a desk is asked -/
def wKinds : List Nat := [107, 105, 110, 100, 115]
def wFull : List Nat := [102, 117, 108, 108]
def wLast : List Nat := [108, 97, 115, 116]
def wLongest : List Nat := [108, 111, 110, 103, 101, 115, 116]
def wFewest : List Nat := [102, 101, 119, 101, 115, 116]
def wCuts : List Nat := [99, 117, 116, 115]
def wEven : List Nat := [101, 118, 101, 110]
def wMore : List Nat := [109, 111, 114, 101]
def wBehind : List Nat := [98, 101, 104, 105, 110, 100]
def wAhead : List Nat := [97, 104, 101, 97, 100]
theorem e_kinds : ("kinds" : Str) = tx wKinds := by decide
theorem e_full : ("full" : Str) = tx wFull := by decide
theorem e_last : ("last" : Str) = tx wLast := by decide
theorem e_longest : ("longest" : Str) = tx wLongest := by decide
theorem e_fewest : ("fewest" : Str) = tx wFewest := by decide
theorem e_cuts : ("cuts" : Str) = tx wCuts := by decide
theorem e_even : ("even" : Str) = tx wEven := by decide
theorem e_more : ("more" : Str) = tx wMore := by decide
theorem e_behind : ("behind" : Str) = tx wBehind := by decide
theorem e_ahead : ("ahead" : Str) = tx wAhead := by decide
def fRow : List Nat → List Nat := tonL
def fKinds (l : List Nat) : List Nat := numL (kindsN l)
def fFull (l : List Nat) : List Nat := if kindsN l = l.length then wYes else wNo
def fLast (l : List Nat) : List Nat := tonL (lastL l)
def fTree (l : List Nat) : List Nat := tonL (joinL [32] (mirs l l.length))
def fFewest (l : List Nat) : List Nat := numL (fewI l l.length)
def fCuts (l : List Nat) : List Nat := numL (ways l l.length)
def fMore (l : List Nat) : List Nat := numL (mendL l l.length 0)
def fBehind (l : List Nat) : List Nat := tonL (behN l)
def fAhead (l : List Nat) : List Nat := tonL (behN l.reverse)
section
variable {P : Program} {w : World} {K : PySem.W.Frag} {mg : Str → Option Value} {base : Heap} {k : Nat} {kvs : List (Key × V)}
def Ask1 (P : Program) (w : World) (K : PySem.W.Frag) (mg : Str → Option Value) (base : Heap) (k : Nat) (kvs : List (Key × V)) (a : List Nat) (g : List Nat → List Nat) : Prop := ∃ f0 : Addr, valV kvs (Sum.inr (tx a)) = some (.ref f0) ∧ KnF P w K mg base k f0 (spTellT g 12)
def words87 : List (List Nat) := [wRow, wKinds, wFull, wLast, wLongest, wTree, wFewest, wCuts, wEven, wMore, wBehind, wAhead]
noncomputable def tells87 (l : List Nat) : List (List Nat) := [fRow l, fKinds l, fFull l, fLast l, longL l, fTree l, fFewest l, fCuts l, evenL l, fMore l, fBehind l, fAhead l]
def Asks87 (P : Program) (w : World) (K : PySem.W.Frag) (mg : Str → Option Value) (base : Heap) (k : Nat) (kvs : List (Key × V)) : Prop := ∀ (i : Nat) (a : List Nat), words87[i]? = some a → ∃ g : List Nat → List Nat, Ask1 P w K mg base k kvs a g ∧ ∀ l, (tells87 l)[i]? = some (g l)
end
def spAnsw (C : Addr) : Sp := fun vs H Q _ => ∃ (dk dx : Addr) (l : List Nat), vs = [.ref dk] ∧ H dk = some (dkO C dx l) ∧ rowL l = true ∧ l.length ≤ 12 ∧ ∀ (p : Addr) (H' : Hp), H p = none → H' p = some (.lst (wordsV (tells87 l))) → Same H H' → Q (.ref p) H'
/-! a row is a mirror, said in five ways -/
/-! the words of a joined text -/
end Mr
namespace Mr
open PySem L2
def spRight87 : Sp := fun vs H Q _ => ∃ (l : List Nat) (p : Addr), vs = [.str (tx l), .ref p] ∧ rowL l = true ∧ 1 ≤ l.length ∧ l.length ≤ 12 ∧ H p = some (.lst (wordsV (tells87 l))) ∧ ∀ H', Same H H' → Q (.bl true) H'
theorem ne_tx {a b : List Nat} (h : a = b) : (!decide (V.str (tx a) = V.str (tx b))) = false := by rw [h, decide_eq_true rfl]; rfl
theorem eq_tx (a b : List Nat) : decide (V.str (tx a) = V.str (tx b)) = decide (a = b) := by
  by_cases h : a = b
  · rw [decide_eq_true h, h, decide_eq_true rfl]
  · rw [decide_eq_false h, decide_eq_false fun z => h (tx_inj (V.str.inj z))]
theorem e_dig0 : ("0" : Str) = tx [48] := by decide
end Mr
namespace Mr
open PySem L2
/-- what was told of each beginning -/
noncomputable def tellO (m : List Nat) : HO := .lst (wordsV (tells87 m))
noncomputable abbrev SeenV := ReV tellO
end Mr
namespace L2
open PySem
end L2
namespace Mr
open PySem L2
theorem imp_row : ∀ vs H Q E, spTellT fRow 12 vs H Q E → spTellRow vs H Q E := fun _ _ _ _ ⟨l, e, hr, _, q⟩ => ⟨l, e, hr, q⟩
end Mr

namespace L2
open PySem PySem.Spec PyProof.Rows PySem.SeqAt PySem.MeetsSeq
/-! ### a function called by a local name, which may raise -/
section
variable {X : Cx} {k : Nat} {y : Str} {p pos : Pos} {e : Expr} {es : List Expr} {te : TE} {t : TA} {Ex : XS}
def KnFX (P : Program) (w : World) (K : PySem.W.Frag) (mg : Str → Option Value) (base : Heap) (k : Nat) (f : Addr) (sp : Sp) : Prop := ∃ (fd : FuncData) (ps : List Str), FnOk P w K mg base (CX1 P w) k f fd ps sp ∧ PySem.W.keepIn K (.ref f) = true ∧ Binds K fd ps []
def tCallW (P : Program) (w : World) (K : PySem.W.Frag) (mg : Str → Option Value) (base : Heap) (k : Nat) (Ex : XS) (te : TE) (t : TA) : TE := fun σ H Q => te σ H fun v H1 => ∃ (f : Addr) (sp : Sp), v = .ref f ∧ ((KnF P w K mg base k f sp ∧ tCall sp [] E0 t σ H1 Q) ∨ (KnFX P w K mg base k f sp ∧ tCallX sp Ex t σ H1 Q))
theorem pe_dfw (hr : Room k X.A) (hx : PassesX X Ex) (hy : PE X (.Name y p) te) (ha : PA X (e :: es) t) (he : starEach (e :: es) X.env = (false, eval e X.env) :: starEach es X.env := by rfl)
    (hpl : (backTo pos (starEach es X.env)).any (·.1) = false := by rfl) : PE X (.Call (.Name y p) (e :: es) [] pos) (tCallW X.prog X.w X.K X.mg X.base k Ex te t) := by
  intro pins s σ H Q I h
  refine wpAny_Call_Name_kw (thn (hy pins s σ H _ I h) fun v s1 z => ?_)
  obtain ⟨x, H1, I1, r1, f, sp, rfl, z⟩ := z
  obtain rfl : v = Value.ref f := r1
  rcases z with ⟨⟨fd, ps, F, hk, hb⟩, q⟩ | ⟨⟨fd, ps, F, hk, hb⟩, q⟩
  · refine PySem.W.callWith_K (h₀ := X.base) I1.ok.mod.kin hk ?_ he hpl
    refine thn (ha pos pins s1 σ H1 _ I1 q) fun us s2 z2 => ?_
    obtain ⟨vs, H2, I2, r2, q2⟩ := z2
    exact ⟨I2.kIn, run_fn F hr hb .nil pass0 I2 r2 q2⟩
  · refine PySem.W.callWith_K (h₀ := X.base) I1.ok.mod.kin hk (thn (ha pos pins s1 σ H1 _ I1 q) fun us s1 ⟨vs, H1, I1, r, q⟩ => ⟨I1.kIn, ?_⟩) he hpl
    have hl : (us ++ ([] : List Value)).length = ps.length := by rw [List.append_nil, ← r.length]; exact F.len _ _ _ _ q
    have bb := hb s1 us I1.kIn hl
    rw [List.append_nil] at bb
    refine wpAny_call (codeAny_mono (F.run X.A X.stack s1 H1 ⟨us, []⟩ us vs Q (Ex σ) hr I1.env0 bb r q) fun r s' hq => ?_)
    cases r with
    | error e => exact hx pins σ H1 s1 e s' I1 hq
    | ok fl =>
      cases fl with
      | ret u => exact I1.after hq
      | next => exact False.elim hq
      | brk => exact False.elim hq
      | cont => exact False.elim hq
end
end L2

namespace Mr
open PySem L2
/-! a desk and all of its lines: those that change the row, those that ask, and what is no line -/
theorem eqVs_ws (ws : List (List Nat)) (a : List Nat) : eqVs (wordsV ws) [V.str (tx a)] = decide (ws = [a]) := by
  match ws with
  | [] => rfl
  | [b] => rw [show wordsV [b] = [V.str (tx b)] from rfl, eqVs_w]; by_cases h : b = a <;> simp [h]
  | b :: c :: r =>
    have : ¬ (b :: c :: r = [a]) := by simp
    rw [decide_eq_false this]
    unfold eqVs wordsV
    rw [List.length_map]
    rfl
def NumOk (n : Nat) : Prop := n < 400 ∨ n = 9999
theorem numOk_is {n : Nat} (h : NumOk n) : isNumB (numL n) = true := by
  rcases h with h | rfl
  · exact num_is n h
  · decide +kernel
theorem numOk_len {n : Nat} (h : NumOk n) : (numL n).length ≤ 4 := by
  rcases h with h | rfl
  · exact num_len n h
  · decide +kernel
theorem numOk_lt {n : Nat} (h : NumOk n) : n < 10 ^ 10 := by
  rcases h with h | rfl <;> omega
def NoCh (ws : List (List Nat)) : Prop := ws ≠ [wClear] ∧ ws ≠ [wTake] ∧ (∀ w, ws = [wTake, w] → isNumB w = false) ∧ (∀ w, ws = [wAdd, w] → rowL w = false ∨ w = [])
def ShortW (ws : List (List Nat)) : Prop := ws.length ≤ 10000 ∧ ∀ w ∈ ws, w.length ≤ 1000
def RB2 (B T : Addr) (l : List Nat) (ws : List (List Nat)) (H : Hp) (Q : VK) (E : XK) : Prop :=
  (ws = [wClear] ∧ ∀ H', Same H H' → Q (.str (tx [])) H') ∨
  (∃ n : Nat, ((n = 1 ∧ ws = [wTake]) ∨ (NumOk n ∧ ws = [wTake, numL n])) ∧ ((n ≤ l.length ∧ ∀ H', Same H H' → Q (.str (tx (l.take (l.length - n)))) H') ∨ (l.length < n ∧ ∀ H', Same H H' → E (.ref B) none H'))) ∨
  (∃ w : List Nat, ws = [wAdd, w] ∧ rowL w = true ∧ w ≠ [] ∧ ((l.length + w.length ≤ 200 ∧ ∀ H', Same H H' → Q (.str (tx (l ++ w))) H') ∨ (200 < l.length + w.length ∧ ∀ H', Same H H' → E (.ref T) none H'))) ∨
  (NoCh ws ∧ ShortW ws ∧ ∀ H', Same H H' → Q .non H')
def spRB2 (B T : Addr) : Sp := fun vs H Q E => ∃ (l : List Nat) (p : Addr) (ws : List (List Nat)), vs = [.str (tx l), .ref p] ∧ rowL l = true ∧ H p = some (.lst (wordsV ws)) ∧ RB2 B T l ws H Q E
theorem RB2.mono {B T : Addr} {l : List Nat} {ws : List (List Nat)} {H H1 : Hp} {Q Q' : VK} {E E' : XK} (s : Same H H1) (h : RB2 B T l ws H Q E) (hq : ∀ v H', Same H1 H' → Q v H' → Q' v H') (he : ∀ c H', (c = B ∨ c = T) → Same H1 H' → E (.ref c) none H' → E' (.ref c) none H') : RB2 B T l ws H1 Q' E' := by
  rcases h with ⟨e, q⟩ | ⟨n, e, q⟩ | ⟨w, e, h1, h2, q⟩ | ⟨h1, h2, q⟩
  · exact .inl ⟨e, fun H' s' => hq _ _ s' (q H' (s.trans s'))⟩
  · exact .inr (.inl ⟨n, e, q.imp (fun z => ⟨z.1, fun H' s' => hq _ _ s' (z.2 H' (s.trans s'))⟩) fun z => ⟨z.1, fun H' s' => he _ _ (.inl rfl) s' (z.2 H' (s.trans s'))⟩⟩)
  · exact .inr (.inr (.inl ⟨w, e, h1, h2, q.imp (fun z => ⟨z.1, fun H' s' => hq _ _ s' (z.2 H' (s.trans s'))⟩) fun z => ⟨z.1, fun H' s' => he _ _ (.inr rfl) s' (z.2 H' (s.trans s'))⟩⟩))
  · exact .inr (.inr (.inr ⟨h1, h2, fun H' s' => hq _ _ s' (q H' (s.trans s'))⟩))
def NoAns (kvs : List (Key × V)) (ws : List (List Nat)) : Prop := (∀ a, ws = [a] → valV kvs (Sum.inr (tx a)) = none) ∧ ∀ w, ws = [wCuts, w] → isNumB w = false
def Ans2 (P : Program) (w : World) (K : PySem.W.Frag) (mg : Str → Option Value) (base : Heap) (k : Nat) (kvs : List (Key × V)) (N : Addr) (l : List Nat) (ws : List (List Nat)) (H : Hp) (Q : VK) (E : XK) : Prop :=
  (∃ (a : List Nat) (f : Addr) (sp : Sp), ws = [a] ∧ valV kvs (Sum.inr (tx a)) = some (.ref f) ∧ ((KnF P w K mg base k f sp ∧ sp [.str (tx l)] H Q E0) ∨ (KnFX P w K mg base k f sp ∧ ∃ c : Addr, (∀ E' : XK, (∀ H', Same H H' → E' (.ref c) none H') → sp [.str (tx l)] H Q E') ∧ ∀ H', Same H H' → E (.ref c) none H'))) ∨
  (∃ n : Nat, ws = [wCuts, numL n] ∧ NumOk n ∧ cofN l n l.length < 10 ^ 10 ∧ ∀ H', Same H H' → Q (.str (tx (numL (cofN l n l.length)))) H') ∨
  (NoAns kvs ws ∧ ∀ H', Same H H' → E (.ref N) none H')
def spAns2 (P : Program) (w : World) (K : PySem.W.Frag) (mg : Str → Option Value) (base : Heap) (k : Nat) (kvs : List (Key × V)) (N : Addr) : Sp := fun vs H Q E => ∃ (l : List Nat) (p : Addr) (ws : List (List Nat)), vs = [.str (tx l), .ref p] ∧ rowL l = true ∧ H p = some (.lst (wordsV ws)) ∧ ShortW ws ∧ Ans2 P w K mg base k kvs N l ws H Q E
theorem Ans2.err {P : Program} {w : World} {K : PySem.W.Frag} {mg : Str → Option Value} {base : Heap} {k : Nat} {kvs : List (Key × V)} {N : Addr} {l : List Nat} {ws : List (List Nat)} {H : Hp} {Q : VK} {E E' : XK} (h : Ans2 P w K mg base k kvs N l ws H Q E) (he : ∀ c H', Same H H' → E (.ref c) none H' → E' (.ref c) none H') : Ans2 P w K mg base k kvs N l ws H Q E' := by
  rcases h with ⟨a, f, sp, e, hv, h⟩ | h | ⟨h, q⟩
  · exact .inl ⟨a, f, sp, e, hv, h.imp id fun ⟨h1, c, h2, h3⟩ => ⟨h1, c, h2, fun H' s' => he _ _ s' (h3 H' s')⟩⟩
  · exact .inr (.inl h)
  · exact .inr (.inr ⟨h, fun H' s' => he _ _ s' (q H' s')⟩)
/-- what is behind a line -/
def SayQ2 (P : Program) (w : World) (K : PySem.W.Frag) (mg : Str → Option Value) (base : Heap) (k : Nat) (kvs : List (Key × V)) (N C dk dx : Addr) (l : List Nat) (ws : List (List Nat)) (H : Hp) (Q : VK) (E : XK) : VK := fun v H1 =>
  (∃ l' : List Nat, v = .str (tx l') ∧ l'.length ≤ 1000 ∧ ∀ H', H' dk = some (dkO C dx l') → But dk H H' → Q (.str (tx (numL l'.length))) H') ∨
  (v = .non ∧ ShortW ws ∧ Ans2 P w K mg base k kvs N l ws H1 Q E)
def spSay2 (P : Program) (w : World) (K : PySem.W.Frag) (mg : Str → Option Value) (base : Heap) (k : Nat) (kvs : List (Key × V)) (C B T N : Addr) : Sp := fun vs H Q E => ∃ (dk dx : Addr) (l : List Nat) (x : V), vs = [.ref dk, x] ∧ H dk = some (dkO C dx l) ∧ rowL l = true ∧
  ((∃ line : List Nat, x = .str (tx line) ∧ line.length ≤ 1000 ∧ RB2 B T l (splitL 32 line) H (SayQ2 P w K mg base k kvs N C dk dx l (splitL 32 line) H Q E) E) ∨
  (∃ t, TyOf K H x t ∧ PySem.W.kitOne K t (.type "str") = some false ∧ E (.ref N) none H))
/-- what _law_said tells: the answer, or the place of the class: Bare 6, TooMany 3, NoLine 5, TooLong 2 -/
def SdE (B T N L : Addr) (H : Hp) (Q : VK) : XK := fun c _ _ => ∃ i : Nat, ((c = .ref B ∧ i = 6) ∨ (c = .ref T ∧ i = 3) ∨ (c = .ref N ∧ i = 5) ∨ (c = .ref L ∧ i = 2)) ∧ ∀ p H'', H p = none → H'' p = some (.lst [.int (i : Int)]) → Same H H'' → Q (.ref p) H''
def spSaid2 (P : Program) (w : World) (K : PySem.W.Frag) (mg : Str → Option Value) (base : Heap) (k : Nat) (kvs : List (Key × V)) (C B T N L : Addr) : Sp := fun vs H Q _ => ∃ (dk dx : Addr) (l : List Nat) (x : V), vs = [.ref dk, x] ∧ H dk = some (dkO C dx l) ∧ rowL l = true ∧
  ((∃ line : List Nat, x = .str (tx line) ∧ line.length ≤ 1000 ∧ RB2 B T l (splitL 32 line) H (SayQ2 P w K mg base k kvs N C dk dx l (splitL 32 line) H Q (SdE B T N L H Q)) (SdE B T N L H Q)) ∨
  (∃ t, TyOf K H x t ∧ PySem.W.kitOne K t (.type "str") = some false ∧ SdE B T N L H Q (.ref N) none H))
end Mr

namespace Mr
open PySem L2
/-! k83: what a desk tells of cuts -/
section
variable {P : Program} {w : World} {K : PySem.W.Frag} {mg : Str → Option Value} {base : Heap} {k : Nat} {kvs : List (Key × V)} {C B T N L dk dx : Addr} {l : List Nat} {H : Hp} {Q : VK} {E : XK}
theorem noCh1 {a : List Nat} (h1 : a ≠ wClear) (h2 : a ≠ wTake) : NoCh [a] :=
  ⟨fun z => h1 (List.cons.inj z).1, fun z => h2 (List.cons.inj z).1, fun _ z => by simp at z, fun _ z => by simp at z⟩
theorem short1 {a : List Nat} (h : a.length ≤ 1000) : ShortW [a] := ⟨(by show 1 ≤ 10000; decide), fun w hw => by rw [List.mem_singleton.mp hw]; exact h⟩
theorem said2_tell {a : List Nat} {g : List Nat → List Nat} (hw : 32 ∉ a ∧ a.length ≤ 1000 ∧ a ≠ wClear ∧ a ≠ wTake) (hA : Ask1 P w K mg base k kvs a g) (hdk : H dk = some (dkO C dx l)) (hrow : rowL l = true) (hl : l.length ≤ 12) (q : ∀ H', Same H H' → Q (.str (tx (g l))) H') : spSaid2 P w K mg base k kvs C B T N L [.ref dk, .str (tx a)] H Q E := by
  obtain ⟨f0, hv, hk⟩ := hA
  have e := splitL_no (c := 32) hw.1
  refine ⟨dk, dx, l, _, rfl, hdk, hrow, .inl ⟨a, rfl, hw.2.1, .inr (.inr (.inr ⟨?_, ?_, fun H' s' => .inr ⟨rfl, ?_, .inl ⟨a, f0, _, e, hv, .inl ⟨hk, l, rfl, hrow, hl, fun H'' s'' => q H'' (s'.trans s'')⟩⟩⟩⟩))⟩⟩
  · rw [e]; exact noCh1 hw.2.2.1 hw.2.2.2
  · rw [e]; exact short1 hw.2.1
  · rw [e]; exact short1 hw.2.1
def spSayN (P : Program) (w : World) (K : PySem.W.Frag) (mg : Str → Option Value) (base : Heap) (k : Nat) (kvs : List (Key × V)) (C B T N : Addr) : Sp := fun vs H Q _ => spSay2 P w K mg base k kvs C B T N vs H Q E0
theorem say2_add {a : List Nat} (ha : rowL a = true) (h0 : a ≠ []) (hs : l.length + a.length ≤ 200) (hdk : H dk = some (dkO C dx l)) (hrow : rowL l = true) (q : ∀ H', H' dk = some (dkO C dx (l ++ a)) → But dk H H' → Q (.str (tx (numL (l.length + a.length)))) H') :
    spSayN P w K mg base k kvs C B T N [.ref dk, .str (tx (wAdd ++ 32 :: a))] H Q E := by
  refine ⟨dk, dx, l, _, rfl, hdk, hrow, .inl ⟨_, rfl, by rw [List.length_append, List.length_cons]; show 3 + _ ≤ _; omega, .inr (.inr (.inl ⟨a, by rw [splitL_at (by decide), splitL_no (row_blank ha)], ha, h0, .inl ⟨hs, fun H' s' => .inl ⟨_, rfl, by rw [List.length_append]; omega, fun H'' e b => ?_⟩⟩⟩))⟩⟩
  rw [List.length_append]
  exact q H'' e b
end
end Mr
namespace Mr
open PySem L2
/-- what is due of each of the five lines -/
def Due83 (m : List Nat) (d : Nat) (kvs : List (Key × V)) : Prop := valV kvs (Sum.inr (tx wFewest)) = some (.str (tx (fFewest m))) ∧ valV kvs (Sum.inr (tx wCuts)) = some (.str (tx (fCuts m))) ∧ valV kvs (Sum.inr (tx wMore)) = some (.str (tx (fMore m))) ∧ valV kvs (Sum.inr (tx wEven)) = some (.str (tx (evenL m))) ∧ valV kvs (Sum.inr (tx (wCuts ++ 32 :: numL d))) = some (.str (tx (numL (cofN m d m.length))))
def due83 (m : List Nat) (d : Nat) : List (Key × V) := putK (putK (putK (putK (putK [] (Sum.inr (tx wFewest)) (.str (tx (fFewest m)))) (Sum.inr (tx wCuts)) (.str (tx (fCuts m)))) (Sum.inr (tx wMore)) (.str (tx (fMore m)))) (Sum.inr (tx wEven)) (.str (tx (evenL m)))) (Sum.inr (tx (wCuts ++ 32 :: numL d))) (.str (tx (numL (cofN m d m.length))))
def words83 (d : Nat) : List (List Nat) := [wFewest, wCuts, wMore, wEven, wCuts ++ 32 :: numL d]
end Mr

namespace Mr
open PySem L2
/-! k85: a desk at its bounds -/
section
variable {P : Program} {w : World} {K : PySem.W.Frag} {mg : Str → Option Value} {base : Heap} {k : Nat} {kvs : List (Key × V)} {C B T N L dk dx : Addr} {l : List Nat} {H : Hp} {Q : VK} {E : XK}
def AskT (P : Program) (w : World) (K : PySem.W.Frag) (mg : Str → Option Value) (base : Heap) (k : Nat) (kvs : List (Key × V)) (a : List Nat) (g : List Nat → List Nat) (m : Nat) : Prop := ∃ f0 : Addr, valV kvs (Sum.inr (tx a)) = some (.ref f0) ∧ KnF P w K mg base k f0 (spTellT g m)
def spLongX (c : Addr) : Sp := fun vs H _ E => ∃ l : List Nat, vs = [.str (tx l)] ∧ rowL l = true ∧ 60 < l.length ∧ ∀ H', Same H H' → E (.ref c) none H'
def AskX (P : Program) (w : World) (K : PySem.W.Frag) (mg : Str → Option Value) (base : Heap) (k : Nat) (kvs : List (Key × V)) (a : List Nat) (c : Addr) : Prop := ∃ f0 : Addr, valV kvs (Sum.inr (tx a)) = some (.ref f0) ∧ KnFX P w K mg base k f0 (spLongX c)
abbrev WordOk (a : List Nat) : Prop := 32 ∉ a ∧ a.length ≤ 1000 ∧ a ≠ wClear ∧ a ≠ wTake
/-- what is no line -/
theorem said2_no {line : List Nat} (hl : line.length ≤ 1000) (h1 : NoCh (splitL 32 line)) (h2 : NoAns kvs (splitL 32 line)) (hs : ShortW (splitL 32 line)) (hdk : H dk = some (dkO C dx l)) (hrow : rowL l = true) (q : ∀ p H'', H p = none → H'' p = some (.lst [.int 5]) → Same H H'' → Q (.ref p) H'') : spSaid2 P w K mg base k kvs C B T N L [.ref dk, .str (tx line)] H Q E :=
  ⟨dk, dx, l, _, rfl, hdk, hrow, .inl ⟨line, rfl, hl, .inr (.inr (.inr ⟨h1, hs, fun H' s' => .inr ⟨rfl, hs, .inr (.inr ⟨h2, fun H'' s'' => ⟨5, .inr (.inr (.inl ⟨rfl, rfl⟩)), q⟩⟩)⟩⟩))⟩⟩
end
def abc : List Nat := [97, 98, 99]
end Mr

namespace L2
open PySem PySem.W PySem.Spec PyProof.Rows PySem.SeqAt PySem.MeetsSeq
/-! ### one sign made great -/
section
variable {X : Cx}
def upC (c : Nat) : Nat := if 97 ≤ c ∧ c ≤ 122 then c - 32 else c
theorem mt_upper : MtR X "str.upper" (fun x vs H Q => ∃ c : Nat, x = .str (tx [c]) ∧ vs = [] ∧ c < 128 ∧ Q (.str (tx [upC c])) H) := by
  intro pins s σ H x xs v us Q I rx rs h
  obtain ⟨c, rfl, rfl, hc, q⟩ := h
  obtain ⟨t, rfl⟩ := rx
  cases rs
  refine KXw.upper (y := tx [upC c]) (KOpn.upper_one hc) ?_ fun t' k => ⟨.str (tx [upC c]), H, I.tok k, ⟨t', rfl⟩, q⟩
  rw [show tx [c] = ⟨#[c]⟩ from rfl, KOpn.upper_one hc]
  rfl
end
end L2

namespace Mr
open PySem L2
/-! k84: what is a line, what is none -/
def plain12 : List (List Nat) := [wClear, wRow, wBack, wLast, wLongest, wTree, wBehind, wAhead, wKinds, wFull, wFewest, wCuts]
def plain15 : List (List Nat) := [wClear, wRow, wBack, wLast, wLongest, wTree, wBehind, wAhead, wKinds, wFull, wFewest, wCuts, wMore, wEven, wTake]
def isNum2 (w : List Nat) : Bool := (decide (1 ≤ w.length) && decide (w.length ≤ 4)) && (!(decide (1 < w.length) && decide (w[0]? = some 48)) && w.all fun c => decide (c ∈ figs))
def isLine2 (a w : List Nat) : Bool := if a = wAdd then (!decide (w = []) && w.all fun c => decide (c ∈ lets)) else if a = wTake ∨ a = wCuts then isNum2 w else false
def isLineW : List (List Nat) → Bool
  | [a, w] => isLine2 a w
  | _ => false
def isLineB (line : List Nat) : Bool := decide (line ∈ plain15) || isLineW (splitL 32 line)
theorem split_one {c : Nat} : ∀ {l a : List Nat}, splitL c l = [a] → l = a
  | [], a, h => (List.cons.inj h).1
  | x :: r, a, h => by
    unfold splitL at h
    by_cases hx : x = c
    · rw [if_pos hx] at h
      have e := (List.cons.inj h).2
      cases r with
      | nil => cases e
      | cons y r =>
        have : (splitL c (y :: r)).length = 0 := by rw [e]; rfl
        unfold splitL at this
        split at this
        · simp at this
        · split at this <;> simp at this
    · rw [if_neg hx] at h
      cases e : splitL c r with
      | nil =>
        rw [e] at h
        exfalso
        cases r with
        | nil => cases e
        | cons y r =>
          unfold splitL at e
          split at e
          · cases e
          · split at e <;> cases e
      | cons w ws =>
        rw [e] at h
        obtain ⟨h1, h2⟩ := List.cons.inj h
        subst h2
        rw [split_one e, h1]
theorem num_eq {w : List Nat} (h : isNum2 w = false) : isNumB w = false := by
  cases e : isNumB w with
  | false => rfl
  | true =>
    unfold isNumB at e
    unfold isNum2 at h
    simp only [Bool.and_eq_true, Bool.or_eq_true, decide_eq_true_eq] at e
    obtain ⟨e1, e2, e3, e4⟩ := e
    rw [decide_eq_true e1, decide_eq_true e2, e3] at h
    have hb : (decide (1 < w.length) && decide (w[0]? = some 48)) = false := by
      rcases e4 with e4 | e4
      · rw [e4]; rfl
      · rw [decide_eq_false e4, Bool.and_false]
    rw [hb] at h
    cases h
theorem let_row {w : List Nat} (h : rowL w = true) : (w.all fun c => decide (c ∈ lets)) = true := by
  rw [List.all_eq_true]
  intro c hc
  have := (rowL_iff.mp h).2 c hc
  have key : ∀ c : Nat, c < 123 → 97 ≤ c → decide (c ∈ lets) = true := by decide
  exact key c (by omega) (by omega)
def asked13 : List (List Nat) := [wRow, wBack, wKinds, wFull, wLast, wTree, wLongest, wFewest, wCuts, wEven, wMore, wBehind, wAhead]
theorem asked_none {ts : List (Str × Tok × Addr)} (e : ts.map (·.1) = asked13.map tx) : ∀ a : List Nat, a ∉ asked13 → valV (ts.map fun p => ((.inr p.1 : Key), V.ref p.2.2)) (Sum.inr (tx a)) = none := by
  intro a ha
  have h : ∀ p ∈ ts, p.1 ≠ tx a := fun p hp z => by
    have : p.1 ∈ ts.map (·.1) := List.mem_map_of_mem hp
    rw [e] at this
    obtain ⟨w, hw, e2⟩ := List.mem_map.mp this
    exact ha (tx_inj (e2.trans z) ▸ hw)
  clear e
  induction ts with
  | nil => rfl
  | cons p ts ih =>
    rw [List.map_cons, valV_miss (h p List.mem_cons_self)]
    exact ih fun q hq => h q (List.mem_cons_of_mem _ hq)
theorem no_line {kvs : List (Key × V)} (hK : ∀ a : List Nat, a ∉ asked13 → valV kvs (Sum.inr (tx a)) = none) {line : List Nat} (h : isLineB line = false) : NoCh (splitL 32 line) ∧ NoAns kvs (splitL 32 line) := by
  unfold isLineB at h
  rw [Bool.or_eq_false_iff] at h
  obtain ⟨h1, h2⟩ := h
  have h1 : line ∉ plain15 := of_decide_eq_false h1
  refine ⟨⟨fun z => h1 ?_, fun z => h1 ?_, fun w z => ?_, fun w z => ?_⟩, fun a z => hK a fun ha => h1 ?_, fun w z => ?_⟩
  · rw [split_one z]; decide
  · rw [split_one z]; decide
  · rw [z] at h2
    have h2 : isLine2 wTake w = false := h2
    unfold isLine2 at h2
    rw [if_neg (by decide), if_pos (.inl rfl)] at h2
    exact num_eq h2
  · rw [z] at h2
    have h2 : isLine2 wAdd w = false := h2
    unfold isLine2 at h2
    rw [if_pos rfl] at h2
    by_cases hw : w = []
    · exact .inr hw
    · rw [decide_eq_false hw] at h2
      left
      cases e : rowL w with
      | false => rfl
      | true => rw [let_row e] at h2; cases h2
  · rw [split_one z]
    exact (by decide : ∀ a ∈ asked13, a ∈ plain15) a ha
  · rw [z] at h2
    have h2 : isLine2 wCuts w = false := h2
    unfold isLine2 at h2
    rw [if_neg (by decide), if_pos (.inr rfl)] at h2
    exact num_eq h2
theorem split_word {c : Nat} : ∀ {l w : List Nat}, w ∈ splitL c l → w.length ≤ l.length
  | [], w, h => by rw [List.mem_singleton.mp h]; exact Nat.le_refl _
  | x :: r, w, h => by
    unfold splitL at h
    by_cases hx : x = c
    · rw [if_pos hx] at h
      rcases List.mem_cons.mp h with rfl | h
      · exact Nat.zero_le _
      · exact Nat.le_trans (split_word h) (Nat.le_succ _)
    · rw [if_neg hx] at h
      cases e : splitL c r with
      | nil =>
        rw [e] at h
        rw [List.mem_singleton.mp h]
        exact Nat.succ_le_succ (Nat.zero_le _)
      | cons v vs =>
        rw [e] at h
        have hv : v ∈ splitL c r := by rw [e]; exact List.mem_cons_self
        rcases List.mem_cons.mp h with rfl | h
        · exact Nat.succ_le_succ (split_word hv)
        · exact Nat.le_trans (split_word (by rw [e]; exact List.mem_cons_of_mem _ h)) (Nat.le_succ _)
theorem split_short {line : List Nat} (h : line.length ≤ 1000) : ShortW (splitL 32 line) := ⟨by have := splitL_len 32 line; omega, fun w hw => Nat.le_trans (split_word hw) h⟩
/-- a text, or nothing of that kind -/
def TN (K : PySem.W.Frag) (H : Hp) (x : V) : Prop := (∃ l : List Nat, x = .str (tx l) ∧ l.length ≤ 1000) ∨ (∃ t, TyOf K H x t ∧ PySem.W.kitOne K t (.type "str") = some false)
def lineV (x : V) : Bool := match x with
  | .str z => isLineB z.cps.toList
  | _ => false
def spIsLine (K : PySem.W.Frag) : Sp := fun vs H Q _ => ∃ x : V, vs = [x] ∧ ((∃ l : List Nat, x = .str (tx l) ∧ l.length ≤ 1000 ∧ ∀ H', Same H H' → Q (.bl (isLineB l)) H') ∨ ((∃ t, TyOf K H x t ∧ PySem.W.kitOne K t (.type "str") = some false) ∧ ∀ H', Same H H' → Q (.bl false) H'))
def spBent84 : Sp := fun vs H Q _ => ∃ (b : Addr) (n : Int) (line : List Nat), vs = [.ref b, .str (tx line)] ∧ H b = some (.lst [.int n]) ∧ line ≠ [] ∧ line.length ≤ 20 ∧ (∀ c ∈ line, c < 128) ∧ ∀ (x : List Nat) (n' : Int) (H' : Hp), x.length ≤ 1000 → H' b = some (.lst [.int n']) → But b H H' → Q (.str (tx x)) H'
def spOdd84 (K : PySem.W.Frag) : Sp := fun vs H Q _ => ∃ (b : Addr) (n : Int), vs = [.ref b] ∧ H b = some (.lst [.int n]) ∧ ∀ (x : V) (n' : Int) (H' : Hp), TN K H' x → H' b = some (.lst [.int n']) → But b H H' → Q x H'
end Mr
namespace Mr
open PySem L2
theorem isLineW_ne {ws : List (List Nat)} (h : ws.length ≠ 2) : isLineW ws = false := by
  match ws, h with
  | [], _ => rfl
  | [_], _ => rfl
  | [_, _], h => exact absurd rfl h
  | _ :: _ :: _ :: _, _ => rfl
theorem isLine2_no {a w : List Nat} (h : a ∉ [wAdd, wTake, wCuts]) : isLine2 a w = false := by
  simp only [List.mem_cons, List.not_mem_nil, or_false, not_or] at h
  unfold isLine2
  rw [if_neg h.1, if_neg (by rintro (z | z); exact h.2.1 z; exact h.2.2 z)]
theorem flt_all (S : List Nat) : ∀ w : List Nat, ((w.filter fun c => !decide (c ∈ S)).map fun c => V.str (tx [c])).isEmpty = w.all fun c => decide (c ∈ S)
  | [] => rfl
  | c :: w => by
    rw [List.filter_cons, List.all_cons]
    by_cases h : c ∈ S
    · rw [decide_eq_true h, Bool.not_true, if_neg (by decide), flt_all S w, Bool.true_and]
    · rw [decide_eq_false h, Bool.not_false, if_pos rfl, Bool.false_and]
      rfl
theorem chars_flat (w : List Nat) : ((w.map fun c => V.str (tx [c])).all flatV) = true := by
  rw [List.all_map, List.all_eq_true]
  intro c _
  rfl
end Mr
namespace Mr
open PySem L2
theorem e_b00 : ("00" : Str) = tx [48, 48] := by decide
theorem e_b01 : ("01" : Str) = tx [48, 49] := by decide
theorem e_bm1 : ("-1" : Str) = tx [45, 49] := by decide
theorem e_b10000 : ("10000" : Str) = tx [49, 48, 48, 48, 48] := by decide
theorem e_bx : ("x" : Str) = tx [120] := by decide
theorem e_baB : ("aB" : Str) = tx [97, 66] := by decide
theorem e_ba1 : ("a1" : Str) = tx [97, 49] := by decide
theorem e_b10 : ("1.0" : Str) = tx [49, 46, 48] := by decide
theorem e_bAdd : ("Add" : Str) = tx [65, 100, 100] := by decide
theorem e_bnl : ("\n" : Str) = tx [10] := by decide
def odds84 : List (List Nat) := [[], [48], [48, 48], [48, 49], [45, 49], [49, 48, 48, 48, 48], [120], wRow, [97, 66], [97, 49], [49, 46, 48], [65, 100, 100], wTake]
theorem split_pos (c : Nat) : ∀ l : List Nat, 1 ≤ (splitL c l).length
  | [] => Nat.le_refl _
  | x :: r => by
    unfold splitL
    split
    · exact Nat.succ_le_succ (Nat.zero_le _)
    · split <;> exact Nat.succ_le_succ (Nat.zero_le _)
/-- a list of words: some of those that stood there, each short -/
def Wds (xs : List V) : Prop := ∃ zs : List (List Nat), xs = wordsV zs ∧ zs.length ≤ 30 ∧ ∀ w ∈ zs, w.length ≤ 20
theorem Wds.cut {ws : List (List Nat)} (h1 : ws.length ≤ 30) (h2 : ∀ w ∈ ws, w.length ≤ 20) (lo hi : Option Int) : ∃ zs : List (List Nat), cutV (wordsV ws) lo hi = wordsV zs ∧ zs.length ≤ ws.length ∧ ∀ w ∈ zs, w.length ≤ 20 := by
  refine ⟨(ws.drop (HT.sIx (wordsV ws).length 0 lo)).take (HT.sIx (wordsV ws).length (wordsV ws).length hi - HT.sIx (wordsV ws).length 0 lo), ?_, ?_, fun w hw => h2 w (List.mem_of_mem_drop (List.mem_of_mem_take hw))⟩
  · unfold cutV wordsV
    rw [← List.map_drop, ← List.map_take]
  · rw [List.length_take, List.length_drop]; omega
theorem sum20 {zs : List (List Nat)} (h : ∀ w ∈ zs, w.length ≤ 20) : (zs.map (·.length)).sum ≤ 20 * zs.length := by
  induction zs with
  | nil => simp
  | cons z zs ih =>
    have := ih fun w hw => h w (List.mem_cons_of_mem _ hw)
    have := h z List.mem_cons_self
    rw [List.map_cons, List.sum_cons, List.length_cons]
    omega
theorem join_short {zs : List (List Nat)} (h1 : zs.length ≤ 45) (h2 : ∀ w ∈ zs, w.length ≤ 20) : (joinL [32] zs).length ≤ 1000 ∧ (zs.map (·.length)).sum + [32].length * zs.length ≤ 16777216 := by
  have a := joinL_le [32] zs
  have b := sum20 h2
  simp only [List.length_singleton] at *
  omega
end Mr
namespace Mr
open PySem L2
theorem said2_nt {P : Program} {w : World} {K : PySem.W.Frag} {mg : Str → Option Value} {base : Heap} {k : Nat} {kvs : List (Key × V)} {C B T N L dk dx : Addr} {l : List Nat} {H : Hp} {Q : VK} {E : XK} {x : V} (hx : ∃ t, TyOf K H x t ∧ PySem.W.kitOne K t (.type "str") = some false) (hdk : H dk = some (dkO C dx l)) (hrow : rowL l = true) (q : ∀ p H'', H p = none → H'' p = some (.lst [.int 5]) → Same H H'' → Q (.ref p) H'') : spSaid2 P w K mg base k kvs C B T N L [.ref dk, x] H Q E :=
  let ⟨t, ty, hk⟩ := hx
  ⟨dk, dx, l, x, rfl, hdk, hrow, .inr ⟨t, ty, hk, 5, .inr (.inr (.inl ⟨rfl, rfl⟩)), q⟩⟩
def some84 : List (List Nat) := [wAdd ++ [32, 97, 98], wAdd ++ [32, 97], wTake ++ [32, 50], wTake, wCuts ++ [32, 51], wCuts, wRow, wEven, wMore, wTree, wClear, wFull]
theorem some84_ok : ∀ w ∈ some84, w ≠ [] ∧ w.length ≤ 20 ∧ ∀ c ∈ w, c < 128 := by decide
theorem e_s1 : ("add ab" : Str) = tx (wAdd ++ [32, 97, 98]) := by decide
theorem e_s2 : ("add a" : Str) = tx (wAdd ++ [32, 97]) := by decide
theorem e_s3 : ("take 2" : Str) = tx (wTake ++ [32, 50]) := by decide
theorem e_s4 : ("cuts 3" : Str) = tx (wCuts ++ [32, 51]) := by decide
end Mr

namespace Mr
open PySem L2
def top (i : Nat) : Stmt := PySem.Challenge.pw_mirrorruns_k84_no_lines.main.body.getD i (.Pass ⟨0, 0, 0, 0⟩)
abbrev sWhole : Stmt := top 15
abbrev sIsRow : Stmt := top 19
abbrev sNeedRow : Stmt := top 20
abbrev sBack : Stmt := top 21
abbrev s_reaches : Stmt := top 23
abbrev s_reach_around : Stmt := top 24
abbrev s_longest : Stmt := top 25
abbrev s_ends : Stmt := top 27
abbrev s_ends_ahead : Stmt := top 28
abbrev s_ends_by_place : Stmt := top 29
abbrev s_fewest_by_place : Stmt := top 31
abbrev s_fewest : Stmt := top 32
abbrev s_bounds : Stmt := top 33
abbrev s_cuts_by_last : Stmt := top 34
abbrev s_cuts_many : Stmt := top 35
abbrev s_cuts_of : Stmt := top 36
abbrev s_fewest_even_by_place : Stmt := top 37
abbrev s_even_ones : Stmt := top 38
abbrev s_fewest_even : Stmt := top 39
abbrev s_tree : Stmt := top 41
abbrev s_longest_entry : Stmt := top 42
abbrev s_kinds_many : Stmt := top 44
abbrev s_is_full : Stmt := top 45
abbrev s_need_short : Stmt := top 48
abbrev s_signs_more : Stmt := top 49
abbrev s_mend_table : Stmt := top 50
abbrev s_more_for : Stmt := top 51
abbrev s_mended_behind : Stmt := top 52
abbrev s_mended_ahead : Stmt := top 53
abbrev s_text_or_none : Stmt := top 57
abbrev s_tell_row : Stmt := top 58
abbrev s_tell_back : Stmt := top 59
abbrev s_tell_kinds : Stmt := top 60
abbrev s_tell_full : Stmt := top 61
abbrev s_tell_last : Stmt := top 62
abbrev s_tell_tree : Stmt := top 63
abbrev s_tell_longest : Stmt := top 64
abbrev s_tell_fewest : Stmt := top 65
abbrev s_tell_cuts : Stmt := top 66
abbrev s_tell_even : Stmt := top 67
abbrev s_tell_more : Stmt := top 68
abbrev s_tell_behind : Stmt := top 69
abbrev s_tell_ahead : Stmt := top 70
abbrev s_is_number : Stmt := top 72
abbrev s_with_added : Stmt := top 73
abbrev s_with_taken : Stmt := top 74
abbrev s_row_behind : Stmt := top 75
abbrev s_answer_to : Stmt := top 76
abbrev s_Desk_init : Stmt := inClass (top 77) 0
abbrev s_Desk_say : Stmt := inClass (top 77) 1
abbrev sBox : Stmt := top 79
abbrev sTake : Stmt := top 80
abbrev sOdd : Stmt := top 81
abbrev sRow : Stmt := top 82
abbrev s_law_classes : Stmt := top 83
abbrev s_law_only : Stmt := top 84
abbrev s_law_said : Stmt := top 85
abbrev s_law_bent : Stmt := top 86
abbrev s_law_is_line : Stmt := top 87
abbrev sLaw : Stmt := top 88
end Mr

namespace Mr
open PySem L2
section
variable {P : Program} {w : World} {K : PySem.W.Frag} {mg : Str → Option Value} {base : Heap}
theorem scIsRow : FnScope ["thing"] ["thing"] (defScope sIsRow) := ⟨rfl, rfl, rfl, by decide +kernel, rfl, by decide +kernel, by decide +kernel⟩
theorem ok_isrow (a : At K mg "is_row" sIsRow ["thing"]) (zi : mg "isinstance" = none) (zs : mg "str" = none) (zl : mg "len" = none) (za : mg "all" = none) {tM tL : Tok} (hM : mg "MOST_SIGNS" = some (.int 200 tM)) (hL : mg "LETTERS" = some (.str (tx lets) tL)) :
    Df P w K mg base 1 "is_row" ["thing"] (spIsRow K) := by
  refine a.df fun f fd F => ?_
  refine F.ok scIsRow (fun vs H Q E h => ?_) (fun cdv A outer s H vs Q E hr h => ?_)
  · obtain ⟨_, rfl, _⟩ := h
    rfl
  · obtain ⟨x, rfl, hT, q⟩ := h
    refine ⟨_, pss_cons (ps_if (pw_or (pt_not (pt_val (pe_callB call_isT (by rfl) zi bt_isinstance (pa_cons (pv 0) (pa_cons (pe_bltn (v := .ty "str") (by rfl) zs bt_str rfl) pa_nil)))))
        (pw_or1 (pt_cmpR op_gt (pe_callB call_len_str (by rfl) zl bt_len (pa_cons (pv 0) pa_nil)) (pe_glob (v := .int 200) (by rfl) hM ⟨_, rfl⟩) (nomark _)))).pt (pss_one (ps_ret pe_bl)) pss_nil)
      (pss_one (ps_ret (pe_callB (call_allB rfl) (by rfl) za bt_all (pa_cons (pe_comp (ys := []) (ix := []) ⟨rfl, by decide +kernel, rfl, by decide +kernel, rfl, by decide +kernel, trivial, rfl, trivial⟩ rfl
        (pi_str (pv 0)) (fun C fp s H => pts_nil) (fun C fp s H => pe_cmpR op_inS (pv 0) (pe_glob (X := cmpCx _ _ _ _ C fp s H) (v := .str (tx lets)) (by rfl) hL ⟨_, rfl⟩) (by with_unfolding_all rfl))) pa_nil)))), ?_⟩
    rcases hT with ⟨l, rfl, hl⟩ | ⟨hrow, _, t, ty, hk⟩
    · have hz : l.length ≤ sizeLine := by rw [sizeLine_eq]; omega
      refine ⟨_, rfl, _, "str", _, true, rfl, .str _, by rfl, _, rfl, iteF ?_⟩
      refine ⟨_, rfl, tx l, rfl, by rw [tx_len]; exact hz, _, _, rfl, rfl, _, rfl, ite2 (fun h1 => ?_) (fun h1 => ?_)⟩
      · have h2 : 200 < l.length := by have := of_decide_eq_true h1; rw [tx_len] at this; omega
        have e : rowV (.str (tx l)) = false := by
          show rowL l = false
          unfold rowL
          rw [decide_eq_false (by omega)]; rfl
        have q' := q H (Same.refl _)
        rw [e] at q'
        exact q'
      · have h2 : l.length ≤ 200 := by
          have : ¬ ((200 : Int) < ((tx l).length : Int)) := fun z => h1 (decide_eq_true z)
          rw [tx_len] at this; omega
        refine ⟨_, rfl, l, rfl, comp_str (l := l) hz (fun i ys H' => H' = H ∧ ys = (l.take i).map fun c => V.bl (decide (c ∈ lets))) ⟨rfl, rfl⟩ ?_ ?_⟩
        · rintro i c ys H' N hc hy ⟨rfl, rfl⟩ hN
          refine yes_ok (iteT ⟨_, rfl, c, lets, rfl, rfl, hN _ _ (by simp; omega) ⟨rfl, ?_⟩⟩)
          rw [List.take_succ, hc]
          simp
        · rintro ys H' hy ⟨rfl, rfl⟩ p hp
          refine ⟨p, l.map fun c => decide (c ∈ lets), rfl, SqL.of (by rw [upd_same, List.take_of_length_le (Nat.le_refl _), List.map_map]; rfl), ?_⟩
          have e : rowV (.str (tx l)) = (l.map fun c => decide (c ∈ lets)).all id := by
            show rowL l = _
            unfold rowL
            rw [decide_eq_true h2, Bool.true_and, List.all_map]; rfl
          rw [← e]
          exact q _ (Same.upd hp)
    · refine ⟨_, rfl, _, "str", _, false, rfl, ty, hk, _, rfl, iteT (iteT ?_)⟩
      have q' := q H (Same.refl _)
      rw [hrow] at q'
      exact q'
end
end Mr

namespace Mr
open PySem L2
section
variable {P : Program} {w : World} {K : PySem.W.Frag} {mg : Str → Option Value} {base : Heap}
theorem scNeed : FnScope ["thing"] ["thing"] (defScope sNeedRow) := ⟨rfl, rfl, rfl, by decide +kernel, rfl, by decide +kernel, by decide +kernel⟩
theorem ok_need (a : At K mg "need_row" sNeedRow ["thing"]) (dR : Df P w K mg base 1 "is_row" ["thing"] (spIsRow K)) : Df P w K mg base 2 "need_row" ["thing"] spNeed := by
  refine a.df fun f fd F => ?_
  refine F.ok scNeed (fun vs H Q E h => ?_) (fun cdv A outer s H vs Q E hr h => ?_)
  · obtain ⟨_, rfl, _⟩ := h
    rfl
  · obtain ⟨l, rfl, hrow, q⟩ := h
    refine ⟨_, pss_one (ps_if (pt_not (pt_val (pe_df dR hr rfl (pa_cons (pv 0) pa_nil)))) pss_never pss_nil), ?_⟩
    refine ⟨_, rfl, _, rfl, row_thing hrow, fun H' hs => ⟨_, rfl, ?_⟩⟩
    have e : rowV (.str (tx l)) = true := hrow
    rw [e]
    exact iteF (q H' hs)
end
end Mr

namespace Mr
open PySem L2
section
variable {P : Program} {w : World} {K : PySem.W.Frag} {mg : Str → Option Value} {base : Heap}
theorem scWhole : FnScope ["thing"] ["thing"] (defScope sWhole) := ⟨rfl, rfl, rfl, by decide +kernel, rfl, by decide +kernel, by decide +kernel⟩
theorem ok_whole (a : At K mg "is_whole" sWhole ["thing"]) (zi : mg "isinstance" = none) (zn : mg "int" = none) (zb : mg "bool" = none) : Df P w K mg base 1 "is_whole" ["thing"] spWhole := by
  refine a.df fun f fd F => ?_
  refine F.ok scWhole (fun vs H Q E h => ?_) (fun cdv A outer s H vs Q E hr h => ?_)
  · obtain ⟨_, rfl, _⟩ := h
    rfl
  · obtain ⟨x, rfl, hS, q⟩ := h
    refine ⟨_, (pss_one (ps_ret (pe_and (pe_callB call_isT (by rfl) zi bt_isinstance (pa_cons (pv 0) (pa_cons (pe_bltn (v := .ty "int") (by rfl) zn bt_int rfl) pa_nil))) (pe_one (pe_not (pe_callB call_isT (by rfl) zi bt_isinstance (pa_cons (pv 0) (pa_cons (pe_bltn (v := .ty "bool") (by rfl) zb bt_bool rfl) pa_nil)))))))), ?_⟩
    cases x with
    | non => exact ⟨_, rfl, _, "int", _, false, rfl, .non, rfl, _, rfl, iteF q⟩
    | str z => exact ⟨_, rfl, _, "int", _, false, rfl, .str _, rfl, _, rfl, iteF q⟩
    | int i => exact ⟨_, rfl, _, "int", _, true, rfl, .int _, rfl, _, rfl, iteT ⟨_, rfl, _, "bool", _, false, rfl, .int _, rfl, _, rfl, q⟩⟩
    | bl b => exact ⟨_, rfl, _, "int", _, true, rfl, .bl _, rfl, _, rfl, iteT ⟨_, rfl, _, "bool", _, true, rfl, .bl _, rfl, _, rfl, q⟩⟩
    | _ => exact hS.elim
end
end Mr

namespace Mr
open PySem L2
section
variable {P : Program} {w : World} {K : PySem.W.Frag} {mg : Str → Option Value} {base : Heap}
theorem scRA : FnScope ["row", "middle", "first", "behind"] ["row", "middle"] (defScope s_reach_around) := ⟨rfl, rfl, rfl, by decide +kernel, rfl, by decide +kernel, by decide +kernel⟩
set_option maxHeartbeats 4000000 in
theorem ok_reach_around (a : At K mg "reach_around" s_reach_around ["row", "middle"]) (z_len : mg "len" = none) : Df P w K mg base 1 "reach_around" ["row", "middle"] spReachA := by
  refine a.df fun f fd F => ?_
  refine F.ok scRA (fun vs H Q E h => ?_) (fun cdv A outer s H vs Q E hr h => ?_)
  · obtain ⟨_, _, rfl, _⟩ := h
    rfl
  · obtain ⟨l, m, rfl, hrow, hm, q⟩ := h
    have hlen := (rowL_iff.mp hrow).1
    have hz : l.length ≤ sizeLine := by rw [sizeLine_eq]; omega
    refine ⟨_, (pss_cons (ps_set (i := 2) scRA.nd rfl (Or.inl rfl) (pe_op op_fdiv (pe_op op_add (pv 1) pe_int) pe_int))
      (pss_cons (ps_set (i := 3) scRA.nd rfl (Or.inl rfl) (pe_op op_sub (pe_op op_add (pv 1) pe_int) (pv 2)))
      (pss_cons (ps_while PassesOwn.never (PW.pt (pw_and (pt_cmpR op_gt (pv 2) pe_int (nomark _)) (pw_and (pt_cmpR op_lt (pv 3) (pe_callB call_len_str (by rfl) z_len bt_len (pa_cons (pv 0) pa_nil)) (nomark _)) (pw_and1 (pt_cmpR op_eq (pe_ix ix_strS (pv 0) (pe_op op_sub (pv 2) pe_int) (fun _ _ => rfl)) (pe_ix ix_strS (pv 0) (pv 3) (fun _ _ => rfl)) (nomark _)))))) (pss_cons (ps_set (i := 2) scRA.nd rfl (Or.inl rfl) (pe_op op_sub (pv 2) pe_int))
      (pss_one (ps_set (i := 3) scRA.nd rfl (Or.inl rfl) (pe_op op_add (pv 3) pe_int)))))
      (pss_one (ps_ret (pe_op op_sub (pv 3) (pv 2))))))), ?_⟩
    refine ⟨_, rfl, _, _, rfl, rfl, _, _, rfl, rfl, ⟨by decide, by decide⟩, ?_⟩
    refine ⟨_, rfl, _, _, rfl, rfl, _, rfl, _, _, rfl, rfl, ?_⟩
    have e1 : ((m : Int) + 1) / 2 = (((m + 1) / 2 : Nat) : Int) := by omega
    have e2 : (m : Int) + 1 - (((m + 1) / 2 : Nat) : Int) = ((m + 1 - (m + 1) / 2 : Nat) : Int) := by omega
    refine ⟨fun k σ H' => ∃ f b : Nat, k = f ∧ f ≤ b ∧ b ≤ l.length ∧ grow l f b = reachN l m ∧ σ = [some (.str (tx l)), some (.int (m : Int)), some (.int (f : Int)), some (.int (b : Int))] ∧ H' = H, ⟨(m + 1) / 2, (m + 1) / 2, m + 1 - (m + 1) / 2, rfl, by omega, by omega, rfl, ?_, rfl⟩, ?_⟩
    · show [some (V.str (tx l)), some (V.int (m : Int)), some (V.int (((m : Int) + 1) / 2)), some (V.int ((m : Int) + 1 - ((m : Int) + 1) / 2))] = _
      rw [e1, e2]
    rintro k σ H' ⟨x, y, ek, hfb, hb, hg, rfl, rfl⟩
    have out : (∀ y1 x1 : Nat, x = x1 + 1 → ¬ (y < l.length ∧ l[x1]? = l[y]?)) → Q (.int ((y : Int) - (x : Int))) H' := by
      intro h
      have e : reachN l m = y - x := by
        rw [← hg]
        cases x with
        | zero => rfl
        | succ x1 => unfold grow; rw [if_neg (h 0 x1 rfl)]
      have e3 : (y : Int) - (x : Int) = ((reachN l m : Nat) : Int) := by omega
      rw [e3]; exact q
    refine ⟨_, rfl, _, _, rfl, rfl, _, rfl, ite2 (fun h1 => ?_) (fun h1 => iteF ⟨_, rfl, _, rfl, _, _, rfl, rfl, out ?_⟩)⟩
    · have hf : 0 < x := by have := of_decide_eq_true h1; omega
      refine ⟨_, rfl, _, rfl, tx l, rfl, (by rw [tx_len]; exact hz), _, _, rfl, rfl, _, rfl, ite2 (fun h2 => ?_) (fun h2 => iteF ⟨_, rfl, _, rfl, _, _, rfl, rfl, out ?_⟩)⟩
      · have hb2 : y < l.length := by have := of_decide_eq_true h2; rw [tx_len] at this; omega
        have ef : (x : Int) - 1 = ((x - 1 : Nat) : Int) := by omega
        have g1 : l[x - 1]? = some l[x - 1] := List.getElem?_eq_getElem (by omega)
        have g2 : l[y]? = some l[y] := List.getElem?_eq_getElem (by omega)
        refine ⟨_, rfl, _, rfl, _, _, rfl, rfl, l, _, l[x - 1], rfl, rfl, hz, (by rw [ef, atI_nat]; exact g1), _, rfl, _, rfl, l, _, l[y], rfl, rfl, hz, (by rw [atI_nat]; exact g2), rfl, _, rfl, ?_⟩
        rw [dec_tx]
        refine ite2 (fun h3 => ?_) (fun h3 => ⟨_, rfl, _, rfl, _, _, rfl, rfl, out ?_⟩)
        · have h4 : l[x - 1]? = l[y]? := by rw [g1, g2]; have := of_decide_eq_true h3; injection this with h5; rw [h5]
          refine ⟨fun σ' H3 => σ' = [some (.str (tx l)), some (.int (m : Int)), some (.int ((x - 1 : Nat) : Int)), some (.int ((y + 1 : Nat) : Int))] ∧ H3 = H', fun σ' H3 ⟨e1, e2⟩ => ⟨x - 1, by omega, x - 1, y + 1, rfl, by omega, by omega, ?_, e1, e2⟩, ?_⟩
          · rw [← hg]
            obtain ⟨x1, rfl⟩ : ∃ x1, x = x1 + 1 := ⟨x - 1, by omega⟩
            rw [grow, if_pos ⟨hb2, h4⟩]
            rfl
          · refine ⟨_, rfl, _, _, rfl, rfl, _, rfl, _, _, rfl, rfl, ?_, rfl⟩
            show [some (V.str (tx l)), some (V.int (m : Int)), some (V.int ((x : Int) - 1)), some (V.int ((y : Int) + 1))] = _
            rw [ef]; rfl
        · intro _ x1 e ⟨_, h4⟩
          subst e
          apply h3
          rw [decide_eq_true]
          have x : x1 + 1 - 1 = x1 := rfl
          rw [g2] at h4
          have g1' : l[x1]? = some l[x1] := List.getElem?_eq_getElem (by omega)
          rw [g1'] at h4
          injection h4 with h5
          exact congrArg (fun c => [c]) h5
      · intro _ x1 e ⟨h3, _⟩
        apply h2
        apply decide_eq_true
        rw [tx_len]; omega
    · intro _ x1 e _
      apply h1
      apply decide_eq_true
      omega
end
end Mr

namespace Mr
open PySem L2
section
variable {P : Program} {w : World} {K : PySem.W.Frag} {mg : Str → Option Value} {base : Heap}
theorem scReaches : FnScope ["row"] ["row"] (defScope s_reaches) := ⟨rfl, rfl, rfl, by decide +kernel, rfl, by decide +kernel, by decide +kernel⟩
set_option maxHeartbeats 4000000 in
theorem ok_reaches (a : At K mg "reaches" s_reaches ["row"]) (d_need_row : Df P w K mg base 2 "need_row" ["thing"] spNeed) (d_reach_around : Df P w K mg base 1 "reach_around" ["row", "middle"] spReachA) (z_len : mg "len" = none) (z_range : mg "range" = none) : Df P w K mg base 3 "reaches" ["row"] (spLens reachesN) := by
  refine a.df fun f fd F => ?_
  refine F.ok scReaches (fun vs H Q E h => ?_) (fun cdv A outer s H vs Q E hr h => ?_)
  · obtain ⟨_, rfl, _⟩ := h
    rfl
  · obtain ⟨l, rfl, hrow, q⟩ := h
    have hlen := (rowL_iff.mp hrow).1
    have hz : l.length ≤ sizeLine := by rw [sizeLine_eq]; omega
    refine ⟨_, (pss_cons (ps_expr (pe_df d_need_row hr rfl (pa_cons (pv 0) pa_nil)))
      (pss_one (ps_ret (pe_comp (ys := ["row"]) (ix := [0]) ⟨rfl, by decide +kernel, rfl, by decide +kernel, rfl, by decide +kernel, ⟨rfl, trivial⟩, rfl, ⟨⟨rfl, rfl, rfl, rfl⟩, trivial⟩⟩ rfl (pi_range1 rfl z_range (pa_cons (pe_op op_sub (pe_op op_mul pe_int (pe_callB call_len_str (by rfl) z_len bt_len (pa_cons (pv 0) pa_nil))) pe_int) pa_nil)) (fun C fp s H => pts_nil) (fun C fp s H => (pe_df (X := cmpCx _ _ _ _ C fp s H) d_reach_around hr rfl (pa_cons (pv 1) (pa_cons (pv 0) pa_nil)))))))), ?_⟩
    refine ⟨_, rfl, l, rfl, hrow, fun H1 s1 => ?_⟩
    refine ⟨_, rfl, tx l, rfl, (by rw [tx_len]; exact hz), _, _, rfl, rfl, .inl ⟨by decide, by decide⟩, _, _, rfl, rfl, _, rfl, (by rw [tx_len]; omega), (by rw [tx_len]; omega), ?_⟩
    rw [tx_len]
    have en : (2 * (l.length : Int) - 1).toNat = 2 * l.length - 1 := by omega
    rw [en]
    refine comp_range (n := 2 * l.length - 1) (by rw [sizeLine_eq]; omega) (fun i ys H' => H' = H1 ∧ ys = lensV ((List.range i).map (reachN l))) ⟨rfl, rfl⟩ ?_ ?_
    · rintro i ys H' N hi hy ⟨rfl, rfl⟩ hN
      refine yes_ok (iteT ⟨_, rfl, _, rfl, l, i, ?_, hrow, by omega, hN _ _ (by simp [lensV]) ⟨rfl, ?_⟩⟩)
      · show [V.str (tx l), V.int (0 + (i : Int))] = _
        rw [Int.zero_add]
      · rw [List.range_succ, List.map_append, lensV_app]
        rfl
    · rintro ys H' hy ⟨rfl, rfl⟩ p hp
      exact q p _ (s1.free hp) upd_same (s1.trans (Same.upd hp))
end
end Mr

namespace Mr
open PySem L2
section
variable {P : Program} {w : World} {K : PySem.W.Frag} {mg : Str → Option Value} {base : Heap}
theorem scEA : FnScope ["told", "behind"] ["told", "behind"] (defScope s_ends_ahead) := ⟨rfl, rfl, rfl, by decide +kernel, rfl, by decide +kernel, by decide +kernel⟩
set_option maxHeartbeats 4000000 in
theorem ok_ends_ahead (a : At K mg "ends_ahead" s_ends_ahead ["told", "behind"]) (z_range : mg "range" = none) : Df P w K mg base 1 "ends_ahead" ["told", "behind"] spEA := by
  refine a.df fun f fd F => ?_
  refine F.ok scEA (fun vs H Q E h => ?_) (fun cdv A outer s H vs Q E hr h => ?_)
  · obtain ⟨_, _, _, rfl, _⟩ := h
    rfl
  · obtain ⟨p, l, b, rfl, hlen, hb, hp, q⟩ := h
    refine ⟨_, (pss_one (ps_ret (pe_comp (ys := ["behind", "told"]) (ix := [1, 0]) ⟨rfl, by decide +kernel, rfl, by decide +kernel, rfl, by decide +kernel, ⟨rfl, rfl, trivial⟩, rfl, ⟨⟨rfl, rfl, rfl, rfl⟩, ⟨rfl, rfl, rfl, rfl⟩, trivial⟩⟩ rfl (pi_range1 rfl z_range (pa_cons (pv 1) pa_nil)) (fun C fp s H => (pts_one (pt_cmpR op_ge (pe_ix (ix_listK (K := K) rfl) (pv 2) (pe_op op_sub (pe_op op_add (pv 0) (pv 1)) pe_int) (fun _ _ => rfl)) (pe_op op_sub (pv 1) (pv 0)) (nomark _)))) (fun C fp s H => (pe_op op_sub (pv 1) (pv 0)))))), ?_⟩
    refine ⟨_, rfl, _, rfl, by omega, by omega, ?_⟩
    have en : ((b : Int)).toNat = b := by omega
    rw [en]
    refine comp_range (n := b) (by rw [sizeLine_eq]; omega) (fun i ys H' => H' = H ∧ ys = lensV (((downs b).take i).filter fun k => decide (k ≤ reachN l (b - k + b - 1)))) ⟨rfl, rfl⟩ ?_ ?_
    · rintro i ys H' N hi hy ⟨rfl, rfl⟩ hN
      have hfl := filt_take (fun k => decide (k ≤ reachN l (b - k + b - 1))) hi
      have ei : (0 : Int) + (i : Int) + (b : Int) - 1 = ((i + b - 1 : Nat) : Int) := by omega
      refine ⟨_, rfl, _, rfl, _, rfl, _, _, rfl, rfl, _, _, rfl, rfl, p, _, _, .int ((reachN l (i + b - 1) : Nat) : Int), rfl, rfl, SqL.of hp, ?_, _, rfl, _, rfl, _, _, rfl, rfl, _, _, rfl, rfl, _, rfl, ?_⟩
      · rw [ei, atI_nat]
        show (lensV (reachesN l))[i + b - 1]? = _
        unfold lensV
        rw [List.getElem?_map, reachesN_at (by omega)]
        rfl
      have ek : b - (b - i) = i := by omega
      have e0 : (b : Int) - (0 + (i : Int)) = ((b - i : Nat) : Int) := by omega
      rw [e0]
      refine ite2 (fun h1 => ?_) (fun h1 => ?_)
      · have h2 : b - i ≤ reachN l (i + b - 1) := by have := of_decide_eq_true h1; omega
        refine ⟨_, rfl, _, rfl, _, _, rfl, rfl, hN _ _ (by rw [List.length_append]; simp; omega) ⟨rfl, ?_⟩⟩
        show _ ++ [V.int ((b : Int) - (0 + (i : Int)))] = _
        rw [e0, hfl, if_pos (decide_eq_true (by rw [ek]; exact h2)), lensV_app]
        rfl
      · have h2 : ¬ b - i ≤ reachN l (i + b - 1) := fun z => h1 (decide_eq_true (by omega))
        refine hN _ _ (by omega) ⟨rfl, ?_⟩
        rw [hfl, if_neg (by rw [decide_eq_false (by rw [ek]; exact h2)]; decide), List.append_nil]
    · rintro ys H' hy ⟨rfl, rfl⟩ p' hp'
      rw [downs_all, ← ends_ahead_eq hb]
      exact q p' _ hp' upd_same (Same.upd hp')
end
end Mr

namespace Mr
open PySem L2
section
variable {P : Program} {w : World} {K : PySem.W.Frag} {mg : Str → Option Value} {base : Heap}
theorem scEBP : FnScope ["row", "told"] ["row"] (defScope s_ends_by_place) := ⟨rfl, rfl, rfl, by decide +kernel, rfl, by decide +kernel, by decide +kernel⟩
set_option maxHeartbeats 4000000 in
theorem ok_ebp (a : At K mg "ends_by_place" s_ends_by_place ["row"]) (d_reaches : Df P w K mg base 3 "reaches" ["row"] (spLens reachesN)) (d_ends_ahead : Df P w K mg base 1 "ends_ahead" ["told", "behind"] spEA) (z_len : mg "len" = none) (z_range : mg "range" = none) : Df P w K mg base 4 "ends_by_place" ["row"] spEBP := by
  refine a.df fun f fd F => ?_
  refine F.ok scEBP (fun vs H Q E h => ?_) (fun cdv A outer s H vs Q E hr h => ?_)
  · obtain ⟨_, rfl, _⟩ := h
    rfl
  · obtain ⟨l, rfl, hrow, q⟩ := h
    have hlen := (rowL_iff.mp hrow).1
    have hz : l.length ≤ sizeLine := by rw [sizeLine_eq]; omega
    refine ⟨_, (pss_cons (ps_set (i := 1) scEBP.nd rfl (Or.inr rfl) (pe_df d_reaches hr rfl (pa_cons (pv 0) pa_nil)))
      (pss_one (ps_ret (pe_comp (ys := ["told"]) (ix := [1]) ⟨rfl, by decide +kernel, rfl, by decide +kernel, rfl, by decide +kernel, ⟨rfl, trivial⟩, rfl, ⟨⟨rfl, rfl, rfl, rfl⟩, trivial⟩⟩ rfl (pi_range1 rfl z_range (pa_cons (pe_op op_add (pe_callB call_len_str (by rfl) z_len bt_len (pa_cons (pv 0) pa_nil)) pe_int) pa_nil)) (fun C fp s H => pts_nil) (fun C fp s H => (pe_df (X := cmpCx _ _ _ _ C fp s H) d_ends_ahead hr rfl (pa_cons (pv 1) (pa_cons (pv 0) pa_nil)))))))), ?_⟩
    refine ⟨_, rfl, l, rfl, hrow, fun pr H1 hfr hpr s1 => ?_⟩
    refine ⟨_, rfl, tx l, rfl, (by rw [tx_len]; exact hz), _, _, rfl, rfl, _, rfl, (by rw [tx_len]; omega), (by rw [tx_len]; omega), ?_⟩
    rw [tx_len]
    have en : ((l.length : Int) + 1).toNat = l.length + 1 := by omega
    rw [en]
    refine comp_range (n := l.length + 1) (by rw [sizeLine_eq]; omega) (fun i ys H' => LenV H' ys ((List.range i).map fun b => endsN (l.take b)) ∧ H' pr = some (.lst (lensV (reachesN l))) ∧ Same H H') ⟨ReV.nil, hpr, s1⟩ ?_ ?_
    · rintro i ys H2 N hi hy ⟨hL, hp2, s2⟩ hN
      refine yes_ok (iteT ⟨_, rfl, _, rfl, pr, l, i, ?_, hlen, by omega, hp2, fun p' H3 hf3 hp3 s3 => hN _ _ (by simp; omega) ⟨?_, s3 _ _ hp2, s2.trans s3⟩⟩)
      · show [V.ref pr, V.int (0 + (i : Int))] = _
        rw [Int.zero_add]
      · rw [List.range_succ, List.map_append]
        exact ReV.push (hL.mono fun p e h => s3 _ _ h) hp3
    · rintro ys H2 hy ⟨hL, hp2, s2⟩ p hp
      exact q p ys _ (s2.free hp) upd_same (hL.mono fun p' e h => (Same.upd hp) _ _ h) (s2.trans (Same.upd hp))
end
end Mr

namespace Mr
open PySem L2
section
variable {P : Program} {w : World} {K : PySem.W.Frag} {mg : Str → Option Value} {base : Heap}
theorem scTake4 : FnScope ["_law_box_here", "_law_many", "_law_left", "_law_digit"] ["_law_box_here", "_law_many"] (defScope sTake) := ⟨rfl, rfl, rfl, by decide +kernel, rfl, by decide +kernel, by decide +kernel⟩
theorem ok_take4 (a : At K mg "_law_take" sTake ["_law_box_here", "_law_many"]) (zd : mg "divmod" = none) : Df P w K mg base 1 "_law_take" ["_law_box_here", "_law_many"] spTakeI := by
  refine a.df fun f fd F => ?_
  refine F.ok scTake4 (fun vs H Q E h => ?_) (fun cdv A outer s H vs Q E hr h => ?_)
  · obtain ⟨_, _, _, rfl, _⟩ := h
    rfl
  · obtain ⟨b, n, m, rfl, hb, h1, h2, q⟩ := h
    refine ⟨_, pss_cons (ps_asg (pe_callB call_divmod (by rfl) zd bt_divmod (pa_cons (pe_ix ix_list (pv 0) pe_int (fun _ _ => rfl)) (pa_cons (pv 1) pa_nil)))
        (pg_tup rfl (pgs_cons (pg_name (i := 2) scTake4.nd rfl (Or.inl rfl)) (pgs_cons (pg_name (i := 3) scTake4.nd rfl (Or.inl rfl)) pgs_nil))))
      (pss_cons (ps_asg (pv 2) (pg_sub (pv 0) pe_int set_list)) (pss_one (ps_ret (pv 3)))), ?_⟩
    refine ⟨_, rfl, b, _, _, _, rfl, rfl, SqL.of hb, atI_nat (j := 0) rfl, _, rfl, _, _, rfl, ⟨h1, by omega⟩, fun p hp => ?_⟩
    have nb : b ≠ p := ne_of_none hb hp
    refine ⟨p, _, rfl, SqT.of upd_same, rfl, _, _, rfl, _, _, rfl, rfl, ?_⟩
    refine ⟨_, rfl, _, rfl, b, _, _, 0, rfl, rfl, (by rw [upd_ne nb]; exact hb), rfl, ?_⟩
    refine ⟨_, rfl, ?_⟩
    refine q _ (n / m) _ (Int.emod_nonneg _ (by omega)) (Int.emod_lt_of_pos _ h1) upd_same fun c o e hc => ?_
    rw [upd_ne hc, upd_ne (ne_of_none e hp)]
    exact e
end
end Mr

namespace Mr
open PySem L2
section
variable {P : Program} {w : World} {K : PySem.W.Frag} {mg : Str → Option Value} {base : Heap}
theorem scBox4 : FnScope ["_law_script", "_law_k", "_law_here", "_law_number", "_law_j", "_law_part"] ["_law_script", "_law_k"] (defScope sBox) := ⟨rfl, rfl, rfl, by decide +kernel, rfl, by decide +kernel, by decide +kernel⟩
set_option maxHeartbeats 4000000 in
theorem ok_box4 (a : At K mg "_law_box" sBox ["_law_script", "_law_k"]) (z_len : mg "len" = none) (z_range : mg "range" = none) : Df P w K mg base 2 "_law_box" ["_law_script", "_law_k"] (spBoxI K) := by
  refine a.df fun f fd F => ?_
  refine F.ok scBox4 (fun vs H Q E h => ?_) (fun cdv A outer s H vs Q E hr h => ?_)
  · obtain ⟨_, _, _, rfl, _⟩ := h
    rfl
  · obtain ⟨a, ns, k, rfl, hS, h0, q⟩ := h
    refine ⟨_, (pss_cons (ps_set (i := 2) scBox4.nd rfl (Or.inl rfl) (pe_op op_add (pe_op op_mul pe_int (pv 1)) pe_int))
      (pss_cons (ps_if (pt_cmpR op_lt (pv 1) (pe_callB call_len_seq (by rfl) z_len bt_len (pa_cons (pv 0) pa_nil)) (nomark _)) (pss_one (ps_set (i := 2) scBox4.nd rfl (Or.inl rfl) (pe_ix ix_list (pv 0) (pv 1) (fun _ _ => rfl)))) pss_nil)
      (pss_cons (ps_if (pt_cmpR op_eq (pe_op op_mod (pv 2) pe_int) pe_int (nomark _)) (pss_one (ps_ret (pe_lst (pa_cons (pe_op op_fdiv (pv 2) pe_int) pa_nil)))) pss_nil)
      (pss_cons (ps_set (i := 3) scBox4.nd rfl (Or.inl rfl) pe_int)
      (pss_cons (ps_for PassesOwn.never rfl (pi_range1 rfl z_range (pa_cons pe_int pa_nil)) (pg_name (i := 4) scBox4.nd rfl (Or.inl rfl)) (pss_cons (ps_set (i := 5) scBox4.nd rfl (Or.inl rfl) (pe_op op_mod (pe_op op_add (pe_op op_add (pe_op op_mul (pe_op op_mod (pv 2) pe_int) pe_int) (pe_op op_mul pe_int (pv 4))) pe_int) pe_int))
      (pss_cons (ps_set (i := 5) scBox4.nd rfl (Or.inl rfl) (pe_op op_mod (pe_op op_mul (pv 5) (pv 5)) pe_int))
      (pss_one (ps_set (i := 3) scBox4.nd rfl (Or.inl rfl) (pe_op op_add (pe_op op_mul (pv 3) pe_int) (pe_op op_mod (pe_op op_mul (pv 5) (pe_op op_add (pv 5) pe_int)) pe_int)))))))
      (pss_one (ps_ret (pe_lst (pa_cons (pv 3) pa_nil))))))))), ?_⟩
    refine ⟨_, rfl, _, _, rfl, rfl, .inl ⟨by decide, by decide⟩, _, _, rfl, rfl, ?_⟩
    refine ⟨_, rfl, _, rfl, a, _, rfl, .inl hS, _, _, rfl, rfl, _, rfl, ?_⟩
    refine ite2 (fun h1 => ?_) (fun _ => ?_)
    · obtain ⟨z, hz⟩ := int_at (ns := ns) (k := k) h0 (by have := of_decide_eq_true h1; exact this)
      refine ⟨_, rfl, _, rfl, a, _, _, _, rfl, rfl, hS, hz, ?_⟩
      refine ⟨_, rfl, _, _, rfl, rfl, (by show (0 : Int) < 2; decide), rfl, _, rfl, ?_⟩
      refine ite2 (fun _ => ?_) (fun _ => ?_)
      · refine ⟨_, rfl, _, _, rfl, rfl, ⟨by decide, by decide⟩, by show 1 ≤ sizeLine; decide, fun p hp => ?_⟩
        exact q p _ _ hp upd_same (Same.upd hp)
      · refine ⟨16, rfl, by decide, by decide, for_range (n := 16) (fun i σ H' => ∃ (n : Int) (w4 w5 : Option V), σ = [some (.ref a), some (.int k), some (.int z), some (.int n), w4, w5] ∧ H' = H) ⟨0, none, none, rfl, rfl⟩ ?_ ?_⟩
        · rintro i σ H' hi ⟨n, w4, w5, rfl, rfl⟩
          have hc0 := Int.emod_nonneg z (show (2147483647 : Int) ≠ 0 by decide)
          have hc1 := Int.emod_lt_of_pos z (show (0 : Int) < 2147483647 by decide)
          refine ⟨_, rfl, _, _, rfl, rfl, (by show (0 : Int) < 2147483647; decide), _, _, rfl, rfl, .inl ⟨by omega, by omega⟩, _, rfl, _, _, rfl, rfl, .inl ⟨by decide, by decide⟩, _, _, rfl, rfl, _, _, rfl, rfl, _, _, rfl, rfl, (by show (0 : Int) < 2147483647; decide), ?_⟩
          generalize (z % 2147483647 * 48271 + 7919 * (0 + (i : Int)) + 1) = z
          have z0 := Int.emod_nonneg z (show (2147483647 : Int) ≠ 0 by decide)
          have z1 := Int.emod_lt_of_pos z (show (0 : Int) < 2147483647 by decide)
          generalize z % 2147483647 = y at z0 z1
          refine ⟨_, rfl, _, rfl, _, _, rfl, rfl, .inl ⟨by omega, by omega⟩, _, _, rfl, rfl, (by show (0 : Int) < 2147483629; decide), ?_⟩
          have y0 := Int.emod_nonneg (y * y) (show (2147483629 : Int) ≠ 0 by decide)
          have y1 := Int.emod_lt_of_pos (y * y) (show (0 : Int) < 2147483629 by decide)
          generalize y * y % 2147483629 = v at y0 y1
          refine ⟨_, rfl, _, _, rfl, rfl, .inr ⟨by decide, by decide⟩, _, rfl, _, rfl, _, _, rfl, rfl, _, _, rfl, rfl, .inl ⟨by omega, by omega⟩, _, _, rfl, rfl, (by show (0 : Int) < 2147483647; decide), _, _, rfl, rfl, ?_⟩
          exact ⟨_, _, _, rfl, rfl⟩
        · rintro σ H' ⟨n, w4, w5, rfl, rfl⟩
          exact ⟨_, rfl, by show 1 ≤ sizeLine; decide, fun p hp => q p n _ hp upd_same (Same.upd hp)⟩
    · refine ⟨_, rfl, _, _, rfl, rfl, (by show (0 : Int) < 2; decide), rfl, _, rfl, ?_⟩
      refine ite2 (fun _ => ?_) (fun _ => ?_)
      · refine ⟨_, rfl, _, _, rfl, rfl, ⟨by decide, by decide⟩, by show 1 ≤ sizeLine; decide, fun p hp => ?_⟩
        exact q p _ _ hp upd_same (Same.upd hp)
      · refine ⟨16, rfl, by decide, by decide, for_range (n := 16) (fun i σ H' => ∃ (n : Int) (w4 w5 : Option V), σ = [some (.ref a), some (.int k), some (.int (7919 * k + 13)), some (.int n), w4, w5] ∧ H' = H) ⟨0, none, none, rfl, rfl⟩ ?_ ?_⟩
        · rintro i σ H' hi ⟨n, w4, w5, rfl, rfl⟩
          have hc0 := Int.emod_nonneg (7919 * k + 13) (show (2147483647 : Int) ≠ 0 by decide)
          have hc1 := Int.emod_lt_of_pos (7919 * k + 13) (show (0 : Int) < 2147483647 by decide)
          refine ⟨_, rfl, _, _, rfl, rfl, (by show (0 : Int) < 2147483647; decide), _, _, rfl, rfl, .inl ⟨by omega, by omega⟩, _, rfl, _, _, rfl, rfl, .inl ⟨by decide, by decide⟩, _, _, rfl, rfl, _, _, rfl, rfl, _, _, rfl, rfl, (by show (0 : Int) < 2147483647; decide), ?_⟩
          generalize ((7919 * k + 13) % 2147483647 * 48271 + 7919 * (0 + (i : Int)) + 1) = z
          have z0 := Int.emod_nonneg z (show (2147483647 : Int) ≠ 0 by decide)
          have z1 := Int.emod_lt_of_pos z (show (0 : Int) < 2147483647 by decide)
          generalize z % 2147483647 = y at z0 z1
          refine ⟨_, rfl, _, rfl, _, _, rfl, rfl, .inl ⟨by omega, by omega⟩, _, _, rfl, rfl, (by show (0 : Int) < 2147483629; decide), ?_⟩
          have y0 := Int.emod_nonneg (y * y) (show (2147483629 : Int) ≠ 0 by decide)
          have y1 := Int.emod_lt_of_pos (y * y) (show (0 : Int) < 2147483629 by decide)
          generalize y * y % 2147483629 = v at y0 y1
          refine ⟨_, rfl, _, _, rfl, rfl, .inr ⟨by decide, by decide⟩, _, rfl, _, rfl, _, _, rfl, rfl, _, _, rfl, rfl, .inl ⟨by omega, by omega⟩, _, _, rfl, rfl, (by show (0 : Int) < 2147483647; decide), _, _, rfl, rfl, ?_⟩
          exact ⟨_, _, _, rfl, rfl⟩
        · rintro σ H' ⟨n, w4, w5, rfl, rfl⟩
          exact ⟨_, rfl, by show 1 ≤ sizeLine; decide, fun p hp => q p n _ hp upd_same (Same.upd hp)⟩
end
end Mr

namespace Mr
open PySem L2
section
variable {P : Program} {w : World} {K : PySem.W.Frag} {mg : Str → Option Value} {base : Heap}
theorem scRow4 : FnScope ["_law_box_here", "_law_most", "_law_letters", "_law_row_here", "_law_k", "_law_mode"] ["_law_box_here", "_law_most"] (defScope sRow) := ⟨rfl, rfl, rfl, by decide +kernel, rfl, by decide +kernel, by decide +kernel⟩
set_option maxHeartbeats 8000000 in
theorem ok_row4 (a : At K mg "_law_row" sRow ["_law_box_here", "_law_most"]) (d_law_take : Df P w K mg base 1 "_law_take" ["_law_box_here", "_law_many"] spTakeI) (z_len : mg "len" = none) (z_range : mg "range" = none) : Df P w K mg base 3 "_law_row" ["_law_box_here", "_law_most"] spRowI := by
  refine a.df fun f fd F => ?_
  refine F.ok scRow4 (fun vs H Q E h => ?_) (fun cdv A outer s H vs Q E hr h => ?_)
  · obtain ⟨_, _, _, rfl, _⟩ := h
    rfl
  · obtain ⟨b, n, most, rfl, hb, hm0, hm1, q⟩ := h
    refine ⟨_, (@pss_cons _ _ _ _ _ (@ps_set _ _ 2 _ _ _ _ scRow4.nd rfl (Or.inl rfl) (pe_slice sl_strS pe_str po_none (po_some (@pe_op _ _ _ _ _ _ _ _ op_add pe_int (pe_df d_law_take hr rfl (pa_cons (pv 0) (pa_cons pe_int pa_nil)))))) rfl (Or.inl rfl))
      (@pss_cons _ _ _ _ _ (@ps_set _ _ 3 _ _ _ _ scRow4.nd rfl (Or.inl rfl) pe_str rfl (Or.inl rfl))
      (@pss_cons _ _ _ _ _ (ps_for PassesOwn.never rfl (pi_range1 rfl z_range (pa_cons (pe_df d_law_take hr rfl (pa_cons (pv 0) (pa_cons (@pe_op _ _ _ _ _ _ _ _ op_add (pv 1) pe_int) pa_nil))) pa_nil)) (pg_name (i := 4) scRow4.nd rfl (Or.inl rfl)) (@pss_one _ _ _ (@ps_set _ _ 3 _ _ _ _ scRow4.nd rfl (Or.inl rfl) (@pe_op _ _ _ _ _ _ _ _ op_addS (pv 3) (@pe_ix _ _ _ _ _ _ _ ix_strS (pv 2) (pe_df d_law_take hr rfl (pa_cons (pv 0) (pa_cons (pe_callB call_len_str (by rfl) z_len bt_len (pa_cons (pv 2) pa_nil)) pa_nil))) (fun _ _ => rfl))) rfl (Or.inl rfl))))
      (@pss_cons _ _ _ _ _ (@ps_set _ _ 5 _ _ _ _ scRow4.nd rfl (Or.inl rfl) (pe_df d_law_take hr rfl (pa_cons (pv 0) (pa_cons pe_int pa_nil))) rfl (Or.inl rfl))
      (@pss_cons _ _ _ _ _ (@ps_if _ _ _ _ _ _ _ _ (pt_cmpR op_eq (pv 5) pe_int (nomark _)) (@pss_one _ _ _ (@ps_set _ _ 3 _ _ _ _ scRow4.nd rfl (Or.inl rfl) (pe_slice sl_strS (@pe_op _ _ _ _ _ _ _ _ op_addS (pv 3) (pe_rev (pv 3) (pe_un un_neg pe_int))) po_none (po_some (pv 1))) rfl (Or.inl rfl))) pss_nil)
      (@pss_cons _ _ _ _ _ (@ps_if _ _ _ _ _ _ _ _ (pt_cmpR op_eq (pv 5) pe_int (nomark _)) (@pss_one _ _ _ (@ps_set _ _ 3 _ _ _ _ scRow4.nd rfl (Or.inl rfl) (pe_slice sl_strS (@pe_op _ _ _ _ _ _ _ _ op_addS (pv 3) (pe_slice sl_strS (pe_rev (pv 3) (pe_un un_neg pe_int)) (po_some pe_int) po_none)) po_none (po_some (pv 1))) rfl (Or.inl rfl))) pss_nil)
      (@pss_one _ _ _ (@ps_ret _ _ _ _ (pv 3))))))))), ?_⟩
    refine ⟨_, rfl, b, n, 4, rfl, hb, by decide, by decide, fun d1 n1 H1 hd1 hd1' hb1 k1 => ⟨_, _, rfl, rfl, _, rfl, [97, 98, 99, 122], congrArg V.str e_abcz, by decide, ?_⟩⟩
    obtain ⟨d, rfl⟩ := Int.eq_ofNat_of_zero_le hd1
    have ed : (1 : Int) + (d : Int) = ((1 + d : Nat) : Int) := by omega
    rw [ed, cut_to]
    have hA : Abcz (([97, 98, 99, 122] : List Nat).take (1 + d)) := fun c h => by
      have := List.mem_of_mem_take h
      simpa using this
    have hl0 : 0 < (([97, 98, 99, 122] : List Nat).take (1 + d)).length := by rw [List.length_take]; show 0 < min _ 4; omega
    have hl1 : (([97, 98, 99, 122] : List Nat).take (1 + d)).length ≤ 4 := by rw [List.length_take]; show min _ 4 ≤ 4; omega
    generalize ([97, 98, 99, 122] : List Nat).take (1 + d) = lt at hA hl0 hl1
    refine ⟨_, rfl, _, rfl, _, _, rfl, rfl, b, n1, most + 1, rfl, hb1, by omega, by omega, fun d2 n2 H2 hd2 hd2' hb2 k2 => ?_⟩
    obtain ⟨many, rfl⟩ := Int.eq_ofNat_of_zero_le hd2
    refine ⟨_, rfl, by omega, by omega, ?_⟩
    have e0 : ((many : Int)).toNat = many := by omega
    rw [e0]
    refine for_range (fun i σ H' => ∃ (cs : List Nat) (n' : Int) (w4 : Option V), σ = [some (.ref b), some (.int most), some (.str (tx lt)), some (.str (tx cs)), w4, none] ∧ Abcz cs ∧ cs.length = i ∧ H' b = some (.lst [.int n']) ∧ But b H H') ⟨[], n2, none, (by rw [← e_nil]; rfl), Abcz.nil, rfl, hb2, k1.trans k2⟩ ?_ ?_
    · rintro i σ H3 hi ⟨cs, n3, w4, rfl, hc, hcl, hb3, k3⟩
      refine ⟨_, rfl, _, rfl, _, rfl, _, rfl, tx lt, rfl, (by rw [tx_len, sizeLine_eq]; omega), b, n3, _, rfl, hb3, (by rw [tx_len]; omega), (by rw [tx_len]; omega), fun d3 n4 H4 hd3 hd3' hb4 k4 => ?_⟩
      rw [tx_len] at hd3'
      obtain ⟨c, hc1, hc2⟩ := at_ofInt (xs := lt) hd3 hd3'
      refine ⟨lt, _, c, rfl, rfl, (by rw [sizeLine_eq]; omega), hc1, cs, [c], rfl, rfl, (by rw [sizeLine_eq]; show _ + 1 ≤ _; omega), ?_⟩
      refine ⟨cs ++ [c], n4, _, rfl, hc.app fun z hz => ?_, by simp; omega, hb4, k3.trans k4⟩
      have e : z = c := by simpa using hz
      subst e
      exact hA z hc2
    · rintro σ H3 ⟨cs, n3, w4, rfl, hc, hcl, hb3, k3⟩
      refine ⟨_, rfl, b, n3, 4, rfl, hb3, by decide, by decide, fun d4 n4 H4 _ _ hb4 k4 => ?_⟩
      have k4' := k3.trans k4
      have hcm : (cs.length : Int) ≤ most := by omega
      refine ⟨_, rfl, rfl, _, rfl, ite2 (fun _ => ?_) (fun _ => ?_)⟩
      · refine ⟨_, rfl, _, rfl, _, rfl, cs, rfl, rfl, (by rw [sizeLine_eq]; omega), cs, _, rfl, rfl, (by rw [List.length_reverse, sizeLine_eq]; omega), _, rfl, _, rfl, _, rfl, (by rw [List.length_append, List.length_reverse, sizeLine_eq]; omega), ?_⟩
        have hA2 : Abcz (cutL (cs ++ cs.reverse) none (some most)) := (hc.app hc.rev).cut _ _
        have hl2 : ((cutL (cs ++ cs.reverse) none (some most)).length : Int) ≤ most := by
          obtain ⟨mo, rfl⟩ := Int.eq_ofNat_of_zero_le hm0
          rw [cut_to, List.length_take]; omega
        generalize cutL (cs ++ cs.reverse) none (some most) = ms at hA2 hl2
        refine ⟨_, rfl, rfl, _, rfl, ite2 (fun _ => ?_) (fun _ => ?_)⟩
        · refine ⟨_, rfl, _, rfl, _, rfl, ms, rfl, rfl, (by rw [sizeLine_eq]; omega), _, rfl, ms.reverse, rfl, (by rw [List.length_reverse, sizeLine_eq]; omega), ms, _, rfl, rfl, ?_, _, rfl, _, rfl, _, rfl, ?_, ?_⟩
          · have := cut_le ms.reverse (some 1) none
            rw [List.length_reverse] at this
            rw [sizeLine_eq]; omega
          · have := cut_le ms.reverse (some 1) none
            rw [List.length_reverse] at this
            rw [List.length_append, sizeLine_eq]; omega
          · obtain ⟨mo, rfl⟩ := Int.eq_ofNat_of_zero_le hm0
            refine ⟨_, rfl, ?_⟩
            rw [cut_to]
            refine q _ n4 H4 ((hA2.app (hA2.rev.cut _ _)).take _) ?_ hb4 k4'
            rw [List.length_take]; omega
        · exact ⟨_, rfl, q _ n4 H4 hA2 hl2 hb4 k4'⟩
      · refine ⟨_, rfl, rfl, _, rfl, ite2 (fun _ => ?_) (fun _ => ?_)⟩
        · refine ⟨_, rfl, _, rfl, _, rfl, cs, rfl, rfl, (by rw [sizeLine_eq]; omega), _, rfl, cs.reverse, rfl, (by rw [List.length_reverse, sizeLine_eq]; omega), cs, _, rfl, rfl, ?_, _, rfl, _, rfl, _, rfl, ?_, ?_⟩
          · have := cut_le cs.reverse (some 1) none
            rw [List.length_reverse] at this
            rw [sizeLine_eq]; omega
          · have := cut_le cs.reverse (some 1) none
            rw [List.length_reverse] at this
            rw [List.length_append, sizeLine_eq]; omega
          · obtain ⟨mo, rfl⟩ := Int.eq_ofNat_of_zero_le hm0
            refine ⟨_, rfl, ?_⟩
            rw [cut_to]
            refine q _ n4 H4 ((hc.app (hc.rev.cut _ _)).take _) ?_ hb4 k4'
            rw [List.length_take]; omega
        · exact ⟨_, rfl, q _ n4 H4 hc hcm hb4 k4'⟩
end
end Mr

namespace Mr
open PySem L2
section
variable {P : Program} {w : World} {K : PySem.W.Frag} {mg : Str → Option Value} {base : Heap}
theorem scCL : FnScope ["many", "behind", "lengths"] ["many", "behind", "lengths"] (defScope s_cuts_by_last) := ⟨rfl, rfl, rfl, by decide +kernel, rfl, by decide +kernel, by decide +kernel⟩
set_option maxHeartbeats 4000000 in
theorem ok_cbl (a : At K mg "cuts_by_last" s_cuts_by_last ["many", "behind", "lengths"]) (z_sum : mg "sum" = none) : Df P w K mg base 1 "cuts_by_last" ["many", "behind", "lengths"] spLastN := by
  refine a.df fun f fd F => ?_
  refine F.ok scCL (fun vs H Q E h => ?_) (fun cdv A outer s H vs Q E hr h => ?_)
  · obtain ⟨_, _, _, _, _, rfl, _⟩ := h
    rfl
  · obtain ⟨pm, pl, ms, L, b, rfl, hm, hl, hLl, hk, q⟩ := h
    refine ⟨_, (pss_one (ps_ret (pe_callB (call_sumI rfl) (by rfl) z_sum bt_sum (pa_cons (pe_comp (ys := ["many", "behind"]) (ix := [0, 1]) ⟨rfl, by decide +kernel, rfl, by decide +kernel, rfl, by decide +kernel, ⟨rfl, rfl, trivial⟩, rfl, ⟨⟨rfl, rfl, rfl, rfl⟩, ⟨rfl, rfl, rfl, rfl⟩, trivial⟩⟩ rfl (pi_list (pv 2)) (fun C fp s H => pts_nil) (fun C fp s H => (pe_ix (ix_listK (K := K) rfl) (pv 1) (pe_op op_sub (pv 2) (pv 0)) (fun _ _ => rfl)))) pa_nil)))), ?_⟩
    refine ⟨_, rfl, pl, rfl, ⟨_, SqL.of hl⟩, comp_list (K := K) (a := pl) (xs := lensV L) (by rw [lensV_len, sizeLine_eq]; omega) (fun j ys H' => H' = H ∧ ys = lensV ((L.take j).map fun k => ms.getD (b - k) 0)) ⟨rfl, rfl⟩ (fun j ys H' ⟨e, _⟩ => by rw [e]; exact SqL.of hl) ?_ ?_⟩
    · rintro j x ys H' N hx hy ⟨rfl, rfl⟩ hN
      obtain ⟨k, hkj, rfl⟩ := lensV_at hx
      obtain ⟨k1, k2⟩ := hk k (List.mem_of_getElem? hkj)
      have ek : (b : Int) - (k : Int) = ((b - k : Nat) : Int) := by omega
      refine yes_ok (iteT ⟨_, rfl, _, rfl, _, rfl, _, _, rfl, rfl, pm, _, _, V.int ((ms.getD (b - k) 0 : Nat) : Int), rfl, rfl, SqL.of hm, (by rw [ek]; exact atI_nat (lensV_get (by rw [List.getD_eq_getElem?_getD, List.getElem?_eq_getElem k2]; rfl))), hN _ _ (by rw [List.length_append]; simp at hy ⊢; try omega) ⟨rfl, ?_⟩⟩)
      rw [List.take_succ, hkj, List.map_append, lensV_app]
      rfl
    · rintro ys H' hy ⟨rfl, rfl⟩ p hp
      rw [lensV_len, List.take_of_length_le (Nat.le_refl _)]
      refine ⟨p, (L.map fun k => ms.getD (b - k) 0).map (fun (k : Nat) => (k : Int)), rfl, SqL.of (by rw [← lens_ints]; exact upd_same), ?_⟩
      rw [sum_lens']
      exact q _ (Same.upd hp)
end
end Mr

namespace Mr
open PySem L2
section
variable {P : Program} {w : World} {K : PySem.W.Frag} {mg : Str → Option Value} {base : Heap}
theorem scCO : FnScope ["row", "count", "lengths", "many", "step"] ["row", "count"] (defScope s_cuts_of) := ⟨rfl, rfl, rfl, by decide +kernel, rfl, by decide +kernel, by decide +kernel⟩
set_option maxHeartbeats 8000000 in
theorem ok_cuts_of (a : At K mg "cuts_of" s_cuts_of ["row", "count"]) (d_ends_by_place : Df P w K mg base 4 "ends_by_place" ["row"] spEBP) (d_is_whole : Df P w K mg base 1 "is_whole" ["thing"] spWhole) (d_cuts_by_last : Df P w K mg base 1 "cuts_by_last" ["many", "behind", "lengths"] spLastN) (z_len : mg "len" = none) (z_range : mg "range" = none) : Df P w K mg base 5 "cuts_of" ["row", "count"] spCof := by
  refine a.df fun f fd F => ?_
  refine F.ok scCO (fun vs H Q E h => ?_) (fun cdv A outer s H vs Q E hr h => ?_)
  · obtain ⟨_, _, rfl, _⟩ := h
    rfl
  · obtain ⟨l, c, rfl, hrow, q⟩ := h
    have hlen := (rowL_iff.mp hrow).1
    have hz : l.length ≤ sizeLine := by rw [sizeLine_eq]; omega
    refine ⟨_, (pss_cons (ps_set (i := 2) scCO.nd rfl (Or.inr rfl) (pe_df d_ends_by_place hr rfl (pa_cons (pv 0) pa_nil)))
      (pss_cons (ps_if (PW.pt (pw_or (pt_not (pt_val (pe_df d_is_whole hr rfl (pa_cons (pv 1) pa_nil)))) (pw_or1 (pt_cmpR op_lt (pv 1) pe_int (nomark _))))) (pss_one ps_never) pss_nil)
      (pss_cons (ps_if (pt_cmpR op_gt (pv 1) (pe_callB call_len_str (by rfl) z_len bt_len (pa_cons (pv 0) pa_nil)) (nomark _)) (pss_one (ps_ret pe_int)) pss_nil)
      (pss_cons (ps_set (i := 3) scCO.nd rfl (Or.inr rfl) (pe_op op_cat (pe_lst (pa_cons pe_int pa_nil)) (pe_comp (ys := []) (ix := []) ⟨rfl, by decide +kernel, rfl, by decide +kernel, rfl, by decide +kernel, trivial, rfl, trivial⟩ rfl (pi_str (pv 0)) (fun C fp s H => pts_nil) (fun C fp s H => pe_int))))
      (pss_cons (ps_for PassesOwn.never rfl (pi_range1 rfl z_range (pa_cons (pv 1) pa_nil)) (pg_name (i := 4) scCO.nd rfl (Or.inl rfl)) (pss_one (ps_set (i := 3) scCO.nd rfl (Or.inr rfl) (pe_comp (ys := ["many", "lengths"]) (ix := [3, 2]) ⟨rfl, by decide +kernel, rfl, by decide +kernel, rfl, by decide +kernel, ⟨rfl, rfl, trivial⟩, rfl, ⟨⟨rfl, rfl, rfl, rfl⟩, ⟨rfl, rfl, rfl, rfl⟩, trivial⟩⟩ rfl (pi_range1 rfl z_range (pa_cons (pe_callB call_len_seq (by rfl) z_len bt_len (pa_cons (pv 2) pa_nil)) pa_nil)) (fun C fp s H => pts_nil) (fun C fp s H => (pe_df (X := cmpCx _ _ _ _ C fp s H) d_cuts_by_last hr rfl (pa_cons (pv 1) (pa_cons (pv 0) (pa_cons (pe_ix (ix_listK (K := K) rfl) (pv 2) (pv 0) (fun _ _ => rfl)) pa_nil)))))))))
      (pss_one (ps_ret (pe_ix ix_list (pv 3) (pe_un un_neg pe_int) (fun _ _ => rfl))))))))), ?_⟩
    refine ⟨_, rfl, l, rfl, hrow, fun pr xs H1 hfr hpr hL s1 => ?_⟩
    have hxl : xs.length = l.length + 1 := by rw [hL.1, endsAt_len]
    refine ⟨_, rfl, _, rfl, trivial, _, rfl, iteF ⟨_, rfl, _, _, rfl, rfl, _, rfl, ?_⟩⟩
    rw [decide_eq_false (show ¬ (c : Int) < 0 by omega)]
    refine iteF ⟨_, rfl, _, rfl, tx l, rfl, (by rw [tx_len]; exact hz), _, _, rfl, rfl, _, rfl, ?_⟩
    rw [tx_len]
    by_cases hc : l.length < c
    · rw [decide_eq_true (show (l.length : Int) < (c : Int) by omega)]
      have := q H1 s1
      rw [cof_out (Nat.le_refl _) hc] at this
      exact iteT this
    rw [decide_eq_false (show ¬ (l.length : Int) < (c : Int) by omega)]
    refine iteF ?_
    refine ⟨(by show 1 ≤ sizeLine; decide), fun pa hpa => ?_⟩
    have s2 : Same H1 (upd H1 pa (.lst [.int 1])) := Same.upd hpa
    have f2 : upd H1 pa (.lst [.int 1]) pa = some (.lst [.int 1]) := upd_same
    generalize upd H1 pa (.lst [.int 1]) = H2 at s2 f2
    refine ⟨_, rfl, l, rfl, comp_str (l := l) hz (fun i ys H' => H' = H2 ∧ ys = lensV (List.replicate i 0)) ⟨rfl, rfl⟩ ?_ ?_⟩
    · rintro i c' ys H' N hx hy ⟨rfl, rfl⟩ hN
      refine yes_ok (iteT (hN _ _ (by rw [List.length_append]; simp at hy ⊢; try omega) ⟨rfl, ?_⟩))
      rw [List.replicate_succ', lensV_app]
      rfl
    rintro ys H' hy ⟨rfl, rfl⟩ pb hpb
    have s3 : Same H' (upd H' pb (.lst (lensV (List.replicate l.length 0)))) := Same.upd hpb
    have f3 : upd H' pb (.lst (lensV (List.replicate l.length 0))) pb = some (.lst (lensV (List.replicate l.length 0))) := upd_same
    generalize upd H' pb (.lst (lensV (List.replicate l.length 0))) = H3 at s3 f3
    refine ⟨pa, pb, _, _, rfl, rfl, s3 _ _ f2, f3, (by rw [lensV_len, List.length_replicate, sizeLine_eq]; show 1 + _ ≤ _; omega), fun pm hpm => ?_⟩
    have s4 : Same H3 (upd H3 pm (.lst ([.int 1] ++ lensV (List.replicate l.length 0)))) := Same.upd hpm
    have f4 : upd H3 pm (.lst ([.int 1] ++ lensV (List.replicate l.length 0))) pm = some (.lst (lensV (cofL l 0))) := by rw [upd_same, cofL_zero]; rfl
    generalize upd H3 pm (.lst ([.int 1] ++ lensV (List.replicate l.length 0))) = H4 at s4 f4
    have t4 : Same H1 H4 := s2.trans (s3.trans s4)
    refine ⟨_, rfl, _, rfl, by omega, by omega, ?_⟩
    have en : ((c : Int)).toNat = c := by omega
    rw [en]
    refine for_range (fun i σ H' => ∃ (pm : Addr) (w4 : Option V), σ = [some (.str (tx l)), some (.int (c : Int)), some (.ref pr), some (.ref pm), w4] ∧ H' pm = some (.lst (lensV (cofL l i))) ∧ Same H1 H') ⟨pm, _, rfl, f4, t4⟩ ?_ ?_
    · rintro i σ H5 hi ⟨pm, w4, rfl, hm5, s5⟩
      refine ⟨_, rfl, pr, _, rfl, .inl (SqL.of (s5 _ _ hpr)), _, rfl, (by rw [hxl]; omega), (by rw [hxl]; omega), ?_⟩
      rw [hxl]
      have en2 : (((l.length + 1 : Nat) : Int)).toNat = l.length + 1 := by omega
      rw [en2]
      refine comp_range (n := l.length + 1) (by rw [sizeLine_eq]; omega) (fun j ys H' => Same H5 H' ∧ ys = lensV ((cofL l (i + 1)).take j)) ⟨Same.refl _, rfl⟩ ?_ ?_
      · rintro j ys H6 N hj hy ⟨s6, rfl⟩ hN
        have ej : (0 : Int) + (j : Int) = (j : Int) := by omega
        have hjl : j ≤ l.length := by omega
        obtain ⟨pl, a1, hpl⟩ := (hL.mono (H' := H6) fun p e h => s6 _ _ (s5 _ _ h)).at (endsAt_get hjl)
        have hcl := ends_count (l.take j)
        rw [List.length_take] at hcl
        refine yes_ok (iteT ⟨_, rfl, _, rfl, _, rfl, _, rfl, pr, _, _, _, rfl, rfl, SqL.of (s6 _ _ (s5 _ _ hpr)), (by rw [ej]; exact atI_nat (j := j) a1), pm, pl, cofL l i, endsN (l.take j), j, (by rw [ej]; rfl), s6 _ _ hm5, hpl, by omega, (fun k hk => by have := (ends_mem hjl).mp hk; rw [cofL_len]; omega), fun H7 s7 => hN _ _ (by rw [List.length_append]; simp at hy ⊢; try omega) ⟨s6.trans s7, ?_⟩⟩)
        rw [last_cof hjl, List.take_succ, cofL_get hjl, lensV_app]
        rfl
      · rintro ys H6 hy ⟨s6, rfl⟩ pn hpn
        refine ⟨pn, _, rfl, ?_, s5.trans (s6.trans (Same.upd hpn))⟩
        rw [upd_same, List.take_of_length_le (by rw [cofL_len]; exact Nat.le_refl _)]
    · rintro σ H5 ⟨pm, w4, rfl, hm5, s5⟩
      refine ⟨_, rfl, _, rfl, pm, _, _, V.int ((cofN l c l.length : Nat) : Int), rfl, rfl, SqL.of hm5, ?_, q H5 (s1.trans s5)⟩
      have := atI_neg (xs := lensV (cofL l c)) (d := 1) (Nat.le_refl _) (by rw [lensV_len, cofL_len]; omega)
      rw [lensV_len, cofL_len, show l.length + 1 - 1 = l.length by omega, lensV_get (cofL_get (Nat.le_refl _))] at this
      exact this
end
end Mr

namespace Mr
open PySem L2
section
variable {P : Program} {w : World} {K : PySem.W.Frag} {mg : Str → Option Value} {base : Heap}
theorem sc_tell_row : FnScope ["row"] ["row"] (defScope s_tell_row) := ⟨rfl, rfl, rfl, by decide +kernel, rfl, by decide +kernel, by decide +kernel⟩
theorem ok_tell_row (a : At K mg "tell_row" s_tell_row ["row"]) (d_text_or_none : Df P w K mg base 1 "text_or_none" ["text"] spTON)  : Df P w K mg base 2 "tell_row" ["row"] spTellRow := by
  refine a.df fun f fd F => ?_
  refine F.ok sc_tell_row (fun vs H Q E h => ?_) (fun cdv A outer s H vs Q E hr h => ?_)
  · obtain ⟨_, rfl, _⟩ := h
    rfl
  · obtain ⟨l, rfl, hrow, q⟩ := h
    have hlen := (rowL_iff.mp hrow).1
    exact ⟨_, (pss_one (ps_ret (pe_df d_text_or_none hr rfl (pa_cons (pv 0) pa_nil)))), _, rfl, l, rfl, by omega, q H (Same.refl _)⟩
end
end Mr

namespace Mr
open PySem L2
section
variable {P : Program} {w : World} {K : PySem.W.Frag} {mg : Str → Option Value} {base : Heap}
theorem scO16 : FnScope ["_law_box_here", "_law_some"] ["_law_box_here"] (defScope sOdd) := ⟨rfl, rfl, rfl, by decide +kernel, rfl, by decide +kernel, by decide +kernel⟩
set_option maxHeartbeats 8000000 in
theorem ok_odd84 (a : At K mg "_law_odd" sOdd ["_law_box_here"]) (d_law_take : Df P w K mg base 1 "_law_take" ["_law_box_here", "_law_many"] spTakeI) : Df P w K mg base 2 "_law_odd" ["_law_box_here"] (spOdd84 K) := by
  refine a.df fun f fd F => ?_
  refine F.ok scO16 (fun vs H Q E h => ?_) (fun cdv A outer s H vs Q E hr h => ?_)
  · obtain ⟨_, _, rfl, _⟩ := h
    rfl
  · obtain ⟨b, n, rfl, hb, q⟩ := h
    refine ⟨_, (@pss_cons _ _ _ _ _ (@ps_set _ _ 1 _ _ _ _ scO16.nd rfl (Or.inl rfl) (@pe_lst _ _ _ _ (@pa_non _ _ _ _ _  (@pa_bl _ _ _ _ _ _  (@pa_bl _ _ _ _ _ _  (@pa_un _ _ _ _ _ _ _  (pe_un un_neg pe_int) (@pa_int _ _ _ _ _ _  (@pa_str _ _ _ _ _ _  (@pa_str _ _ _ _ _ _  (@pa_tup _ _ _ _ _ _ _  (@pe_tup _ _ _ _ _ (@pa_int _ _ _ _ _ _  pa_nil)) (@pa_lst _ _ _ _ _ _  (@pe_lst _ _ _ _ (@pa_int _ _ _ _ _ _  pa_nil)) (@pa_dic _ _ _ _ _ _ _ (pe_disp (pps_cons pe_str pe_int pps_nil) rfl rfl (by simp) (by decide)) (@pa_tup _ _ _ _ _ _ _  (@pe_tup _ _ _ _ _ pa_nil) (@pa_op _ _ _ _ _ _ _ _  (@pe_op _ _ _ _ _ _ _ _ op_pow pe_int pe_int) (@pa_lst _ _ _ _ _ _  (@pe_lst _ _ _ _ (@pa_str _ _ _ _ _ _  pa_nil)) (@pa_tup _ _ _ _ _ _ _  (@pe_tup _ _ _ _ _ (@pa_tup _ _ _ _ _ _ _  (@pe_tup _ _ _ _ _ (@pa_int _ _ _ _ _ _  (@pa_int _ _ _ _ _ _  pa_nil))) pa_nil)) (@pa_lst _ _ _ _ _ _  (@pe_lst _ _ _ _ (@pa_tup _ _ _ _ _ _ _  (@pe_tup _ _ _ _ _ (@pa_int _ _ _ _ _ _  (@pa_int _ _ _ _ _ _  pa_nil))) pa_nil)) (@pa_str _ _ _ _ _ _  pa_nil))))))))))))))))) rfl (Or.inl rfl))
      (@pss_one _ _ _ (@ps_ret _ _ _ _ (@pe_ix _ _ _ _ _ _ _ ix_list (pv 1) (pe_df d_law_take hr rfl (pa_cons (pv 0) (pa_cons pe_int pa_nil))) (fun _ _ => rfl))))), ?_⟩
    refine ⟨_, rfl, (by show 1 ≤ sizeLine; decide), fun Gp1 Gh1 => ?_⟩
    have Gs1 := Same.upd (o := .tup [V.int 1]) Gh1
    have Gf1 : upd H Gp1 (.tup [V.int 1]) Gp1 = some (.tup [V.int 1]) := upd_same
    have Gt1 : Same H (upd H Gp1 (.tup [V.int 1])) := Gs1
    generalize upd H Gp1 (.tup [V.int 1]) = G1 at Gs1 Gf1 Gt1
    refine ⟨(by show 1 ≤ sizeLine; decide), fun Gp2 Gh2 => ?_⟩
    have Gs2 := Same.upd (o := .lst [V.int 1]) Gh2
    have Gf2 : upd G1 Gp2 (.lst [V.int 1]) Gp2 = some (.lst [V.int 1]) := upd_same
    have Gt2 : Same H (upd G1 Gp2 (.lst [V.int 1])) := Gt1.trans Gs2
    generalize upd G1 Gp2 (.lst [V.int 1]) = G2 at Gs2 Gf2 Gt2
    refine fun Gp3 Gh3 => ⟨upd_same, [(Sum.inr ("a" : Str), V.int 1)], rfl, by decide, ?_⟩
    rw [upd_upd]
    have Gs3 := Same.upd (o := .dK (mergeK [] [(Sum.inr ("a" : Str), V.int 1)])) Gh3
    have Gf3 : upd G2 Gp3 (.dK (mergeK [] [(Sum.inr ("a" : Str), V.int 1)])) Gp3 = some (.dK (mergeK [] [(Sum.inr ("a" : Str), V.int 1)])) := upd_same
    have Gt3 : Same H (upd G2 Gp3 (.dK (mergeK [] [(Sum.inr ("a" : Str), V.int 1)]))) := Gt2.trans Gs3
    generalize upd G2 Gp3 (.dK (mergeK [] [(Sum.inr ("a" : Str), V.int 1)])) = G3 at Gs3 Gf3 Gt3
    refine ⟨(by show 0 ≤ sizeLine; decide), fun Gp4 Gh4 => ?_⟩
    have Gs4 := Same.upd (o := .tup []) Gh4
    have Gf4 : upd G3 Gp4 (.tup []) Gp4 = some (.tup []) := upd_same
    have Gt4 : Same H (upd G3 Gp4 (.tup [])) := Gt3.trans Gs4
    generalize upd G3 Gp4 (.tup []) = G4 at Gs4 Gf4 Gt4
    refine ⟨_, _, rfl, rfl, ⟨by decide, by decide, by decide⟩, (by show 1 ≤ sizeLine; decide), fun Gp5 Gh5 => ?_⟩
    have Gs5 := Same.upd (o := .lst [V.str ("a" : Str)]) Gh5
    have Gf5 : upd G4 Gp5 (.lst [V.str ("a" : Str)]) Gp5 = some (.lst [V.str ("a" : Str)]) := upd_same
    have Gt5 : Same H (upd G4 Gp5 (.lst [V.str ("a" : Str)])) := Gt4.trans Gs5
    generalize upd G4 Gp5 (.lst [V.str ("a" : Str)]) = G5 at Gs5 Gf5 Gt5
    refine ⟨(by show 2 ≤ sizeLine; decide), fun Gp6 Gh6 => ?_⟩
    have Gs6 := Same.upd (o := .tup [V.int 0, V.int 1]) Gh6
    have Gf6 : upd G5 Gp6 (.tup [V.int 0, V.int 1]) Gp6 = some (.tup [V.int 0, V.int 1]) := upd_same
    have Gt6 : Same H (upd G5 Gp6 (.tup [V.int 0, V.int 1])) := Gt5.trans Gs6
    generalize upd G5 Gp6 (.tup [V.int 0, V.int 1]) = G6 at Gs6 Gf6 Gt6
    refine ⟨(by show 1 ≤ sizeLine; decide), fun Gp7 Gh7 => ?_⟩
    have Gs7 := Same.upd (o := .tup [V.ref Gp6]) Gh7
    have Gf7 : upd G6 Gp7 (.tup [V.ref Gp6]) Gp7 = some (.tup [V.ref Gp6]) := upd_same
    have Gt7 : Same H (upd G6 Gp7 (.tup [V.ref Gp6])) := Gt6.trans Gs7
    generalize upd G6 Gp7 (.tup [V.ref Gp6]) = G7 at Gs7 Gf7 Gt7
    refine ⟨(by show 2 ≤ sizeLine; decide), fun Gp8 Gh8 => ?_⟩
    have Gs8 := Same.upd (o := .tup [V.int 0, V.int 1]) Gh8
    have Gf8 : upd G7 Gp8 (.tup [V.int 0, V.int 1]) Gp8 = some (.tup [V.int 0, V.int 1]) := upd_same
    have Gt8 : Same H (upd G7 Gp8 (.tup [V.int 0, V.int 1])) := Gt7.trans Gs8
    generalize upd G7 Gp8 (.tup [V.int 0, V.int 1]) = G8 at Gs8 Gf8 Gt8
    refine ⟨(by show 1 ≤ sizeLine; decide), fun Gp9 Gh9 => ?_⟩
    have Gs9 := Same.upd (o := .lst [V.ref Gp8]) Gh9
    have Gf9 : upd G8 Gp9 (.lst [V.ref Gp8]) Gp9 = some (.lst [V.ref Gp8]) := upd_same
    have Gt9 : Same H (upd G8 Gp9 (.lst [V.ref Gp8])) := Gt8.trans Gs9
    generalize upd G8 Gp9 (.lst [V.ref Gp8]) = G9 at Gs9 Gf9 Gt9
    refine ⟨(by show 16 ≤ sizeLine; decide), fun Gp10 Gh10 => ?_⟩
    rw [show upd G9 Gp10 (.lst [V.non, V.bl true, V.bl false, (fun i : Int => V.int (-i)) 1, V.int 1, V.str ("aB" : Str), V.str ("" : Str), V.ref Gp1, V.ref Gp2, V.ref Gp3, V.ref Gp4, (fun i j : Int => V.int (i ^ j.toNat)) 10 39, V.ref Gp5, V.ref Gp7, V.ref Gp9, V.str ("a b" : Str)]) = upd G9 Gp10 (.lst [V.non, V.bl true, V.bl false, V.int (-1), V.int 1, V.str ("aB" : Str), V.str ("" : Str), V.ref Gp1, V.ref Gp2, V.ref Gp3, V.ref Gp4, V.int (10 ^ 39), V.ref Gp5, V.ref Gp7, V.ref Gp9, V.str ("a b" : Str)]) from rfl]
    have Gs10 := Same.upd (o := .lst [V.non, V.bl true, V.bl false, V.int (-1), V.int 1, V.str ("aB" : Str), V.str ("" : Str), V.ref Gp1, V.ref Gp2, V.ref Gp3, V.ref Gp4, V.int (10 ^ 39), V.ref Gp5, V.ref Gp7, V.ref Gp9, V.str ("a b" : Str)]) Gh10
    have Gf10 : upd G9 Gp10 (.lst [V.non, V.bl true, V.bl false, V.int (-1), V.int 1, V.str ("aB" : Str), V.str ("" : Str), V.ref Gp1, V.ref Gp2, V.ref Gp3, V.ref Gp4, V.int (10 ^ 39), V.ref Gp5, V.ref Gp7, V.ref Gp9, V.str ("a b" : Str)]) Gp10 = some (.lst [V.non, V.bl true, V.bl false, V.int (-1), V.int 1, V.str ("aB" : Str), V.str ("" : Str), V.ref Gp1, V.ref Gp2, V.ref Gp3, V.ref Gp4, V.int (10 ^ 39), V.ref Gp5, V.ref Gp7, V.ref Gp9, V.str ("a b" : Str)]) := upd_same
    have Gt10 : Same H (upd G9 Gp10 (.lst [V.non, V.bl true, V.bl false, V.int (-1), V.int 1, V.str ("aB" : Str), V.str ("" : Str), V.ref Gp1, V.ref Gp2, V.ref Gp3, V.ref Gp4, V.int (10 ^ 39), V.ref Gp5, V.ref Gp7, V.ref Gp9, V.str ("a b" : Str)])) := Gt9.trans Gs10
    generalize upd G9 Gp10 (.lst [V.non, V.bl true, V.bl false, V.int (-1), V.int 1, V.str ("aB" : Str), V.str ("" : Str), V.ref Gp1, V.ref Gp2, V.ref Gp3, V.ref Gp4, V.int (10 ^ 39), V.ref Gp5, V.ref Gp7, V.ref Gp9, V.str ("a b" : Str)]) = G10 at Gs10 Gf10 Gt10
    refine ⟨_, rfl, _, rfl, b, n, 16, rfl, Gt10 _ _ hb, by decide, by decide, fun d n' H' hd hd' hb' kk => ?_⟩
    obtain ⟨v, hv, hm⟩ := at_ofInt (xs := [V.non, V.bl true, V.bl false, V.int (-1), V.int 1, V.str ("aB" : Str), V.str ("" : Str), V.ref Gp1, V.ref Gp2, V.ref Gp3, V.ref Gp4, V.int (10 ^ 39), V.ref Gp5, V.ref Gp7, V.ref Gp9, V.str ("a b" : Str)]) hd (by show d < 16; exact hd')
    have bb := (But.of Gt10).trans kk
    refine ⟨Gp10, _, _, v, rfl, rfl, SqL.of (kk _ _ Gf10 ((ne_of_none (Gt9 _ _ hb) Gh10).symm)), hv, ?_⟩
    simp only [List.mem_cons, List.not_mem_nil, or_false] at hm
    rcases hm with hm | hm | hm | hm | hm | hm | hm | hm | hm | hm | hm | hm | hm | hm | hm | hm
    all_goals subst hm
    · exact q _ n' H' (.inr ⟨_, .non, rfl⟩) hb' bb
    · exact q _ n' H' (.inr ⟨_, .bl _, rfl⟩) hb' bb
    · exact q _ n' H' (.inr ⟨_, .bl _, rfl⟩) hb' bb
    · exact q _ n' H' (.inr ⟨_, .int _, rfl⟩) hb' bb
    · exact q _ n' H' (.inr ⟨_, .int _, rfl⟩) hb' bb
    · exact q _ n' H' (.inl ⟨[97, 66], congrArg V.str (by decide), by decide⟩) hb' bb
    · exact q _ n' H' (.inl ⟨[], congrArg V.str (by decide), by decide⟩) hb' bb
    · exact q _ n' H' (.inr ⟨_, .tup (kk _ _ (Gs10 _ _ (Gs9 _ _ (Gs8 _ _ (Gs7 _ _ (Gs6 _ _ (Gs5 _ _ (Gs4 _ _ (Gs3 _ _ (Gs2 _ _ Gf1))))))))) ((ne_of_none hb Gh1).symm)), rfl⟩) hb' bb
    · exact q _ n' H' (.inr ⟨_, .lst (kk _ _ (Gs10 _ _ (Gs9 _ _ (Gs8 _ _ (Gs7 _ _ (Gs6 _ _ (Gs5 _ _ (Gs4 _ _ (Gs3 _ _ Gf2)))))))) ((ne_of_none (Gt1 _ _ hb) Gh2).symm)), rfl⟩) hb' bb
    · exact q _ n' H' (.inr ⟨_, .dK (kk _ _ (Gs10 _ _ (Gs9 _ _ (Gs8 _ _ (Gs7 _ _ (Gs6 _ _ (Gs5 _ _ (Gs4 _ _ Gf3))))))) ((ne_of_none (Gt2 _ _ hb) Gh3).symm)), rfl⟩) hb' bb
    · exact q _ n' H' (.inr ⟨_, .tup (kk _ _ (Gs10 _ _ (Gs9 _ _ (Gs8 _ _ (Gs7 _ _ (Gs6 _ _ (Gs5 _ _ Gf4)))))) ((ne_of_none (Gt3 _ _ hb) Gh4).symm)), rfl⟩) hb' bb
    · exact q _ n' H' (.inr ⟨_, .int _, rfl⟩) hb' bb
    · exact q _ n' H' (.inr ⟨_, .lst (kk _ _ (Gs10 _ _ (Gs9 _ _ (Gs8 _ _ (Gs7 _ _ (Gs6 _ _ Gf5))))) ((ne_of_none (Gt4 _ _ hb) Gh5).symm)), rfl⟩) hb' bb
    · exact q _ n' H' (.inr ⟨_, .tup (kk _ _ (Gs10 _ _ (Gs9 _ _ (Gs8 _ _ Gf7))) ((ne_of_none (Gt6 _ _ hb) Gh7).symm)), rfl⟩) hb' bb
    · exact q _ n' H' (.inr ⟨_, .lst (kk _ _ (Gs10 _ _ Gf9) ((ne_of_none (Gt8 _ _ hb) Gh9).symm)), rfl⟩) hb' bb
    · exact q _ n' H' (.inl ⟨[97, 32, 98], congrArg V.str (by decide), by decide⟩) hb' bb
end
end Mr

namespace Mr
open PySem L2
section
variable {P : Program} {w : World} {K : PySem.W.Frag} {mg : Str → Option Value} {base : Heap}
theorem scIL : FnScope ["_law_line", "_law_plain", "_law_words"] ["_law_line"] (defScope s_law_is_line) := ⟨rfl, rfl, rfl, by decide +kernel, rfl, by decide +kernel, by decide +kernel⟩
set_option maxHeartbeats 8000000 in
theorem ok_isline (a : At K mg "_law_is_line" s_law_is_line ["_law_line"]) (z_isinstance : mg "isinstance" = none) (z_len : mg "len" = none) (z_str : mg "str" = none) : Df P w K mg base 1 "_law_is_line" ["_law_line"] (spIsLine K) := by
  refine a.df fun f fd F => ?_
  refine F.ok scIL (fun vs H Q E h => ?_) (fun cdv A outer s H vs Q E hr h => ?_)
  · obtain ⟨_, rfl, _⟩ := h
    rfl
  · obtain ⟨x, rfl, h⟩ := h
    refine ⟨_, (@pss_cons _ _ _ _ _ (@ps_if _ _ _ _ _ _ _ _ (pt_not (pt_val (pe_callB call_isT (by rfl) z_isinstance bt_isinstance (pa_cons (pv 0) (pa_cons (pe_bltn (v := .ty "str") (by rfl) z_str bt_str rfl) pa_nil))))) (@pss_one _ _ _ (@ps_ret _ _ _ _ pe_bl)) pss_nil)
      (@pss_cons _ _ _ _ _ (@ps_set _ _ 1 _ _ _ _ scIL.nd rfl (Or.inl rfl) (@pe_lst _ _ _ _ (@pa_str _ _ _ _ _ _  (@pa_str _ _ _ _ _ _  (@pa_str _ _ _ _ _ _  (@pa_str _ _ _ _ _ _  (@pa_str _ _ _ _ _ _  (@pa_str _ _ _ _ _ _  (@pa_str _ _ _ _ _ _  (@pa_str _ _ _ _ _ _  (@pa_str _ _ _ _ _ _  (@pa_str _ _ _ _ _ _  (@pa_str _ _ _ _ _ _  (@pa_str _ _ _ _ _ _  pa_nil))))))))))))) rfl (Or.inl rfl))
      (@pss_cons _ _ _ _ _ (@ps_if _ _ _ _ _ _ _ _ (pt_cmpR op_in_seq (pv 0) (@pe_op _ _ _ _ _ _ _ _ op_cat (pv 1) (@pe_lst _ _ _ _ (@pa_str _ _ _ _ _ _  (@pa_str _ _ _ _ _ _  (@pa_str _ _ _ _ _ _  pa_nil))))) (by with_unfolding_all rfl)) (@pss_one _ _ _ (@ps_ret _ _ _ _ pe_bl)) pss_nil)
      (@pss_cons _ _ _ _ _ (@ps_set _ _ 2 _ _ _ _ scIL.nd rfl (Or.inl rfl) (pe_bm PySem.F.plainAttrs_str PySem.F.slot_str_split PySem.F.type_str_split mt_split (pv 0) (pa_cons pe_str pa_nil)) rfl (Or.inl rfl))
      (@pss_cons _ _ _ _ _ (@ps_if _ _ _ _ _ _ _ _ (PW.pt (pw_or (pt_cmpR op_ne (pe_callB call_len_seq (by rfl) z_len bt_len (pa_cons (pv 2) pa_nil)) pe_int (nomark _)) (pw_or1 (pt_cmpR op_notIn_seq (@pe_ix _ _ _ _ _ _ _ ix_list (pv 2) pe_int (fun _ _ => rfl)) (@pe_lst _ _ _ _ (@pa_str _ _ _ _ _ _  (@pa_str _ _ _ _ _ _  (@pa_str _ _ _ _ _ _  pa_nil)))) (by with_unfolding_all rfl))))) (@pss_one _ _ _ (@ps_ret _ _ _ _ pe_bl)) pss_nil)
      (@pss_cons _ _ _ _ _ (@ps_if _ _ _ _ _ _ _ _ (pt_cmpR op_eq (@pe_ix _ _ _ _ _ _ _ ix_list (pv 2) pe_int (fun _ _ => rfl)) pe_str (nomark _)) (@pss_one _ _ _ (@ps_ret _ _ _ _ (pe_and (pe_cmpR op_ne (@pe_ix _ _ _ _ _ _ _ ix_list (pv 2) pe_int (fun _ _ => rfl)) pe_str (nomark _)) (pe_one (pe_cmpR (op_eqL hr.units0) (pe_comp (ys := []) (ix := []) ⟨rfl, by decide +kernel, rfl, by decide +kernel, rfl, by decide +kernel, trivial, rfl, trivial⟩ rfl (pi_str (@pe_ix _ _ _ _ _ _ _ ix_list (pv 2) pe_int (fun _ _ => rfl))) (fun C fp s H => (pts_one (pt_cmpR op_notInS (pv 0) pe_str (by with_unfolding_all rfl)))) (fun C fp s H => (pv 0))) (@pe_lst _ _ _ _ pa_nil) (nomark _)))))) pss_nil)
      (@pss_cons _ _ _ _ _ (@ps_if _ _ _ _ _ _ _ _ (PW.pt (pw_or (pt_not (pt_chain op_le op_le pe_int (pe_callB call_len_str (by rfl) z_len bt_len (pa_cons (@pe_ix _ _ _ _ _ _ _ ix_list (pv 2) pe_int (fun _ _ => rfl)) pa_nil)) pe_int)) (pw_or1 (PW.pt (pw_and (pt_cmpR op_gt (pe_callB call_len_str (by rfl) z_len bt_len (pa_cons (@pe_ix _ _ _ _ _ _ _ ix_list (pv 2) pe_int (fun _ _ => rfl)) pa_nil)) pe_int (nomark _)) (pw_and1 (pt_cmpR op_eq (@pe_ix _ _ _ _ _ _ _ ix_strS (@pe_ix _ _ _ _ _ _ _ ix_list (pv 2) pe_int (fun _ _ => rfl)) pe_int (fun _ _ => rfl)) pe_str (nomark _)))))))) (@pss_one _ _ _ (@ps_ret _ _ _ _ pe_bl)) pss_nil)
      (@pss_one _ _ _ (@ps_ret _ _ _ _ (pe_cmpR (op_eqL hr.units0) (pe_comp (ys := []) (ix := []) ⟨rfl, by decide +kernel, rfl, by decide +kernel, rfl, by decide +kernel, trivial, rfl, trivial⟩ rfl (pi_str (@pe_ix _ _ _ _ _ _ _ ix_list (pv 2) pe_int (fun _ _ => rfl))) (fun C fp s H => (pts_one (pt_cmpR op_notInS (pv 0) pe_str (by with_unfolding_all rfl)))) (fun C fp s H => (pv 0))) (@pe_lst _ _ _ _ pa_nil) (nomark _))))))))))), ?_⟩
    rcases h with ⟨line, rfl, hl, q⟩ | ⟨⟨t0, ht, hk⟩, q⟩
    case inr => exact ⟨_, rfl, _, "str", _, false, rfl, ht, hk, _, rfl, iteT (q H (Same.refl _))⟩
    refine ⟨_, rfl, _, "str", _, true, rfl, .str _, by rfl, _, rfl, iteF ?_⟩
    rw [e_clear, e_row, e_back, e_last, e_longest, e_tree, e_behind, e_ahead, e_kinds, e_full, e_fewest, e_cuts, e_more, e_even, e_take]
    refine ⟨(by show 12 ≤ sizeLine; decide), fun p1 hp1 => ?_⟩
    have s1 := Same.upd (o := .lst (txV plain12)) hp1
    have f1 : upd H p1 (.lst (txV plain12)) p1 = some (.lst (txV plain12)) := upd_same
    rw [show upd H p1 (.lst [V.str (tx wClear), V.str (tx wRow), V.str (tx wBack), V.str (tx wLast), V.str (tx wLongest), V.str (tx wTree), V.str (tx wBehind), V.str (tx wAhead), V.str (tx wKinds), V.str (tx wFull), V.str (tx wFewest), V.str (tx wCuts)]) = upd H p1 (.lst (txV plain12)) from rfl]
    generalize upd H p1 (.lst (txV plain12)) = H1 at s1 f1
    refine ⟨_, rfl, _, rfl, (by show 3 ≤ sizeLine; decide), fun p2 hp2 => ?_⟩
    have s2 := Same.upd (o := .lst (txV [wMore, wEven, wTake])) hp2
    have f2 : upd H1 p2 (.lst (txV [wMore, wEven, wTake])) p2 = some (.lst (txV [wMore, wEven, wTake])) := upd_same
    rw [show upd H1 p2 (.lst [V.str (tx wMore), V.str (tx wEven), V.str (tx wTake)]) = upd H1 p2 (.lst (txV [wMore, wEven, wTake])) from rfl]
    generalize upd H1 p2 (.lst (txV [wMore, wEven, wTake])) = H2 at s2 f2
    refine ⟨p1, p2, _, _, rfl, rfl, s2 _ _ f1, f2, (by show 15 ≤ sizeLine; decide), fun p3 hp3 => ?_⟩
    have s3 := Same.upd (o := .lst (txV plain15)) hp3
    have f3 : upd H2 p3 (.lst (txV plain15)) p3 = some (.lst (txV plain15)) := upd_same
    rw [show upd H2 p3 (.lst (txV plain12 ++ txV [wMore, wEven, wTake])) = upd H2 p3 (.lst (txV plain15)) from rfl]
    generalize upd H2 p3 (.lst (txV plain15)) = H3 at s3 f3
    have S3 := s1.trans (s2.trans s3)
    refine ⟨p3, _, rfl, .inl (SqL.of f3), rfl, txV_flat _, _, rfl, ?_⟩
    rw [if_neg (by decide), inV_tx]
    unfold isLineB at q
    by_cases hp : line ∈ plain15
    · rw [decide_eq_true hp] at q ⊢
      exact iteT (q H3 S3)
    rw [decide_eq_false hp] at q ⊢
    rw [Bool.false_or] at q
    refine iteF ?_
    refine ⟨_, rfl, rfl, line, 32, rfl, congrArg (fun z => [V.str z]) (by decide : (" " : Str) = tx [32]), by decide, by omega, fun pw hpw => ?_⟩
    have s4 := Same.upd (o := .lst (wordsV (splitL 32 line))) hpw
    have f4 : upd H3 pw (.lst (wordsV (splitL 32 line))) pw = some (.lst (wordsV (splitL 32 line))) := upd_same
    rw [show upd H3 pw (.lst ((splitL 32 line).map fun w => V.str (tx w))) = upd H3 pw (.lst (wordsV (splitL 32 line))) from rfl]
    generalize upd H3 pw (.lst (wordsV (splitL 32 line))) = H4 at s4 f4
    have S4 := S3.trans s4
    have hsw := split_short hl
    generalize splitL 32 line = ws at f4 hsw q
    have hlw : (wordsV ws).length = ws.length := List.length_map ..
    rw [e_add, e_nil, e_lets, e_dig0, e_figs]
    refine ⟨_, rfl, pw, _, rfl, .inl (SqL.of f4), rfl, _, rfl, ?_⟩
    by_cases h2 : ws.length = 2
    case neg =>
      rw [show (!decide (V.int (((wordsV ws).length : Nat) : Int) = V.int 2)) = true by rw [decide_eq_false fun z => h2 (by have := V.int.inj z; rw [hlw] at this; omega)]; rfl]
      have := q H4 S4
      rw [isLineW_ne h2] at this
      exact iteT (iteT this)
    obtain ⟨a0, w0, rfl⟩ : ∃ a0 w0, ws = [a0, w0] := by
      match ws, h2 with
      | [a0, w0], _ => exact ⟨a0, w0, rfl⟩
    have q : ∀ H', Same H H' → Q (.bl (isLine2 a0 w0)) H' := q
    have hw0 : w0.length ≤ 1000 := hsw.2 w0 (by simp)
    have hz0 : w0.length ≤ sizeLine := by rw [sizeLine_eq]; omega
    refine iteF ⟨_, rfl, pw, _, _, _, rfl, rfl, SqL.of f4, atI_nat (j := 0) rfl, (by show 3 ≤ sizeLine; decide), fun p5 hp5 => ?_⟩
    have s5 := Same.upd (o := .lst (txV [wAdd, wTake, wCuts])) hp5
    have g5 : upd H4 p5 (.lst (txV [wAdd, wTake, wCuts])) p5 = some (.lst (txV [wAdd, wTake, wCuts])) := upd_same
    rw [show upd H4 p5 (.lst [V.str (tx wAdd), V.str (tx wTake), V.str (tx wCuts)]) = upd H4 p5 (.lst (txV [wAdd, wTake, wCuts])) from rfl]
    generalize upd H4 p5 (.lst (txV [wAdd, wTake, wCuts])) = H5 at s5 g5
    have S5 := S4.trans s5
    have f5 := s5 _ _ f4
    refine ⟨p5, _, rfl, .inl (SqL.of g5), rfl, txV_flat _, _, rfl, ?_⟩
    rw [if_pos rfl, inV_tx]
    by_cases hin : a0 ∈ [wAdd, wTake, wCuts]
    case neg =>
      rw [decide_eq_false hin]
      have := q H5 S5
      rw [isLine2_no hin] at this
      exact iteT this
    rw [decide_eq_true hin]
    refine iteF ⟨_, rfl, pw, _, _, _, rfl, rfl, SqL.of f5, atI_nat (j := 0) rfl, rfl, _, rfl, ?_⟩
    rw [eq_tx]
    unfold isLine2 at q
    by_cases ha : a0 = wAdd
    · rw [if_pos ha] at q
      rw [decide_eq_true ha]
      refine iteT ⟨_, rfl, pw, _, _, _, rfl, rfl, SqL.of f5, atI_nat (j := 1) rfl, rfl, _, rfl, ?_⟩
      rw [eq_tx]
      by_cases h0 : w0 = []
      · rw [decide_eq_true h0] at q ⊢
        exact iteF (q H5 S5)
      rw [decide_eq_false h0] at q ⊢
      refine iteT ?_
      refine ⟨_, rfl, pw, _, _, _, rfl, rfl, SqL.of f5, atI_nat (j := 1) rfl, w0, rfl, comp_str (l := w0) hz0 (fun i ys H' => H' = H5 ∧ ys = ((w0.take i).filter fun c => !decide (c ∈ lets)).map fun c => V.str (tx [c])) ⟨rfl, rfl⟩ ?_ ?_⟩
      · rintro i c ys H' N hc hy ⟨rfl, rfl⟩ hN
        refine ⟨_, rfl, c, lets, rfl, rfl, _, rfl, ?_⟩
        by_cases hcl : c ∈ lets
        · rw [decide_eq_true hcl]
          refine iteF (hN _ _ (by omega) ⟨rfl, ?_⟩)
          rw [List.take_succ, hc, List.filter_append]
          show _ = List.map _ (_ ++ List.filter _ [c])
          rw [List.filter_cons, decide_eq_true hcl]
          simp
        · rw [decide_eq_false hcl]
          refine iteT ⟨_, rfl, hN _ _ (by rw [List.length_append]; exact Nat.succ_le_succ hy) ⟨rfl, ?_⟩⟩
          rw [List.take_succ, hc, List.filter_append, List.map_append]
          show _ = _ ++ List.map _ (List.filter _ [c])
          rw [List.filter_cons, decide_eq_false hcl]
          rfl
      rintro ys H' hy ⟨rfl, rfl⟩ pc hpc
      rw [List.take_of_length_le (Nat.le_refl _)]
      have s6 := Same.upd (o := .lst ((w0.filter fun c => !decide (c ∈ lets)).map fun c => V.str (tx [c]))) hpc
      have f6 : upd H' pc (.lst ((w0.filter fun c => !decide (c ∈ lets)).map fun c => V.str (tx [c]))) pc = some (.lst ((w0.filter fun c => !decide (c ∈ lets)).map fun c => V.str (tx [c]))) := upd_same
      generalize upd H' pc (.lst ((w0.filter fun c => !decide (c ∈ lets)).map fun c => V.str (tx [c]))) = H6 at s6 f6
      refine ⟨(by show 0 ≤ sizeLine; decide), fun p7 hp7 => ?_⟩
      have s7 := Same.upd (o := .lst []) hp7
      have f7 : upd H6 p7 (.lst []) p7 = some (.lst []) := upd_same
      generalize upd H6 p7 (.lst []) = H7 at s7 f7
      refine ⟨pc, p7, _, _, rfl, rfl, SqL.of (s7 _ _ f6), SqL.of f7, chars_flat _, rfl, ?_⟩
      rw [eqVs_nil, flt_all]
      exact q H7 (S5.trans (s6.trans s7))
    · rw [if_neg ha, if_pos (by simp only [List.mem_cons, List.not_mem_nil, or_false] at hin; exact hin.resolve_left ha)] at q
      rw [decide_eq_false ha]
      unfold isNum2 at q
      refine iteF ⟨_, rfl, pw, _, _, _, rfl, rfl, SqL.of f5, atI_nat (j := 1) rfl, tx w0, rfl, (by rw [tx_len]; exact hz0), _, _, rfl, rfl, _, rfl, ?_⟩
      rw [tx_len]
      by_cases h1 : 1 ≤ w0.length
      case neg =>
        rw [decide_eq_false (show ¬ (1 : Int) ≤ ((w0.length : Nat) : Int) by omega)]
        have := q H5 S5
        rw [decide_eq_false h1] at this
        exact iteF ⟨_, rfl, iteT (iteT this)⟩
      rw [decide_eq_true (show (1 : Int) ≤ ((w0.length : Nat) : Int) by omega)]
      refine iteT ⟨_, _, rfl, rfl, _, rfl, ?_⟩
      by_cases h4 : w0.length ≤ 4
      case neg =>
        rw [decide_eq_false (show ¬ ((w0.length : Nat) : Int) ≤ 4 by omega)]
        have := q H5 S5
        rw [decide_eq_false h4, Bool.and_false] at this
        exact iteT (iteT this)
      rw [decide_eq_true (show ((w0.length : Nat) : Int) ≤ 4 by omega)]
      rw [decide_eq_true h1, decide_eq_true h4] at q
      refine iteF ⟨_, rfl, pw, _, _, _, rfl, rfl, SqL.of f5, atI_nat (j := 1) rfl, tx w0, rfl, (by rw [tx_len]; exact hz0), _, _, rfl, rfl, _, rfl, ?_⟩
      rw [tx_len]
      have g0 : w0[0]? = some w0[0] := List.getElem?_eq_getElem (by omega)
      generalize w0[0] = c0 at g0
      have fin : (decide (1 < w0.length) && decide (w0[0]? = some 48)) = false → ∀ H', Same H H' → Q (.bl (w0.all fun c => decide (c ∈ figs))) H' := fun hbf H' s' => by
        have := q H' s'
        rw [hbf] at this
        exact this
      by_cases h11 : 1 < w0.length
      case neg =>
        rw [decide_eq_false (show ¬ (1 : Int) < ((w0.length : Nat) : Int) by omega)]
        have q' := fin (by rw [decide_eq_false h11]; rfl)
        refine iteF (iteF ?_)
        refine ⟨_, rfl, pw, _, _, _, rfl, rfl, SqL.of f5, atI_nat (j := 1) rfl, w0, rfl, comp_str (l := w0) hz0 (fun i ys H' => H' = H5 ∧ ys = ((w0.take i).filter fun c => !decide (c ∈ figs)).map fun c => V.str (tx [c])) ⟨rfl, rfl⟩ ?_ ?_⟩
        · rintro i c ys H' N hc hy ⟨rfl, rfl⟩ hN
          refine ⟨_, rfl, c, figs, rfl, rfl, _, rfl, ?_⟩
          by_cases hcl : c ∈ figs
          · rw [decide_eq_true hcl]
            refine iteF (hN _ _ (by omega) ⟨rfl, ?_⟩)
            rw [List.take_succ, hc, List.filter_append]
            show _ = List.map _ (_ ++ List.filter _ [c])
            rw [List.filter_cons, decide_eq_true hcl]
            simp
          · rw [decide_eq_false hcl]
            refine iteT ⟨_, rfl, hN _ _ (by rw [List.length_append]; exact Nat.succ_le_succ hy) ⟨rfl, ?_⟩⟩
            rw [List.take_succ, hc, List.filter_append, List.map_append]
            show _ = _ ++ List.map _ (List.filter _ [c])
            rw [List.filter_cons, decide_eq_false hcl]
            rfl
        rintro ys H' hy ⟨rfl, rfl⟩ pc hpc
        rw [List.take_of_length_le (Nat.le_refl _)]
        have s6 := Same.upd (o := .lst ((w0.filter fun c => !decide (c ∈ figs)).map fun c => V.str (tx [c]))) hpc
        have f6 : upd H' pc (.lst ((w0.filter fun c => !decide (c ∈ figs)).map fun c => V.str (tx [c]))) pc = some (.lst ((w0.filter fun c => !decide (c ∈ figs)).map fun c => V.str (tx [c]))) := upd_same
        generalize upd H' pc (.lst ((w0.filter fun c => !decide (c ∈ figs)).map fun c => V.str (tx [c]))) = H6 at s6 f6
        refine ⟨(by show 0 ≤ sizeLine; decide), fun p7 hp7 => ?_⟩
        have s7 := Same.upd (o := .lst []) hp7
        have f7 : upd H6 p7 (.lst []) p7 = some (.lst []) := upd_same
        generalize upd H6 p7 (.lst []) = H7 at s7 f7
        refine ⟨pc, p7, _, _, rfl, rfl, SqL.of (s7 _ _ f6), SqL.of f7, chars_flat _, rfl, ?_⟩
        rw [eqVs_nil, flt_all]
        exact q' H7 (S5.trans (s6.trans s7))
      rw [decide_eq_true (show (1 : Int) < ((w0.length : Nat) : Int) by omega)]
      refine iteT ⟨_, rfl, pw, _, _, _, rfl, rfl, SqL.of f5, atI_nat (j := 1) rfl, w0, _, c0, rfl, rfl, hz0, atI_nat (j := 0) g0, rfl, _, rfl, ?_⟩
      rw [eq_tx]
      by_cases hc : c0 = 48
      · rw [decide_eq_true (show [c0] = [48] by rw [hc])]
        have := q H5 S5
        rw [decide_eq_true h11, decide_eq_true (show w0[0]? = some 48 by rw [g0, hc])] at this
        exact iteT this
      rw [decide_eq_false (show ¬ [c0] = [48] from fun z => hc (List.cons.inj z).1)]
      have q' := fin (by rw [decide_eq_false (show ¬ w0[0]? = some 48 by rw [g0]; exact fun z => hc (Option.some.inj z)), Bool.and_false])
      refine iteF ?_
      refine ⟨_, rfl, pw, _, _, _, rfl, rfl, SqL.of f5, atI_nat (j := 1) rfl, w0, rfl, comp_str (l := w0) hz0 (fun i ys H' => H' = H5 ∧ ys = ((w0.take i).filter fun c => !decide (c ∈ figs)).map fun c => V.str (tx [c])) ⟨rfl, rfl⟩ ?_ ?_⟩
      · rintro i c ys H' N hc hy ⟨rfl, rfl⟩ hN
        refine ⟨_, rfl, c, figs, rfl, rfl, _, rfl, ?_⟩
        by_cases hcl : c ∈ figs
        · rw [decide_eq_true hcl]
          refine iteF (hN _ _ (by omega) ⟨rfl, ?_⟩)
          rw [List.take_succ, hc, List.filter_append]
          show _ = List.map _ (_ ++ List.filter _ [c])
          rw [List.filter_cons, decide_eq_true hcl]
          simp
        · rw [decide_eq_false hcl]
          refine iteT ⟨_, rfl, hN _ _ (by rw [List.length_append]; exact Nat.succ_le_succ hy) ⟨rfl, ?_⟩⟩
          rw [List.take_succ, hc, List.filter_append, List.map_append]
          show _ = _ ++ List.map _ (List.filter _ [c])
          rw [List.filter_cons, decide_eq_false hcl]
          rfl
      rintro ys H' hy ⟨rfl, rfl⟩ pc hpc
      rw [List.take_of_length_le (Nat.le_refl _)]
      have s6 := Same.upd (o := .lst ((w0.filter fun c => !decide (c ∈ figs)).map fun c => V.str (tx [c]))) hpc
      have f6 : upd H' pc (.lst ((w0.filter fun c => !decide (c ∈ figs)).map fun c => V.str (tx [c]))) pc = some (.lst ((w0.filter fun c => !decide (c ∈ figs)).map fun c => V.str (tx [c]))) := upd_same
      generalize upd H' pc (.lst ((w0.filter fun c => !decide (c ∈ figs)).map fun c => V.str (tx [c]))) = H6 at s6 f6
      refine ⟨(by show 0 ≤ sizeLine; decide), fun p7 hp7 => ?_⟩
      have s7 := Same.upd (o := .lst []) hp7
      have f7 : upd H6 p7 (.lst []) p7 = some (.lst []) := upd_same
      generalize upd H6 p7 (.lst []) = H7 at s7 f7
      refine ⟨pc, p7, _, _, rfl, rfl, SqL.of (s7 _ _ f6), SqL.of f7, chars_flat _, rfl, ?_⟩
      rw [eqVs_nil, flt_all]
      exact q' H7 (S5.trans (s6.trans s7))
end
end Mr

namespace Mr
open PySem L2
section
variable {P : Program} {w : World} {K : PySem.W.Frag} {mg : Str → Option Value} {base : Heap}
theorem scBe : FnScope ["_law_box_here", "_law_line", "_law_words", "_law_at", "_law_odd_here", "_law_word", "_law_mode"] ["_law_box_here", "_law_line"] (defScope s_law_bent) := ⟨rfl, rfl, rfl, by decide +kernel, rfl, by decide +kernel, by decide +kernel⟩
set_option maxHeartbeats 8000000 in
theorem ok_bent84 (a : At K mg "_law_bent" s_law_bent ["_law_box_here", "_law_line"]) (d_law_take : Df P w K mg base 1 "_law_take" ["_law_box_here", "_law_many"] spTakeI) (z_len : mg "len" = none) : Df P w K mg base 2 "_law_bent" ["_law_box_here", "_law_line"] spBent84 := by
  refine a.df fun f fd F => ?_
  refine F.ok scBe (fun vs H Q E h => ?_) (fun cdv A outer s H vs Q E hr h => ?_)
  · obtain ⟨_, _, _, rfl, _⟩ := h
    rfl
  · obtain ⟨b, n, line, rfl, hb, hn0, hl, hc, q⟩ := h
    refine ⟨_, (@pss_cons _ _ _ _ _ (@ps_set _ _ 2 _ _ _ _ scBe.nd rfl (Or.inl rfl) (pe_bm PySem.F.plainAttrs_str PySem.F.slot_str_split PySem.F.type_str_split mt_split (pv 1) (pa_cons pe_str pa_nil)) rfl (Or.inl rfl))
      (@pss_cons _ _ _ _ _ (@ps_set _ _ 3 _ _ _ _ scBe.nd rfl (Or.inl rfl) (pe_df d_law_take hr rfl (pa_cons (pv 0) (pa_cons (pe_callB call_len_seq (by rfl) z_len bt_len (pa_cons (pv 2) pa_nil)) pa_nil))) rfl (Or.inl rfl))
      (@pss_cons _ _ _ _ _ (@ps_set _ _ 4 _ _ _ _ scBe.nd rfl (Or.inl rfl) (@pe_lst _ _ _ _ (@pa_str _ _ _ _ _ _  (@pa_str _ _ _ _ _ _  (@pa_str _ _ _ _ _ _  (@pa_str _ _ _ _ _ _  (@pa_str _ _ _ _ _ _  (@pa_str _ _ _ _ _ _  (@pa_str _ _ _ _ _ _  (@pa_str _ _ _ _ _ _  (@pa_str _ _ _ _ _ _  (@pa_str _ _ _ _ _ _  (@pa_str _ _ _ _ _ _  (@pa_str _ _ _ _ _ _  (@pa_str _ _ _ _ _ _  pa_nil)))))))))))))) rfl (Or.inl rfl))
      (@pss_cons _ _ _ _ _ (@ps_set _ _ 5 _ _ _ _ scBe.nd rfl (Or.inl rfl) (@pe_ix _ _ _ _ _ _ _ ix_list (pv 4) (pe_df d_law_take hr rfl (pa_cons (pv 0) (pa_cons pe_int pa_nil))) (fun _ _ => rfl)) rfl (Or.inl rfl))
      (@pss_cons _ _ _ _ _ (@ps_set _ _ 6 _ _ _ _ scBe.nd rfl (Or.inl rfl) (pe_df d_law_take hr rfl (pa_cons (pv 0) (pa_cons pe_int pa_nil))) rfl (Or.inl rfl))
      (@pss_cons _ _ _ _ _ (@ps_if _ _ _ _ _ _ _ _ (pt_cmpR op_eq (pv 6) pe_int (nomark _)) (@pss_one _ _ _ (@ps_ret _ _ _ _ (pe_bm PySem.F.plainAttrs_str PySem.F.slot_str_join PySem.F.type_str_join mt_joinL pe_str (pa_cons (@pe_op _ _ _ _ _ _ _ _ op_cat (pe_slice sl_list (pv 2) po_none (po_some (pv 3))) (pe_slice sl_list (pv 2) (po_some (@pe_op _ _ _ _ _ _ _ _ op_add (pv 3) pe_int)) po_none)) pa_nil)))) pss_nil)
      (@pss_cons _ _ _ _ _ (@ps_if _ _ _ _ _ _ _ _ (pt_cmpR op_eq (pv 6) pe_int (nomark _)) (@pss_one _ _ _ (@ps_ret _ _ _ _ (pe_bm PySem.F.plainAttrs_str PySem.F.slot_str_join PySem.F.type_str_join mt_joinL pe_str (pa_cons (@pe_op _ _ _ _ _ _ _ _ op_cat (@pe_op _ _ _ _ _ _ _ _ op_cat (pe_slice sl_list (pv 2) po_none (po_some (pv 3))) (@pe_lst _ _ _ _ (@pa_name _ _ _ _ _ _  (pv 5) pa_nil))) (pe_slice sl_list (pv 2) (po_some (pv 3)) po_none)) pa_nil)))) pss_nil)
      (@pss_cons _ _ _ _ _ (@ps_if _ _ _ _ _ _ _ _ (pt_cmpR op_eq (pv 6) pe_int (nomark _)) (@pss_one _ _ _ (@ps_ret _ _ _ _ (pe_bm PySem.F.plainAttrs_str PySem.F.slot_str_join PySem.F.type_str_join mt_joinL pe_str (pa_cons (@pe_op _ _ _ _ _ _ _ _ op_cat (@pe_op _ _ _ _ _ _ _ _ op_cat (pe_slice sl_list (pv 2) po_none (po_some (pv 3))) (@pe_lst _ _ _ _ (@pa_name _ _ _ _ _ _  (pv 5) pa_nil))) (pe_slice sl_list (pv 2) (po_some (@pe_op _ _ _ _ _ _ _ _ op_add (pv 3) pe_int)) po_none)) pa_nil)))) pss_nil)
      (@pss_cons _ _ _ _ _ (@ps_if _ _ _ _ _ _ _ _ (pt_cmpR op_eq (pv 6) pe_int (nomark _)) (@pss_one _ _ _ (@ps_ret _ _ _ _ (@pe_op _ _ _ _ _ _ _ _ op_addS (@pe_op _ _ _ _ _ _ _ _ op_addS (pv 1) pe_str) (pv 5)))) pss_nil)
      (@pss_cons _ _ _ _ _ (@ps_if _ _ _ _ _ _ _ _ (pt_cmpR op_eq (pv 6) pe_int (nomark _)) (@pss_one _ _ _ (@ps_ret _ _ _ _ (@pe_op _ _ _ _ _ _ _ _ op_addS (pv 1) pe_str))) pss_nil)
      (@pss_one _ _ _ (@ps_ret _ _ _ _ (@pe_op _ _ _ _ _ _ _ _ op_addS (pe_bm0 PySem.F.plainAttrs_str PySem.F.slot_str_upper PySem.F.type_str_upper mt_upper (pe_slice sl_strS (pv 1) po_none (po_some pe_int))) (pe_slice sl_strS (pv 1) (po_some pe_int) po_none)))))))))))))), ?_⟩
    have hz : line.length ≤ sizeLine := by rw [sizeLine_eq]; omega
    have hn1 : 1 ≤ line.length := List.length_pos_iff.mpr hn0
    rw [e_blank, e_nil, e_dig0, e_b00, e_b01, e_bm1, e_b10000, e_bx, e_row, e_baB, e_ba1, e_b10, e_bAdd, e_take, e_bnl]
    refine ⟨_, rfl, rfl, line, 32, rfl, rfl, by decide, by omega, fun pw hpw => ?_⟩
    have s1 := Same.upd (o := .lst (wordsV (splitL 32 line))) hpw
    have f1 : upd H pw (.lst (wordsV (splitL 32 line))) pw = some (.lst (wordsV (splitL 32 line))) := upd_same
    rw [show upd H pw (.lst ((splitL 32 line).map fun w => V.str (tx w))) = upd H pw (.lst (wordsV (splitL 32 line))) from rfl]
    generalize upd H pw (.lst (wordsV (splitL 32 line))) = H1 at s1 f1
    have hws : (splitL 32 line).length ≤ 21 := by have := splitL_len 32 line; omega
    have hw1 : 1 ≤ (splitL 32 line).length := split_pos 32 line
    have hwl : ∀ w ∈ splitL 32 line, w.length ≤ 20 := fun w hw => Nat.le_trans (split_word hw) hl
    generalize splitL 32 line = ws at f1 hws hw1 hwl
    have hlw : (wordsV ws).length = ws.length := List.length_map ..
    have hb1 := s1 _ _ hb
    refine ⟨_, rfl, _, rfl, pw, _, rfl, .inl (SqL.of f1), b, n, _, rfl, hb1, (by rw [hlw]; omega), (by rw [hlw]; omega), fun da n2 H2 hda hda' hb2 k2 => ?_⟩
    have nwb : pw ≠ b := (ne_of_none hb hpw).symm
    have f2 := k2 _ _ f1 nwb
    have B2 : But b H H2 := (But.of s1).trans k2
    refine ⟨(by show 13 ≤ sizeLine; decide), fun po hpo => ?_⟩
    have s3 := Same.upd (o := .lst (wordsV odds84)) hpo
    have f3 : upd H2 po (.lst (wordsV odds84)) po = some (.lst (wordsV odds84)) := upd_same
    rw [show upd H2 po (.lst [V.str (tx []), V.str (tx [48]), V.str (tx [48, 48]), V.str (tx [48, 49]), V.str (tx [45, 49]), V.str (tx [49, 48, 48, 48, 48]), V.str (tx [120]), V.str (tx wRow), V.str (tx [97, 66]), V.str (tx [97, 49]), V.str (tx [49, 46, 48]), V.str (tx [65, 100, 100]), V.str (tx wTake)]) = upd H2 po (.lst (wordsV odds84)) from rfl]
    generalize upd H2 po (.lst (wordsV odds84)) = H3 at s3 f3
    have hb3 := s3 _ _ hb2
    have nob : po ≠ b := (ne_of_none hb2 hpo).symm
    refine ⟨_, rfl, _, rfl, b, n2, 13, rfl, hb3, by decide, by decide, fun dw n4 H4 hdw hdw' hb4 k4 => ?_⟩
    obtain ⟨v, hv, hm⟩ := at_ofInt (xs := wordsV odds84) hdw (by show dw < 13; omega)
    obtain ⟨w0, hw0, rfl⟩ := List.mem_map.mp hm
    have hw0l : w0.length ≤ 20 := (by decide : ∀ w ∈ odds84, w.length ≤ 20) w0 hw0
    refine ⟨po, _, _, _, rfl, rfl, SqL.of (k4 _ _ f3 nob), hv, ?_⟩
    have f4 := k4 _ _ (s3 _ _ f2) nwb
    refine ⟨_, rfl, b, n4, 6, rfl, hb4, by decide, by decide, fun dm n5 H5 hdm hdm' hb5 k5 => ?_⟩
    have f5 := k5 _ _ f4 nwb
    have B5 : But b H H5 := ((B2.trans (But.of s3)).trans k4).trans k5
    have TH5 : Same H5 H5 := Same.refl _
    refine ⟨_, rfl, rfl, _, rfl, ite2 (fun _ => ?_) (fun _ => ?_)⟩
    · refine ⟨rfl, ?_⟩
      refine ⟨_, rfl, _, rfl, _, rfl, pw, _, rfl, SqL.of (TH5 _ _ f5), fun a1 ha1 => ?_⟩
      obtain ⟨z1, ez1, lz1, wz1⟩ := Wds.cut (by omega : ws.length ≤ 30) hwl none (some da)
      rw [ez1]
      have u1 := Same.upd (o := .lst (wordsV z1)) ha1
      have v1 : upd H5 a1 (.lst (wordsV z1)) a1 = some (.lst (wordsV z1)) := upd_same
      generalize upd H5 a1 (.lst (wordsV z1)) = K1 at u1 v1
      have TK1 := TH5.trans u1
      refine ⟨_, rfl, _, rfl, _, _, rfl, rfl, _, rfl, pw, _, rfl, SqL.of (TK1 _ _ f5), fun a2 ha2 => ?_⟩
      obtain ⟨z2, ez2, lz2, wz2⟩ := Wds.cut (by omega : ws.length ≤ 30) hwl (some (da + 1)) none
      rw [ez2]
      have u2 := Same.upd (o := .lst (wordsV z2)) ha2
      have v2 : upd K1 a2 (.lst (wordsV z2)) a2 = some (.lst (wordsV z2)) := upd_same
      generalize upd K1 a2 (.lst (wordsV z2)) = K2 at u2 v2
      have TK2 := TK1.trans u2
      refine ⟨a1, a2, _, _, rfl, rfl, u2 _ _ v1, v2, (by unfold wordsV; rw [List.length_map, List.length_map, sizeLine_eq]; (try simp only [List.length_append, List.length_cons, List.length_nil]); omega), fun a3 ha3 => ?_⟩
      rw [show wordsV (z1) ++ wordsV (z2) = wordsV ((z1) ++ (z2)) from (List.map_append ..).symm]
      have u3 := Same.upd (o := .lst (wordsV ((z1) ++ (z2)))) ha3
      have v3 : upd K2 a3 (.lst (wordsV ((z1) ++ (z2)))) a3 = some (.lst (wordsV ((z1) ++ (z2)))) := upd_same
      generalize upd K2 a3 (.lst (wordsV ((z1) ++ (z2)))) = K3 at u3 v3
      have TK3 := TK2.trans u3
      have hzz : ∀ w ∈ (z1 ++ z2), w.length ≤ 20 := fun w hw => by
        simp only [List.mem_append, List.mem_cons, List.not_mem_nil, or_false] at hw
        exact hw.elim (wz1 w) (wz2 w)
      have hjs := join_short (zs := (z1 ++ z2)) (by simp only [List.length_append, List.length_cons, List.length_nil]; omega) hzz
      exact ⟨a3, [32], (z1 ++ z2), rfl, rfl, SqL.of v3, hjs.2, q _ n5 _ hjs.1 (TK3 _ _ hb5) (B5.trans (But.of TK3))⟩
    refine ⟨_, rfl, rfl, _, rfl, ite2 (fun _ => ?_) (fun _ => ?_)⟩
    · refine ⟨rfl, ?_⟩
      refine ⟨_, rfl, _, rfl, _, rfl, pw, _, rfl, SqL.of (TH5 _ _ f5), fun a1 ha1 => ?_⟩
      obtain ⟨z1, ez1, lz1, wz1⟩ := Wds.cut (by omega : ws.length ≤ 30) hwl none (some da)
      rw [ez1]
      have u1 := Same.upd (o := .lst (wordsV z1)) ha1
      have v1 : upd H5 a1 (.lst (wordsV z1)) a1 = some (.lst (wordsV z1)) := upd_same
      generalize upd H5 a1 (.lst (wordsV z1)) = K1 at u1 v1
      have TK1 := TH5.trans u1
      refine ⟨_, rfl, (by show 1 ≤ sizeLine; decide), fun a2 ha2 => ?_⟩
      have u2 := Same.upd (o := .lst (wordsV [w0])) ha2
      have v2 : upd K1 a2 (.lst (wordsV [w0])) a2 = some (.lst (wordsV [w0])) := upd_same
      rw [show upd K1 a2 (.lst [V.str (tx w0)]) = upd K1 a2 (.lst (wordsV [w0])) from rfl]
      generalize upd K1 a2 (.lst (wordsV [w0])) = K2 at u2 v2
      have TK2 := TK1.trans u2
      refine ⟨a1, a2, _, _, rfl, rfl, u2 _ _ v1, v2, (by unfold wordsV; rw [List.length_map, List.length_map, sizeLine_eq]; (try simp only [List.length_append, List.length_cons, List.length_nil]); omega), fun a3 ha3 => ?_⟩
      rw [show wordsV (z1) ++ wordsV ([w0]) = wordsV ((z1) ++ ([w0])) from (List.map_append ..).symm]
      have u3 := Same.upd (o := .lst (wordsV ((z1) ++ ([w0])))) ha3
      have v3 : upd K2 a3 (.lst (wordsV ((z1) ++ ([w0])))) a3 = some (.lst (wordsV ((z1) ++ ([w0])))) := upd_same
      generalize upd K2 a3 (.lst (wordsV ((z1) ++ ([w0])))) = K3 at u3 v3
      have TK3 := TK2.trans u3
      refine ⟨_, rfl, _, rfl, _, rfl, pw, _, rfl, SqL.of (TK3 _ _ f5), fun a4 ha4 => ?_⟩
      obtain ⟨z4, ez4, lz4, wz4⟩ := Wds.cut (by omega : ws.length ≤ 30) hwl (some da) none
      rw [ez4]
      have u4 := Same.upd (o := .lst (wordsV z4)) ha4
      have v4 : upd K3 a4 (.lst (wordsV z4)) a4 = some (.lst (wordsV z4)) := upd_same
      generalize upd K3 a4 (.lst (wordsV z4)) = K4 at u4 v4
      have TK4 := TK3.trans u4
      refine ⟨a3, a4, _, _, rfl, rfl, u4 _ _ v3, v4, (by unfold wordsV; rw [List.length_map, List.length_map, sizeLine_eq]; (try simp only [List.length_append, List.length_cons, List.length_nil]); omega), fun a5 ha5 => ?_⟩
      rw [show wordsV (z1 ++ [w0]) ++ wordsV (z4) = wordsV ((z1 ++ [w0]) ++ (z4)) from (List.map_append ..).symm]
      have u5 := Same.upd (o := .lst (wordsV ((z1 ++ [w0]) ++ (z4)))) ha5
      have v5 : upd K4 a5 (.lst (wordsV ((z1 ++ [w0]) ++ (z4)))) a5 = some (.lst (wordsV ((z1 ++ [w0]) ++ (z4)))) := upd_same
      generalize upd K4 a5 (.lst (wordsV ((z1 ++ [w0]) ++ (z4)))) = K5 at u5 v5
      have TK5 := TK4.trans u5
      have hzz : ∀ w ∈ ((z1 ++ [w0]) ++ z4), w.length ≤ 20 := fun w hw => by
        simp only [List.mem_append, List.mem_cons, List.not_mem_nil, or_false] at hw
        exact hw.elim (fun hw => hw.elim (wz1 w) fun e => by rw [e]; exact hw0l) (wz4 w)
      have hjs := join_short (zs := ((z1 ++ [w0]) ++ z4)) (by simp only [List.length_append, List.length_cons, List.length_nil]; omega) hzz
      exact ⟨a5, [32], ((z1 ++ [w0]) ++ z4), rfl, rfl, SqL.of v5, hjs.2, q _ n5 _ hjs.1 (TK5 _ _ hb5) (B5.trans (But.of TK5))⟩
    refine ⟨_, rfl, rfl, _, rfl, ite2 (fun _ => ?_) (fun _ => ?_)⟩
    · refine ⟨rfl, ?_⟩
      refine ⟨_, rfl, _, rfl, _, rfl, pw, _, rfl, SqL.of (TH5 _ _ f5), fun a1 ha1 => ?_⟩
      obtain ⟨z1, ez1, lz1, wz1⟩ := Wds.cut (by omega : ws.length ≤ 30) hwl none (some da)
      rw [ez1]
      have u1 := Same.upd (o := .lst (wordsV z1)) ha1
      have v1 : upd H5 a1 (.lst (wordsV z1)) a1 = some (.lst (wordsV z1)) := upd_same
      generalize upd H5 a1 (.lst (wordsV z1)) = K1 at u1 v1
      have TK1 := TH5.trans u1
      refine ⟨_, rfl, (by show 1 ≤ sizeLine; decide), fun a2 ha2 => ?_⟩
      have u2 := Same.upd (o := .lst (wordsV [w0])) ha2
      have v2 : upd K1 a2 (.lst (wordsV [w0])) a2 = some (.lst (wordsV [w0])) := upd_same
      rw [show upd K1 a2 (.lst [V.str (tx w0)]) = upd K1 a2 (.lst (wordsV [w0])) from rfl]
      generalize upd K1 a2 (.lst (wordsV [w0])) = K2 at u2 v2
      have TK2 := TK1.trans u2
      refine ⟨a1, a2, _, _, rfl, rfl, u2 _ _ v1, v2, (by unfold wordsV; rw [List.length_map, List.length_map, sizeLine_eq]; (try simp only [List.length_append, List.length_cons, List.length_nil]); omega), fun a3 ha3 => ?_⟩
      rw [show wordsV (z1) ++ wordsV ([w0]) = wordsV ((z1) ++ ([w0])) from (List.map_append ..).symm]
      have u3 := Same.upd (o := .lst (wordsV ((z1) ++ ([w0])))) ha3
      have v3 : upd K2 a3 (.lst (wordsV ((z1) ++ ([w0])))) a3 = some (.lst (wordsV ((z1) ++ ([w0])))) := upd_same
      generalize upd K2 a3 (.lst (wordsV ((z1) ++ ([w0])))) = K3 at u3 v3
      have TK3 := TK2.trans u3
      refine ⟨_, rfl, _, rfl, _, _, rfl, rfl, _, rfl, pw, _, rfl, SqL.of (TK3 _ _ f5), fun a4 ha4 => ?_⟩
      obtain ⟨z4, ez4, lz4, wz4⟩ := Wds.cut (by omega : ws.length ≤ 30) hwl (some (da + 1)) none
      rw [ez4]
      have u4 := Same.upd (o := .lst (wordsV z4)) ha4
      have v4 : upd K3 a4 (.lst (wordsV z4)) a4 = some (.lst (wordsV z4)) := upd_same
      generalize upd K3 a4 (.lst (wordsV z4)) = K4 at u4 v4
      have TK4 := TK3.trans u4
      refine ⟨a3, a4, _, _, rfl, rfl, u4 _ _ v3, v4, (by unfold wordsV; rw [List.length_map, List.length_map, sizeLine_eq]; (try simp only [List.length_append, List.length_cons, List.length_nil]); omega), fun a5 ha5 => ?_⟩
      rw [show wordsV (z1 ++ [w0]) ++ wordsV (z4) = wordsV ((z1 ++ [w0]) ++ (z4)) from (List.map_append ..).symm]
      have u5 := Same.upd (o := .lst (wordsV ((z1 ++ [w0]) ++ (z4)))) ha5
      have v5 : upd K4 a5 (.lst (wordsV ((z1 ++ [w0]) ++ (z4)))) a5 = some (.lst (wordsV ((z1 ++ [w0]) ++ (z4)))) := upd_same
      generalize upd K4 a5 (.lst (wordsV ((z1 ++ [w0]) ++ (z4)))) = K5 at u5 v5
      have TK5 := TK4.trans u5
      have hzz : ∀ w ∈ ((z1 ++ [w0]) ++ z4), w.length ≤ 20 := fun w hw => by
        simp only [List.mem_append, List.mem_cons, List.not_mem_nil, or_false] at hw
        exact hw.elim (fun hw => hw.elim (wz1 w) fun e => by rw [e]; exact hw0l) (wz4 w)
      have hjs := join_short (zs := ((z1 ++ [w0]) ++ z4)) (by simp only [List.length_append, List.length_cons, List.length_nil]; omega) hzz
      exact ⟨a5, [32], ((z1 ++ [w0]) ++ z4), rfl, rfl, SqL.of v5, hjs.2, q _ n5 _ hjs.1 (TK5 _ _ hb5) (B5.trans (But.of TK5))⟩
    refine ⟨_, rfl, rfl, _, rfl, ite2 (fun _ => ?_) (fun _ => ?_)⟩
    · exact ⟨_, rfl, line, [32], rfl, rfl, (by rw [sizeLine_eq]; show _ + 1 ≤ _; omega), _, rfl, line ++ [32], w0, rfl, rfl, (by rw [List.length_append, sizeLine_eq]; show _ + 1 + _ ≤ _; omega), q _ n5 H5 (by rw [List.length_append, List.length_append]; show _ + 1 + _ ≤ _; omega) hb5 B5⟩
    refine ⟨_, rfl, rfl, _, rfl, ite2 (fun _ => ?_) (fun _ => ?_)⟩
    · exact ⟨_, rfl, line, [10], rfl, rfl, (by rw [sizeLine_eq]; show _ + 1 ≤ _; omega), q _ n5 H5 (by rw [List.length_append]; show _ + 1 ≤ _; omega) hb5 B5⟩
    obtain ⟨c, r, rfl⟩ : ∃ c r, line = c :: r := by
      cases line with
      | nil => exact absurd rfl hn0
      | cons c r => exact ⟨c, r, rfl⟩
    have hcl := cut_le (c :: r) (some 1) none
    refine ⟨_, rfl, _, rfl, c :: r, rfl, hz, rfl, c, congrArg (fun z => V.str (tx z)) (cut_to (l := c :: r) 1), rfl, hc c List.mem_cons_self, ?_⟩
    exact ⟨_, rfl, _, rfl, c :: r, rfl, hz, [upC c], _, rfl, rfl, (by rw [sizeLine_eq]; show 1 + _ ≤ _; omega), q _ n5 H5 (by rw [List.length_append]; show 1 + _ ≤ _; omega) hb5 B5⟩
end
end Mr

namespace Mr
open PySem L2
section
variable {P : Program} {w : World} {K : PySem.W.Frag} {mg : Str → Option Value} {base : Heap}
theorem scTON : FnScope ["text"] ["text"] (defScope s_text_or_none) := ⟨rfl, rfl, rfl, by decide +kernel, rfl, by decide +kernel, by decide +kernel⟩
set_option maxHeartbeats 4000000 in
theorem ok_ton (a : At K mg "text_or_none" s_text_or_none ["text"]) : Df P w K mg base 1 "text_or_none" ["text"] spTON := by
  refine a.df fun f fd F => ?_
  refine F.ok scTON (fun vs H Q E h => ?_) (fun cdv A outer s H vs Q E hr h => ?_)
  · obtain ⟨_, rfl, _⟩ := h
    rfl
  · obtain ⟨l, rfl, hl, q⟩ := h
    refine ⟨_, (pss_one (ps_ret (pe_ifExp (pt_cmpR op_ne (pv 0) pe_str (nomark _)) (pv 0) pe_str))), ?_⟩
    refine ⟨_, rfl, rfl, _, rfl, ?_⟩
    unfold tonL at q
    by_cases h0 : l = []
    · rw [if_pos h0] at q
      rw [show (!decide (V.str (tx l) = V.str ("" : Str))) = false by rw [h0]; rfl]
      refine iteF ?_
      rw [← e_none] at q
      exact q
    · rw [if_neg h0] at q
      rw [show (!decide (V.str (tx l) = V.str ("" : Str))) = true by rw [decide_eq_false (fun z => h0 (by have := V.str.inj z; rw [e_nil] at this; exact tx_inj this))]; rfl]
      exact iteT ⟨_, rfl, q⟩
end
end Mr

namespace Mr
open PySem L2
section
variable {P : Program} {w : World} {K : PySem.W.Frag} {mg : Str → Option Value} {base : Heap}
theorem scIN : FnScope ["word"] ["word"] (defScope s_is_number) := ⟨rfl, rfl, rfl, by decide +kernel, rfl, by decide +kernel, by decide +kernel⟩
set_option maxHeartbeats 4000000 in
theorem ok_isnum (a : At K mg "is_number" s_is_number ["word"]) (z_all : mg "all" = none) (z_len : mg "len" = none) {tF tMF : Tok} (hF : mg "FIGURES" = some (.str (tx figs) tF)) (hMF : mg "MOST_FIGURES" = some (.int 4 tMF)) : Df P w K mg base 1 "is_number" ["word"] spIsNum := by
  refine a.df fun f fd F => ?_
  refine F.ok scIN (fun vs H Q E h => ?_) (fun cdv A outer s H vs Q E hr h => ?_)
  · obtain ⟨_, rfl, _⟩ := h
    rfl
  · obtain ⟨l, rfl, hl, q⟩ := h
    have hz : l.length ≤ sizeLine := by rw [sizeLine_eq]; omega
    have hz' : (tx l).length ≤ sizeLine := by rw [tx_len]; exact hz
    refine ⟨_, (pss_cons (ps_if (PW.pt (pw_or (pt_not (pt_chain op_le op_le pe_int (pe_callB call_len_str (by rfl) z_len bt_len (pa_cons (pv 0) pa_nil)) (pe_glob (v := .int 4) (by rfl) hMF ⟨_, rfl⟩))) (pw_or1 (pt_not (pt_val (pe_callB (call_allB rfl) (by rfl) z_all bt_all (pa_cons (pe_comp (ys := []) (ix := []) ⟨rfl, by decide +kernel, rfl, by decide +kernel, rfl, by decide +kernel, trivial, rfl, trivial⟩ rfl (pi_str (pv 0)) (fun C fp s H => pts_nil) (fun C fp s H => (pe_cmpR op_inS (pv 0) (pe_glob (v := .str (tx figs)) (by rfl) hF ⟨_, rfl⟩) (by with_unfolding_all rfl)))) pa_nil))))))) (pss_one (ps_ret pe_bl)) pss_nil)
      (pss_one (ps_ret (pe_or (pe_cmpR op_eq (pv 0) pe_str (nomark _)) (pe_one (pe_cmpR op_ne (pe_ix ix_strS (pv 0) pe_int (fun _ _ => rfl)) pe_str (nomark _))))))), ?_⟩
    have no : isNumB l = false → ∀ H', Same H H' → Q (.bl false) H' := fun z H' s' => by have := q H' s'; rw [z] at this; exact this
    refine ⟨_, rfl, tx l, rfl, hz', _, _, rfl, rfl, _, rfl, ?_⟩
    rw [tx_len]
    by_cases h1 : 1 ≤ l.length
    case neg =>
      rw [decide_eq_false (show ¬ (1 : Int) ≤ ((l.length : Nat) : Int) by omega)]
      exact iteF ⟨_, rfl, iteT (iteT (no (by unfold isNumB; rw [decide_eq_false h1]; rfl) H (Same.refl _)))⟩
    rw [decide_eq_true (show (1 : Int) ≤ ((l.length : Nat) : Int) by omega)]
    refine iteT ⟨_, _, rfl, rfl, _, rfl, ?_⟩
    by_cases h2 : l.length ≤ 4
    case neg =>
      rw [decide_eq_false (show ¬ ((l.length : Nat) : Int) ≤ 4 by omega)]
      exact iteT (iteT (no (by unfold isNumB; rw [decide_eq_false h2, Bool.false_and, Bool.and_false]) H (Same.refl _)))
    rw [decide_eq_true (show ((l.length : Nat) : Int) ≤ 4 by omega)]
    refine iteF ⟨_, rfl, l, rfl, comp_str (l := l) hz (fun i ys H' => H' = H ∧ ys = (l.take i).map fun c => V.bl (decide (c ∈ figs))) ⟨rfl, rfl⟩ ?_ ?_⟩
    · rintro i c ys H' N hc hy ⟨rfl, rfl⟩ hN
      refine yes_ok (iteT ⟨_, rfl, c, figs, rfl, rfl, hN _ _ (by rw [List.length_append]; exact Nat.succ_le_succ hy) ⟨rfl, ?_⟩⟩)
      rw [List.take_succ, hc]
      simp
    rintro ys H' hy ⟨rfl, rfl⟩ p hp
    refine ⟨p, l.map fun c => decide (c ∈ figs), rfl, SqL.of (by rw [upd_same, List.take_of_length_le (Nat.le_refl _), List.map_map]; rfl), _, rfl, ?_⟩
    have s1 := Same.upd (o := .lst ((l.take l.length).map fun c => V.bl (decide (c ∈ figs)))) hp
    generalize upd H' p (.lst ((l.take l.length).map fun c => V.bl (decide (c ∈ figs)))) = H1 at s1
    rw [List.all_map]
    cases ha : l.all (fun c => decide (c ∈ figs)) with
    | false =>
      rw [show l.all (id ∘ fun c => decide (c ∈ figs)) = false from ha]
      exact iteT (no (by unfold isNumB; rw [ha, Bool.false_and, Bool.and_false, Bool.and_false]) H1 s1)
    | true =>
    rw [show l.all (id ∘ fun c => decide (c ∈ figs)) = true from ha]
    have hq := q H1 s1
    have eN : isNumB l = (decide (l = [48]) || decide (l[0]? ≠ some 48)) := by unfold isNumB; rw [decide_eq_true h1, decide_eq_true h2, ha, Bool.true_and, Bool.true_and, Bool.true_and]
    rw [eN] at hq
    refine iteF ⟨_, rfl, rfl, _, rfl, ?_⟩
    have e0 : ("0" : Str) = tx [48] := by decide
    by_cases hd : l = [48]
    · rw [decide_eq_true hd] at hq
      rw [show decide (V.str (tx l) = V.str ("0" : Str)) = true by rw [hd, e0]; exact decide_eq_true rfl]
      exact iteT hq
    rw [decide_eq_false hd, Bool.false_or] at hq
    rw [show decide (V.str (tx l) = V.str ("0" : Str)) = false by rw [e0]; exact decide_eq_false (fun z => hd (tx_inj (V.str.inj z)))]
    have g0 : l[0]? = some l[0] := List.getElem?_eq_getElem (by omega)
    generalize l[0] = c at g0
    refine iteF ⟨_, rfl, l, _, c, rfl, rfl, hz, atI_nat (j := 0) g0, rfl, ?_⟩
    rw [g0] at hq
    rw [e0, show (!decide (V.str (tx [c]) = V.str (tx [48]))) = decide (some c ≠ some 48) by
      by_cases hc : c = 48
      · rw [hc, decide_eq_true rfl]; rfl
      · rw [decide_eq_false (fun z => hc (by have := tx_inj (V.str.inj z); exact (List.cons.inj this).1)), decide_eq_true (show some c ≠ some 48 from fun z => hc (Option.some.inj z))]; rfl]
    exact hq
end
end Mr

namespace Mr
open PySem L2
section
variable {P : Program} {w : World} {K : PySem.W.Frag} {mg : Str → Option Value} {base : Heap}
theorem scWA : FnScope ["row", "more"] ["row", "more"] (defScope s_with_added) := ⟨rfl, rfl, rfl, by decide +kernel, rfl, by decide +kernel, by decide +kernel⟩
set_option maxHeartbeats 4000000 in
theorem ok_wa {C : Addr} (a : At K mg "with_added" s_with_added ["row", "more"]) (er : Er K mg "TooMany" C) (z_len : mg "len" = none) {tM : Tok} (hM : mg "MOST_SIGNS" = some (.int 200 tM)) : DfX P w K mg base 1 "with_added" ["row", "more"] (spWA C) := by
  refine a.dfx fun f fd F => ?_
  refine F.okx scWA (fun vs H Q E h => ?_) (fun cdv A outer s H vs Q E hr h => ?_)
  · obtain ⟨_, _, rfl, _⟩ := h
    rfl
  · obtain ⟨l, m, rfl, hl, hm, q⟩ := h
    have hz : (tx l).length ≤ sizeLine := by rw [tx_len, sizeLine_eq]; omega
    have hz2 : (tx m).length ≤ sizeLine := by rw [tx_len, sizeLine_eq]; omega
    refine ⟨_, (pss_cons (ps_if (pt_cmpR op_gt (pe_op op_add (pe_callB call_len_str (by rfl) z_len bt_len (pa_cons (pv 0) pa_nil)) (pe_callB call_len_str (by rfl) z_len bt_len (pa_cons (pv 1) pa_nil))) (pe_glob (v := .int 200) (by rfl) hM ⟨_, rfl⟩) (nomark _)) (pss_one (ps_raiseV lv_cx rfl er (by rfl) (pa_str pa_nil))) pss_nil)
      (pss_one (ps_ret (pe_op op_addS (pv 0) (pv 1))))), ?_⟩
    refine ⟨_, rfl, tx l, rfl, hz, _, rfl, tx m, rfl, hz2, _, _, rfl, rfl, _, _, rfl, rfl, _, rfl, ?_⟩
    rw [tx_len, tx_len]
    rcases q with ⟨h, q⟩ | ⟨h, q⟩
    · rw [decide_eq_false (show ¬ (200 : Int) < ((l.length : Nat) : Int) + ((m.length : Nat) : Int) by omega)]
      exact iteF ⟨_, rfl, _, rfl, l, m, rfl, rfl, by rw [sizeLine_eq]; omega, q⟩
    · rw [decide_eq_true (show (200 : Int) < ((l.length : Nat) : Int) + ((m.length : Nat) : Int) by omega)]
      exact iteT ⟨(by show 1 ≤ sizeLine; decide), q⟩
theorem scWT : FnScope ["row", "many"] ["row", "many"] (defScope s_with_taken) := ⟨rfl, rfl, rfl, by decide +kernel, rfl, by decide +kernel, by decide +kernel⟩
set_option maxHeartbeats 4000000 in
theorem ok_wt {C : Addr} (a : At K mg "with_taken" s_with_taken ["row", "many"]) (er : Er K mg "Bare" C) (z_len : mg "len" = none) : DfX P w K mg base 1 "with_taken" ["row", "many"] (spWT C) := by
  refine a.dfx fun f fd F => ?_
  refine F.okx scWT (fun vs H Q E h => ?_) (fun cdv A outer s H vs Q E hr h => ?_)
  · obtain ⟨_, _, rfl, _⟩ := h
    rfl
  · obtain ⟨l, n, rfl, hl, q⟩ := h
    have hzl : l.length ≤ sizeLine := by rw [sizeLine_eq]; omega
    have hz : (tx l).length ≤ sizeLine := by rw [tx_len]; exact hzl
    refine ⟨_, (pss_cons (ps_if (pt_cmpR op_gt (pv 1) (pe_callB call_len_str (by rfl) z_len bt_len (pa_cons (pv 0) pa_nil)) (nomark _)) (pss_one (ps_raiseV lv_cx rfl er (by rfl) (pa_str pa_nil))) pss_nil)
      (pss_one (ps_ret (pe_slice sl_strS (pv 0) po_none (po_some (pe_op op_sub (pe_callB call_len_str (by rfl) z_len bt_len (pa_cons (pv 0) pa_nil)) (pv 1))))))), ?_⟩
    refine ⟨_, rfl, _, rfl, tx l, rfl, hz, _, _, rfl, rfl, _, rfl, ?_⟩
    rw [tx_len]
    rcases q with ⟨h, q⟩ | ⟨h, q⟩
    · rw [decide_eq_false (show ¬ ((l.length : Nat) : Int) < ((n : Nat) : Int) by omega)]
      refine iteF ⟨_, rfl, _, rfl, tx l, rfl, hz, _, rfl, _, _, rfl, rfl, _, rfl, l, rfl, hzl, ?_⟩
      rw [tx_len, show ((l.length : Nat) : Int) - ((n : Nat) : Int) = ((l.length - n : Nat) : Int) by omega, cut_to]
      exact q
    · rw [decide_eq_true (show ((l.length : Nat) : Int) < ((n : Nat) : Int) by omega)]
      exact iteT ⟨(by show 1 ≤ sizeLine; decide), q⟩
end
end Mr

namespace Mr
open PySem L2
section
variable {P : Program} {w : World} {K : PySem.W.Frag} {mg : Str → Option Value} {base : Heap}
theorem scRB : FnScope ["row", "words"] ["row", "words"] (defScope s_row_behind) := ⟨rfl, rfl, rfl, by decide +kernel, rfl, by decide +kernel, by decide +kernel⟩
set_option maxHeartbeats 8000000 in
theorem ok_rb2 {B T : Addr} (a : At K mg "row_behind" s_row_behind ["row", "words"]) (d_with_taken : DfX P w K mg base 1 "with_taken" ["row", "many"] (spWT B)) (d_is_number : Df P w K mg base 1 "is_number" ["word"] spIsNum) (d_is_row : Df P w K mg base 1 "is_row" ["thing"] (spIsRow K)) (d_with_added : DfX P w K mg base 1 "with_added" ["row", "more"] (spWA T)) (z_int : mg "int" = none) (z_len : mg "len" = none) : DfX P w K mg base 2 "row_behind" ["row", "words"] (spRB2 B T) := by
  refine a.dfx fun f fd F => ?_
  refine F.okx scRB (fun vs H Q E h => ?_) (fun cdv A outer s H vs Q E hr h => ?_)
  · obtain ⟨_, _, _, rfl, _⟩ := h
    rfl
  · obtain ⟨l, p, ws, rfl, hrow, hp, h⟩ := h
    have hlen := (rowL_iff.mp hrow).1
    refine ⟨_, (pss_cons (ps_if (pt_cmpR (op_eqL hr.units0) (pv 1) (pe_lst (pa_cons pe_str pa_nil)) (nomark _)) (pss_one (ps_ret pe_str)) pss_nil)
      (pss_cons (ps_if (pt_cmpR (op_eqL hr.units0) (pv 1) (pe_lst (pa_cons pe_str pa_nil)) (nomark _)) (pss_one (ps_ret (pe_dfx d_with_taken hr rfl lv_cx.px (pa_cons (pv 0) (pa_cons pe_int pa_nil))))) pss_nil)
      (pss_cons (ps_if (PW.pt (pw_and (pt_cmpR op_eq (pe_callB call_len_seq (by rfl) z_len bt_len (pa_cons (pv 1) pa_nil)) pe_int (nomark _)) (pw_and (pt_cmpR op_eq (pe_ix ix_list (pv 1) pe_int (fun _ _ => rfl)) pe_str (nomark _)) (pw_and1 (pt_val (pe_df d_is_number hr rfl (pa_cons (pe_ix ix_list (pv 1) pe_int (fun _ _ => rfl)) pa_nil))))))) (pss_one (ps_ret (pe_dfx d_with_taken hr rfl lv_cx.px (pa_cons (pv 0) (pa_cons (pe_callTy call_intT (by rfl) z_int bt_int (pa_cons (pe_ix ix_list (pv 1) pe_int (fun _ _ => rfl)) pa_nil)) pa_nil))))) pss_nil)
      (pss_cons (ps_if (PW.pt (pw_and (pt_cmpR op_eq (pe_callB call_len_seq (by rfl) z_len bt_len (pa_cons (pv 1) pa_nil)) pe_int (nomark _)) (pw_and (pt_cmpR op_eq (pe_ix ix_list (pv 1) pe_int (fun _ _ => rfl)) pe_str (nomark _)) (pw_and (pt_val (pe_df d_is_row hr rfl (pa_cons (pe_ix ix_list (pv 1) pe_int (fun _ _ => rfl)) pa_nil))) (pw_and1 (pt_cmpR op_ne (pe_ix ix_list (pv 1) pe_int (fun _ _ => rfl)) pe_str (nomark _))))))) (pss_one (ps_ret (pe_dfx d_with_added hr rfl lv_cx.px (pa_cons (pv 0) (pa_cons (pe_ix ix_list (pv 1) pe_int (fun _ _ => rfl)) pa_nil))))) pss_nil)
      (pss_one (ps_ret pe_non)))))), ?_⟩
    refine ⟨_, rfl, (by show 1 ≤ sizeLine; decide), fun g1 hg1 => ?_⟩
    rw [e_clear]
    have s1 := Same.upd (o := .lst [V.str (tx wClear)]) hg1
    have f1 : upd H g1 (.lst [V.str (tx wClear)]) g1 = some (.lst [V.str (tx wClear)]) := upd_same
    generalize upd H g1 (.lst [V.str (tx wClear)]) = H1 at s1 f1
    have hp1 := s1 _ _ hp
    have fl : ∀ ws : List (List Nat), (wordsV ws).all flatV = true := fun ws => txV_flat ws
    refine ⟨p, g1, _, _, rfl, rfl, SqL.of hp1, SqL.of f1, fl ws, rfl, _, rfl, ?_⟩
    have hz : (tx l).length ≤ sizeLine := by rw [tx_len, sizeLine_eq]; omega
    rcases h with ⟨rfl, q⟩ | ⟨n, hn, q⟩ | ⟨w, rfl, hw, hw0, q⟩ | ⟨hN, hsw, q⟩
    · rw [show eqVs (wordsV [wClear]) [V.str (tx wClear)] = true from (eqVs_w _ _).trans (decide_eq_true rfl)]
      refine iteT ?_
      have := q H1 s1
      rw [← e_nil] at this
      exact this
    · rcases hn with ⟨rfl, rfl⟩ | ⟨hn, rfl⟩
      · rw [show eqVs (wordsV [wTake]) [V.str (tx wClear)] = false from (eqVs_w _ _).trans (decide_eq_false (by decide))]
        refine iteF ⟨_, rfl, (by show 1 ≤ sizeLine; decide), fun g2 hg2 => ?_⟩
        rw [e_take]
        have s2 := Same.upd (o := .lst [V.str (tx wTake)]) hg2
        have f2 : upd H1 g2 (.lst [V.str (tx wTake)]) g2 = some (.lst [V.str (tx wTake)]) := upd_same
        generalize upd H1 g2 (.lst [V.str (tx wTake)]) = H2 at s2 f2
        have hp2 := s2 _ _ hp1
        have t2 := s1.trans s2
        refine ⟨p, g2, _, _, rfl, rfl, SqL.of hp2, SqL.of f2, fl _, rfl, _, rfl, ?_⟩
        rw [show eqVs (wordsV [wTake]) [V.str (tx wTake)] = true from (eqVs_w _ _).trans (decide_eq_true rfl)]
        refine iteT ⟨_, rfl, l, 1, rfl, by omega, ?_⟩
        exact q.imp (fun h => ⟨h.1, h.2 H2 t2⟩) fun h => ⟨h.1, h.2 H2 t2⟩
      · rw [show eqVs (wordsV [wTake, numL n]) [V.str (tx wClear)] = false from eqVs_w2 _ _ _]
        refine iteF ⟨_, rfl, (by show 1 ≤ sizeLine; decide), fun g2 hg2 => ?_⟩
        rw [e_take]
        have s2 := Same.upd (o := .lst [V.str (tx wTake)]) hg2
        have f2 : upd H1 g2 (.lst [V.str (tx wTake)]) g2 = some (.lst [V.str (tx wTake)]) := upd_same
        generalize upd H1 g2 (.lst [V.str (tx wTake)]) = H2 at s2 f2
        have hp2 := s2 _ _ hp1
        have t2 := s1.trans s2
        refine ⟨p, g2, _, _, rfl, rfl, SqL.of hp2, SqL.of f2, fl _, rfl, _, rfl, ?_⟩
        rw [show eqVs (wordsV [wTake, numL n]) [V.str (tx wTake)] = false from eqVs_w2 _ _ _]
        have nl := numOk_len hn
        refine iteF ⟨_, rfl, p, _, rfl, .inl (SqL.of hp2), rfl, _, rfl, iteT ⟨_, rfl, p, _, _, _, rfl, rfl, SqL.of hp2, atI_nat (j := 0) rfl, rfl, _, rfl, ?_⟩⟩
        rw [show decide (V.str (tx wTake) = V.str (tx wTake)) = true from decide_eq_true rfl]
        refine iteT ⟨_, rfl, p, _, _, _, rfl, rfl, SqL.of hp2, atI_nat (j := 1) rfl, numL n, rfl, by omega, fun H3 s3 => ⟨_, rfl, ?_⟩⟩
        rw [numOk_is hn]
        have hp3 := s3 _ _ hp2
        refine iteT ⟨_, rfl, _, rfl, p, _, _, _, rfl, rfl, SqL.of hp3, atI_nat (j := 1) rfl, n, rfl, numOk_lt hn, l, n, rfl, by omega, ?_⟩
        exact q.imp (fun h => ⟨h.1, h.2 H3 (t2.trans s3)⟩) fun h => ⟨h.1, h.2 H3 (t2.trans s3)⟩
    · have hwl := (rowL_iff.mp hw).1
      rw [show eqVs (wordsV [wAdd, w]) [V.str (tx wClear)] = false from eqVs_w2 _ _ _]
      refine iteF ⟨_, rfl, (by show 1 ≤ sizeLine; decide), fun g2 hg2 => ?_⟩
      rw [e_take]
      have s2 := Same.upd (o := .lst [V.str (tx wTake)]) hg2
      have f2 : upd H1 g2 (.lst [V.str (tx wTake)]) g2 = some (.lst [V.str (tx wTake)]) := upd_same
      generalize upd H1 g2 (.lst [V.str (tx wTake)]) = H2 at s2 f2
      have hp2 := s2 _ _ hp1
      have t2 := s1.trans s2
      refine ⟨p, g2, _, _, rfl, rfl, SqL.of hp2, SqL.of f2, fl _, rfl, _, rfl, ?_⟩
      rw [show eqVs (wordsV [wAdd, w]) [V.str (tx wTake)] = false from eqVs_w2 _ _ _]
      refine iteF ⟨_, rfl, p, _, rfl, .inl (SqL.of hp2), rfl, _, rfl, iteT ⟨_, rfl, p, _, _, _, rfl, rfl, SqL.of hp2, atI_nat (j := 0) rfl, rfl, _, rfl, ?_⟩⟩
      rw [show decide (V.str (tx wAdd) = V.str (tx wTake)) = false from decide_eq_false (fun z => absurd (tx_inj (V.str.inj z)) (by decide))]
      refine iteF (iteF ?_)
      refine ⟨_, rfl, p, _, rfl, .inl (SqL.of hp2), rfl, _, rfl, iteT ⟨_, rfl, p, _, _, _, rfl, rfl, SqL.of hp2, atI_nat (j := 0) rfl, rfl, _, rfl, ?_⟩⟩
      rw [e_add, show decide (V.str (tx wAdd) = V.str (tx wAdd)) = true from decide_eq_true rfl]
      refine iteT ⟨_, rfl, p, _, _, _, rfl, rfl, SqL.of hp2, atI_nat (j := 1) rfl, .str (tx w), rfl, .inl ⟨w, rfl, by omega⟩, fun H3 s3 => ⟨_, rfl, ?_⟩⟩
      have hp3 := s3 _ _ hp2
      rw [show rowV (.str (tx w)) = true from hw]
      refine iteT ⟨_, rfl, p, _, _, _, rfl, rfl, SqL.of hp3, atI_nat (j := 1) rfl, rfl, _, rfl, ?_⟩
      rw [show (!decide (V.str (tx w) = V.str ("" : Str))) = true by rw [decide_eq_false (fun z => hw0 (by have := V.str.inj z; rw [e_nil] at this; exact tx_inj this))]; rfl]
      refine iteT ⟨_, rfl, _, rfl, p, _, _, _, rfl, rfl, SqL.of hp3, atI_nat (j := 1) rfl, l, w, rfl, by omega, by omega, ?_⟩
      exact q.imp (fun h => ⟨h.1, h.2 H3 (t2.trans s3)⟩) fun h => ⟨h.1, h.2 H3 (t2.trans s3)⟩
    · rw [eqVs_ws, decide_eq_false hN.1]
      refine iteF ⟨_, rfl, (by show 1 ≤ sizeLine; decide), fun g2 hg2 => ?_⟩
      rw [e_take]
      have s2 := Same.upd (o := .lst [V.str (tx wTake)]) hg2
      have f2 : upd H1 g2 (.lst [V.str (tx wTake)]) g2 = some (.lst [V.str (tx wTake)]) := upd_same
      generalize upd H1 g2 (.lst [V.str (tx wTake)]) = H2 at s2 f2
      have hp2 := s2 _ _ hp1
      have t2 := s1.trans s2
      refine ⟨p, g2, _, _, rfl, rfl, SqL.of hp2, SqL.of f2, fl _, rfl, _, rfl, ?_⟩
      rw [eqVs_ws, decide_eq_false hN.2.1]
      refine iteF ⟨_, rfl, p, _, rfl, .inl (SqL.of hp2), rfl, _, rfl, ?_⟩
      have hlw : (wordsV ws).length = ws.length := List.length_map ..
      by_cases h2 : ws.length = 2
      case neg =>
        have e2 : decide (V.int (((wordsV ws).length : Nat) : Int) = V.int 2) = false := decide_eq_false fun z => h2 (by have := V.int.inj z; rw [hlw] at this; omega)
        rw [e2]
        refine iteF (iteF ?_)
        refine ⟨_, rfl, p, _, rfl, .inl (SqL.of hp2), rfl, _, rfl, ?_⟩
        rw [e2]
        exact iteF (iteF (q H2 t2))
      obtain ⟨a0, w0, rfl⟩ : ∃ a0 w0, ws = [a0, w0] := by
        match ws, h2 with
        | [a0, w0], _ => exact ⟨a0, w0, rfl⟩
      have hw0 : w0.length ≤ 1000 := hsw.2 w0 (by simp)
      refine iteT ⟨_, rfl, p, _, _, _, rfl, rfl, SqL.of hp2, atI_nat (j := 0) rfl, rfl, _, rfl, ?_⟩
      by_cases ha : a0 = wTake
      · subst ha
        rw [show decide (V.str (tx wTake) = V.str (tx wTake)) = true from decide_eq_true rfl]
        refine iteT ⟨_, rfl, p, _, _, _, rfl, rfl, SqL.of hp2, atI_nat (j := 1) rfl, w0, rfl, hw0, fun H3 s3 => ⟨_, rfl, ?_⟩⟩
        rw [hN.2.2.1 w0 rfl]
        have hp3 := s3 _ _ hp2
        refine iteF ⟨_, rfl, p, _, rfl, .inl (SqL.of hp3), rfl, _, rfl, iteT ⟨_, rfl, p, _, _, _, rfl, rfl, SqL.of hp3, atI_nat (j := 0) rfl, rfl, _, rfl, ?_⟩⟩
        rw [e_add, show decide (V.str (tx wTake) = V.str (tx wAdd)) = false from decide_eq_false (fun z => absurd (tx_inj (V.str.inj z)) (by decide))]
        exact iteF (iteF (q H3 (t2.trans s3)))
      · rw [show decide (V.str (tx a0) = V.str (tx wTake)) = false from decide_eq_false (fun z => ha (tx_inj (V.str.inj z)))]
        refine iteF (iteF ?_)
        refine ⟨_, rfl, p, _, rfl, .inl (SqL.of hp2), rfl, _, rfl, iteT ⟨_, rfl, p, _, _, _, rfl, rfl, SqL.of hp2, atI_nat (j := 0) rfl, rfl, _, rfl, ?_⟩⟩
        by_cases hb : a0 = wAdd
        · subst hb
          rw [e_add, show decide (V.str (tx wAdd) = V.str (tx wAdd)) = true from decide_eq_true rfl]
          refine iteT ⟨_, rfl, p, _, _, _, rfl, rfl, SqL.of hp2, atI_nat (j := 1) rfl, .str (tx w0), rfl, .inl ⟨w0, rfl, by omega⟩, fun H3 s3 => ⟨_, rfl, ?_⟩⟩
          have hp3 := s3 _ _ hp2
          cases hrw : rowL w0 with
          | false =>
            rw [show rowV (.str (tx w0)) = false from hrw]
            exact iteF (iteF (q H3 (t2.trans s3)))
          | true =>
            rw [show rowV (.str (tx w0)) = true from hrw]
            have h0 : w0 = [] := (hN.2.2.2 w0 rfl).resolve_left (by rw [hrw]; decide)
            subst h0
            refine iteT ⟨_, rfl, p, _, _, _, rfl, rfl, SqL.of hp3, atI_nat (j := 1) rfl, rfl, _, rfl, ?_⟩
            rw [show (!decide (V.str (tx []) = V.str ("" : Str))) = false by rw [e_nil, decide_eq_true rfl]; rfl]
            exact iteF (q H3 (t2.trans s3))
        · rw [e_add, show decide (V.str (tx a0) = V.str (tx wAdd)) = false from decide_eq_false (fun z => hb (tx_inj (V.str.inj z)))]
          exact iteF (iteF (q H2 t2))
end
end Mr

namespace Mr
open PySem L2
section
variable {P : Program} {w : World} {K : PySem.W.Frag} {mg : Str → Option Value} {base : Heap}
theorem scAns : FnScope ["row", "words", "tell"] ["row", "words"] (defScope s_answer_to) := ⟨rfl, rfl, rfl, by decide +kernel, rfl, by decide +kernel, by decide +kernel⟩
set_option maxHeartbeats 4000000 in
theorem ok_ans2 {aA N : Addr} {kvs : List (Key × V)} (a : At K mg "answer_to" s_answer_to ["row", "words"]) (hA : mg "ASKED" = some (.ref aA)) (TA : TopW P w K aA kvs) (er : Er K mg "NoLine" N) (d_cuts_of : Df P w K mg base 5 "cuts_of" ["row", "count"] spCof) (d_is_number : Df P w K mg base 1 "is_number" ["word"] spIsNum) (z_int : mg "int" = none) (z_len : mg "len" = none) (z_str : mg "str" = none) : DfX P w K mg base 9 "answer_to" ["row", "words"] (spAns2 P w K mg base 8 kvs N) := by
  refine a.dfx fun f fd F => ?_
  refine F.okx scAns (fun vs H Q E h => ?_) (fun cdv A outer s H vs Q E hr h => ?_)
  · obtain ⟨_, _, _, rfl, _⟩ := h
    rfl
  · obtain ⟨l, p, ws, rfl, hrow, hp, hsw, h⟩ := h
    refine ⟨_, (pss_cons (ps_if (PW.pt (pw_and (pt_cmpR op_eq (pe_callB call_len_seq (by rfl) z_len bt_len (pa_cons (pv 1) pa_nil)) pe_int (nomark _)) (pw_and1 (pt_cmp (pc_tin TA (pe_ix ix_list (pv 1) pe_int (fun _ _ => rfl)) (pe_glob (v := .ref aA) (by rfl) hA rfl)))))) (pss_cons (ps_set (i := 2) scAns.nd rfl (Or.inl rfl) (pe_tgetW TA (pe_glob (v := .ref aA) (by rfl) hA rfl) (pe_ix ix_list (pv 1) pe_int (fun _ _ => rfl)) (fun _ _ => rfl))) (pss_one (ps_ret (pe_dfw hr lv_cx.px (pv 2) (pa_cons (pv 0) pa_nil))))) pss_nil) (pss_cons (ps_if (PW.pt (pw_and (pt_cmpR op_eq (pe_callB call_len_seq (by rfl) z_len bt_len (pa_cons (pv 1) pa_nil)) pe_int (nomark _)) (pw_and (pt_cmpR op_eq (pe_ix ix_list (pv 1) pe_int (fun _ _ => rfl)) pe_str (nomark _)) (pw_and1 (pt_val (pe_df d_is_number hr rfl (pa_cons (pe_ix ix_list (pv 1) pe_int (fun _ _ => rfl)) pa_nil))))))) (pss_one (ps_ret (pe_callTy call_strN (by rfl) z_str bt_str (pa_cons (pe_df d_cuts_of hr rfl (pa_cons (pv 0) (pa_cons (pe_callTy call_intT (by rfl) z_int bt_int (pa_cons (pe_ix ix_list (pv 1) pe_int (fun _ _ => rfl)) pa_nil)) pa_nil))) pa_nil)))) pss_nil)
      (pss_one (ps_raiseV lv_cx rfl er (by rfl) (pa_str pa_nil))))), ?_⟩
    rw [e_cuts]
    refine ⟨_, rfl, p, _, rfl, .inl (SqL.of hp), rfl, _, rfl, ?_⟩
    have hlw : (wordsV ws).length = ws.length := List.length_map ..
    rcases h with ⟨a0, f0, sp, rfl, hv, h⟩ | ⟨n, rfl, hn, hc, q⟩ | ⟨hNo, q⟩
    · refine iteT ⟨_, rfl, p, _, _, _, rfl, rfl, SqL.of hp, atI_nat (j := 0) rfl, Sum.inr (tx a0), rfl, rfl, _, rfl, ?_⟩
      rw [hv]
      refine iteT ⟨_, rfl, p, _, _, _, rfl, rfl, SqL.of hp, atI_nat (j := 0) rfl, Sum.inr (tx a0), _, rfl, rfl, hv, ?_⟩
      exact ⟨_, rfl, f0, sp, rfl, h.imp (fun h => ⟨h.1, _, rfl, h.2⟩) fun ⟨h1, c, h2, h3⟩ => ⟨h1, _, rfl, h2 _ h3⟩⟩
    · refine iteF (iteF ?_)
      refine ⟨_, rfl, p, _, rfl, .inl (SqL.of hp), rfl, _, rfl, iteT ⟨_, rfl, p, _, _, _, rfl, rfl, SqL.of hp, atI_nat (j := 0) rfl, rfl, _, rfl, ?_⟩⟩
      rw [show decide (V.str (tx wCuts) = V.str (tx wCuts)) = true from decide_eq_true rfl]
      have nl := numOk_len hn
      refine iteT ⟨_, rfl, p, _, _, _, rfl, rfl, SqL.of hp, atI_nat (j := 1) rfl, numL n, rfl, by omega, fun H1 s1 => ⟨_, rfl, ?_⟩⟩
      rw [numOk_is hn]
      have hp1 := s1 _ _ hp
      exact iteT ⟨_, rfl, _, rfl, p, _, _, _, rfl, rfl, SqL.of hp1, atI_nat (j := 1) rfl, n, rfl, numOk_lt hn, l, n, rfl, hrow, fun H2 s2 => ⟨_, rfl, hc, q H2 (s1.trans s2)⟩⟩
    · have fin : ∀ H', Same H H' → 1 ≤ sizeLine ∧ E (.ref N) none H' := fun H' s' => ⟨by decide, q H' s'⟩
      by_cases h1 : ws.length = 1
      · obtain ⟨a0, rfl⟩ : ∃ a0, ws = [a0] := by
          match ws, h1 with
          | [a0], _ => exact ⟨a0, rfl⟩
        refine iteT ⟨_, rfl, p, _, _, _, rfl, rfl, SqL.of hp, atI_nat (j := 0) rfl, Sum.inr (tx a0), rfl, rfl, _, rfl, ?_⟩
        rw [hNo.1 a0 rfl]
        refine iteF ⟨_, rfl, p, _, rfl, .inl (SqL.of hp), rfl, _, rfl, iteF (iteF ?_)⟩
        exact fin H (Same.refl _)
      · have e1 : decide (V.int (((wordsV ws).length : Nat) : Int) = V.int 1) = false := decide_eq_false fun z => h1 (by have := V.int.inj z; rw [hlw] at this; omega)
        rw [e1]
        refine iteF (iteF ?_)
        refine ⟨_, rfl, p, _, rfl, .inl (SqL.of hp), rfl, _, rfl, ?_⟩
        by_cases h2 : ws.length = 2
        · obtain ⟨a0, w0, rfl⟩ : ∃ a0 w0, ws = [a0, w0] := by
            match ws, h2 with
            | [a0, w0], _ => exact ⟨a0, w0, rfl⟩
          refine iteT ⟨_, rfl, p, _, _, _, rfl, rfl, SqL.of hp, atI_nat (j := 0) rfl, rfl, _, rfl, ?_⟩
          by_cases ha : a0 = wCuts
          · subst ha
            rw [show decide (V.str (tx wCuts) = V.str (tx wCuts)) = true from decide_eq_true rfl]
            refine iteT ⟨_, rfl, p, _, _, _, rfl, rfl, SqL.of hp, atI_nat (j := 1) rfl, w0, rfl, hsw.2 w0 (by simp), fun H1 s1 => ⟨_, rfl, ?_⟩⟩
            rw [hNo.2 w0 rfl]
            exact iteF (fin H1 s1)
          · rw [show decide (V.str (tx a0) = V.str (tx wCuts)) = false from decide_eq_false (fun z => ha (tx_inj (V.str.inj z)))]
            exact iteF (iteF (fin H (Same.refl _)))
        · have e2 : decide (V.int (((wordsV ws).length : Nat) : Int) = V.int 2) = false := decide_eq_false fun z => h2 (by have := V.int.inj z; rw [hlw] at this; omega)
          rw [e2]
          exact iteF (iteF (fin H (Same.refl _)))
end
end Mr

namespace Mr
open PySem L2
section
variable {P : Program} {w : World} {K : PySem.W.Frag} {mg : Str → Option Value} {base : Heap}
theorem scDI : FnScope ["self"] ["self"] (defScope s_Desk_init) := ⟨rfl, rfl, rfl, by decide +kernel, rfl, by decide +kernel, by decide +kernel⟩
set_option maxHeartbeats 4000000 in
theorem ok_dinit {C : Addr} (a : AtM K C "__init__" "Desk.__init__" s_Desk_init ["self"]) (T : ClD K mg C) (mk : PySem.W.makesIn K C = true) (kc : PySem.W.keepIn K (.ref C) = true) : MkC P w K mg base 1 C (spDInit C) := by
  refine a.mkc mk kc fun f fd F => ?_
  refine F.ok scDI (fun vs H Q E h => ?_) (fun cdv A outer s H vs Q E hr h => ?_)
  · obtain ⟨_, _, rfl, _⟩ := h
    rfl
  · obtain ⟨x, dx, rfl, hx, q⟩ := h
    refine ⟨_, (pss_one (ps_fld (pv 0) pe_str rfl)), ?_⟩
    rw [e_nil]
    exact ⟨_, rfl, x, C, dx, [], rfl, hx, T.cl, T.n1, (by decide), q⟩
end
end Mr

namespace Mr
open PySem L2
section
variable {P : Program} {w : World} {K : PySem.W.Frag} {mg : Str → Option Value} {base : Heap}
theorem scDS : FnScope ["self", "line", "words", "changed"] ["self", "line"] (defScope s_Desk_say) := ⟨rfl, rfl, rfl, by decide +kernel, rfl, by decide +kernel, by decide +kernel⟩
set_option maxHeartbeats 8000000 in
theorem ok_say2 {C B T0 N : Addr} {kvs : List (Key × V)} (a : AtM K C "say" "Desk.say" s_Desk_say ["self", "line"]) (T : ClD K mg C) (er : Er K mg "NoLine" N) (d_row_behind : DfX P w K mg base 2 "row_behind" ["row", "words"] (spRB2 B T0)) (d_answer_to : DfX P w K mg base 9 "answer_to" ["row", "words"] (spAns2 P w K mg base 8 kvs N)) (z_isinstance : mg "isinstance" = none) (z_len : mg "len" = none) (z_str : mg "str" = none) : MtX P w K mg base 10 C "say" ["self", "line"] (spSay2 P w K mg base 8 kvs C B T0 N) := by
  refine a.mtx fun f fd F => ?_
  refine F.okx scDS (fun vs H Q E h => ?_) (fun cdv A outer s H vs Q E hr h => ?_)
  · obtain ⟨_, _, _, _, rfl, _⟩ := h
    rfl
  · obtain ⟨dk, dx, l, x, rfl, hdk, hrow, h⟩ := h
    refine ⟨_, (pss_cons (ps_if (pt_not (pt_val (pe_callB call_isT (by rfl) z_isinstance bt_isinstance (pa_cons (pv 1) (pa_cons (pe_bltn (v := .ty "str") (by rfl) z_str bt_str rfl) pa_nil))))) (pss_one (ps_raiseV lv_cx rfl er (by rfl) (pa_str pa_nil))) pss_nil)
      (pss_cons (ps_set (i := 2) scDS.nd rfl (Or.inl rfl) (pe_bm PySem.F.plainAttrs_str PySem.F.slot_str_split PySem.F.type_str_split mt_split (pv 1) (pa_cons pe_str pa_nil)))
      (pss_cons (ps_set (i := 3) scDS.nd rfl (Or.inl rfl) (pe_dfx d_row_behind hr rfl lv_cx.px (pa_cons (pe_fld (pv 0) rfl) (pa_cons (pv 2) pa_nil))))
      (pss_cons (ps_if (pt_cmpR op_isN (pv 3) pe_non (nomark _)) (pss_one (ps_ret (pe_dfx d_answer_to hr rfl lv_cx.px (pa_cons (pe_fld (pv 0) rfl) (pa_cons (pv 2) pa_nil))))) pss_nil)
      (pss_cons (ps_fld (pv 0) (pv 3) rfl)
      (pss_one (ps_ret (pe_callTy call_strN (by rfl) z_str bt_str (pa_cons (pe_callB call_len_str (by rfl) z_len bt_len (pa_cons (pv 3) pa_nil)) pa_nil))))))))), ?_⟩
    rcases h with ⟨line, rfl, hll, h⟩ | ⟨t0, ht, hk, h⟩
    case inr => exact ⟨_, rfl, _, "str", _, false, rfl, ht, hk, _, rfl, iteT ⟨(by show 1 ≤ sizeLine; decide), h⟩⟩
    refine ⟨_, rfl, _, "str", _, true, rfl, .str _, by rfl, _, rfl, iteF ?_⟩
    refine ⟨_, rfl, rfl, line, 32, rfl, congrArg (fun z => [V.str z]) (by decide : (" " : Str) = tx [32]), by decide, by omega, fun pw hpw => ?_⟩
    have s1 := Same.upd (o := .lst (wordsV (splitL 32 line))) hpw
    have f1 : upd H pw (.lst (wordsV (splitL 32 line))) pw = some (.lst (wordsV (splitL 32 line))) := upd_same
    rw [show upd H pw (.lst ((splitL 32 line).map fun w => V.str (tx w))) = upd H pw (.lst (wordsV (splitL 32 line))) from rfl]
    generalize upd H pw (.lst (wordsV (splitL 32 line))) = H1 at s1 f1
    have hdk1 := s1 _ _ hdk
    refine ⟨_, rfl, dk, C, dx, _, _, rfl, hdk1, T.cl, T.n1, rfl, _, rfl, l, pw, splitL 32 line, rfl, hrow, f1, h.mono s1 (fun v H2 s2 hq => ?_) fun c H2 _ _ z => z⟩
    have t2 := s1.trans s2
    have hdk2 := s2 _ _ hdk1
    rcases hq with ⟨l', rfl, hl', q⟩ | ⟨rfl, hsw, q⟩
    · refine ⟨_, rfl, rfl, _, rfl, iteF ?_⟩
      refine ⟨_, rfl, _, rfl, dk, C, dx, _, rfl, hdk2, T.cl, T.n1, (by show 1 < 1000; decide), ?_⟩
      refine ⟨_, rfl, tx l', rfl, (by rw [tx_len, sizeLine_eq]; omega), l'.length, (by rw [tx_len]), by omega, q _ upd_same fun c o e hc => ?_⟩
      rw [upd_ne hc]
      exact t2 _ _ e
    · refine ⟨_, rfl, rfl, _, rfl, iteT ?_⟩
      exact ⟨_, rfl, dk, C, dx, _, _, rfl, hdk2, T.cl, T.n1, rfl, _, rfl, l, pw, splitL 32 line, rfl, hrow, s2 _ _ f1, hsw, q⟩
end
end Mr

namespace Mr
open PySem L2
section
variable {P : Program} {w : World} {K : PySem.W.Frag} {mg : Str → Option Value} {base : Heap}
theorem scCl : FnScope ["_law_e", "_law_found"] ["_law_e"] (defScope s_law_classes) := ⟨rfl, rfl, rfl, by decide +kernel, rfl, by decide +kernel, by decide +kernel⟩
set_option maxHeartbeats 4000000 in
theorem ok_classes {R c0 c1 c2 c3 c4 c5 c6 c7 c8 c9 c10 c11 : Addr} (a : At K mg "_law_classes" s_law_classes ["_law_e"]) (er : Errs12 K mg R c0 c1 c2 c3 c4 c5 c6 c7 c8 c9 c10 c11) (zi : mg "isinstance" = none) : DfN P w K mg base 1 "_law_classes" ["_law_e"] (spClasses K R [c0, c1, c2, c3, c4, c5, c6, c7, c8, c9, c10, c11]) := by
  refine a.dfn fun f fd F => ?_
  refine F.okn scCl (fun vs H Q E h => ?_) (fun cdv A outer s H vs Q E hr h => ?_)
  · obtain ⟨_, _, _, rfl, _⟩ := h
    rfl
  · obtain ⟨a, c, i, rfl, ha, rs, q⟩ := h
    refine ⟨_, (pss_cons (ps_set (i := 1) scCl.nd rfl (Or.inl rfl) (pe_lst (pa_cons (pe_callB call_isE (by rfl) zi bt_isinstance (pa_name (pv 0) (pa_name (pe_cls (by rfl) er.m0) pa_nil))) (pa_cons (pe_callB call_isE (by rfl) zi bt_isinstance (pa_name (pv 0) (pa_name (pe_cls (by rfl) er.m1) pa_nil))) (pa_cons (pe_callB call_isE (by rfl) zi bt_isinstance (pa_name (pv 0) (pa_name (pe_cls (by rfl) er.m2) pa_nil))) (pa_cons (pe_callB call_isE (by rfl) zi bt_isinstance (pa_name (pv 0) (pa_name (pe_cls (by rfl) er.m3) pa_nil))) pa_nil))))))
      (pss_cons (ps_set (i := 1) scCl.nd rfl (Or.inl rfl) (pe_op op_cat (pv 1) (pe_lst (pa_cons (pe_callB call_isE (by rfl) zi bt_isinstance (pa_name (pv 0) (pa_name (pe_cls (by rfl) er.m4) pa_nil))) (pa_cons (pe_callB call_isE (by rfl) zi bt_isinstance (pa_name (pv 0) (pa_name (pe_cls (by rfl) er.m5) pa_nil))) (pa_cons (pe_callB call_isE (by rfl) zi bt_isinstance (pa_name (pv 0) (pa_name (pe_cls (by rfl) er.m6) pa_nil))) (pa_cons (pe_callB call_isE (by rfl) zi bt_isinstance (pa_name (pv 0) (pa_name (pe_cls (by rfl) er.m7) pa_nil))) pa_nil)))))))
      (pss_cons (ps_set (i := 1) scCl.nd rfl (Or.inl rfl) (pe_op op_cat (pv 1) (pe_lst (pa_cons (pe_callB call_isE (by rfl) zi bt_isinstance (pa_name (pv 0) (pa_name (pe_cls (by rfl) er.m8) pa_nil))) (pa_cons (pe_callB call_isE (by rfl) zi bt_isinstance (pa_name (pv 0) (pa_name (pe_cls (by rfl) er.m9) pa_nil))) (pa_cons (pe_callB call_isE (by rfl) zi bt_isinstance (pa_name (pv 0) (pa_name (pe_cls (by rfl) er.m10) pa_nil))) pa_nil))))))
      (pss_one (ps_ret (pe_op op_cat (pv 1) (pe_lst (pa_cons (pe_callB call_isE (by rfl) zi bt_isinstance (pa_name (pv 0) (pa_name (pe_cls (by rfl) er.m11) pa_nil))) pa_nil)))))))), ?_⟩
    refine ⟨_, rfl, a, c, _, decide (i = 0), rfl, ha, rs.ex, (fun u r => by cases r; exact rs.kk 0 _ rfl), _, rfl, a, c, _, decide (i = 1), rfl, ha, rs.ex, (fun u r => by cases r; exact rs.kk 1 _ rfl), _, rfl, a, c, _, decide (i = 2), rfl, ha, rs.ex, (fun u r => by cases r; exact rs.kk 2 _ rfl), _, rfl, a, c, _, decide (i = 3), rfl, ha, rs.ex, (fun u r => by cases r; exact rs.kk 3 _ rfl), (by show 4 ≤ sizeLine; decide), fun p1 hp1 => ?_⟩
    have s1 := Same.upd (o := .lst [V.bl (decide (i = 0)), V.bl (decide (i = 1)), V.bl (decide (i = 2)), V.bl (decide (i = 3))]) hp1
    have f1 : upd H p1 (.lst [V.bl (decide (i = 0)), V.bl (decide (i = 1)), V.bl (decide (i = 2)), V.bl (decide (i = 3))]) p1 = some (.lst [V.bl (decide (i = 0)), V.bl (decide (i = 1)), V.bl (decide (i = 2)), V.bl (decide (i = 3))]) := upd_same
    generalize upd H p1 (.lst [V.bl (decide (i = 0)), V.bl (decide (i = 1)), V.bl (decide (i = 2)), V.bl (decide (i = 3))]) = H1 at s1 f1
    have h1 := s1 _ _ ha
    refine ⟨_, rfl, _, rfl, a, c, _, decide (i = 4), rfl, h1, rs.ex, (fun u r => by cases r; exact rs.kk 4 _ rfl), _, rfl, a, c, _, decide (i = 5), rfl, h1, rs.ex, (fun u r => by cases r; exact rs.kk 5 _ rfl), _, rfl, a, c, _, decide (i = 6), rfl, h1, rs.ex, (fun u r => by cases r; exact rs.kk 6 _ rfl), _, rfl, a, c, _, decide (i = 7), rfl, h1, rs.ex, (fun u r => by cases r; exact rs.kk 7 _ rfl), (by show 4 ≤ sizeLine; decide), fun p2 hp2 => ?_⟩
    have s2 := Same.upd (o := .lst [V.bl (decide (i = 4)), V.bl (decide (i = 5)), V.bl (decide (i = 6)), V.bl (decide (i = 7))]) hp2
    have f2 : upd H1 p2 (.lst [V.bl (decide (i = 4)), V.bl (decide (i = 5)), V.bl (decide (i = 6)), V.bl (decide (i = 7))]) p2 = some (.lst [V.bl (decide (i = 4)), V.bl (decide (i = 5)), V.bl (decide (i = 6)), V.bl (decide (i = 7))]) := upd_same
    generalize upd H1 p2 (.lst [V.bl (decide (i = 4)), V.bl (decide (i = 5)), V.bl (decide (i = 6)), V.bl (decide (i = 7))]) = H2 at s2 f2
    refine ⟨p1, p2, _, _, rfl, rfl, s2 _ _ f1, f2, (by show 4 + 4 ≤ sizeLine; decide), fun p3 hp3 => ?_⟩
    have s3 := Same.upd (o := .lst ([V.bl (decide (i = 0)), V.bl (decide (i = 1)), V.bl (decide (i = 2)), V.bl (decide (i = 3))] ++ [V.bl (decide (i = 4)), V.bl (decide (i = 5)), V.bl (decide (i = 6)), V.bl (decide (i = 7))])) hp3
    have f3 : upd H2 p3 (.lst ([V.bl (decide (i = 0)), V.bl (decide (i = 1)), V.bl (decide (i = 2)), V.bl (decide (i = 3))] ++ [V.bl (decide (i = 4)), V.bl (decide (i = 5)), V.bl (decide (i = 6)), V.bl (decide (i = 7))])) p3 = some (.lst ([V.bl (decide (i = 0)), V.bl (decide (i = 1)), V.bl (decide (i = 2)), V.bl (decide (i = 3))] ++ [V.bl (decide (i = 4)), V.bl (decide (i = 5)), V.bl (decide (i = 6)), V.bl (decide (i = 7))])) := upd_same
    generalize upd H2 p3 (.lst ([V.bl (decide (i = 0)), V.bl (decide (i = 1)), V.bl (decide (i = 2)), V.bl (decide (i = 3))] ++ [V.bl (decide (i = 4)), V.bl (decide (i = 5)), V.bl (decide (i = 6)), V.bl (decide (i = 7))])) = H3 at s3 f3
    have h3 := s3 _ _ (s2 _ _ h1)
    refine ⟨_, rfl, _, rfl, a, c, _, decide (i = 8), rfl, h3, rs.ex, (fun u r => by cases r; exact rs.kk 8 _ rfl), _, rfl, a, c, _, decide (i = 9), rfl, h3, rs.ex, (fun u r => by cases r; exact rs.kk 9 _ rfl), _, rfl, a, c, _, decide (i = 10), rfl, h3, rs.ex, (fun u r => by cases r; exact rs.kk 10 _ rfl), (by show 3 ≤ sizeLine; decide), fun p4 hp4 => ?_⟩
    have s4 := Same.upd (o := .lst [V.bl (decide (i = 8)), V.bl (decide (i = 9)), V.bl (decide (i = 10))]) hp4
    have f4 : upd H3 p4 (.lst [V.bl (decide (i = 8)), V.bl (decide (i = 9)), V.bl (decide (i = 10))]) p4 = some (.lst [V.bl (decide (i = 8)), V.bl (decide (i = 9)), V.bl (decide (i = 10))]) := upd_same
    generalize upd H3 p4 (.lst [V.bl (decide (i = 8)), V.bl (decide (i = 9)), V.bl (decide (i = 10))]) = H4 at s4 f4
    refine ⟨p3, p4, _, _, rfl, rfl, s4 _ _ f3, f4, (by show 8 + 3 ≤ sizeLine; decide), fun p5 hp5 => ?_⟩
    have s5 := Same.upd (o := .lst (([V.bl (decide (i = 0)), V.bl (decide (i = 1)), V.bl (decide (i = 2)), V.bl (decide (i = 3))] ++ [V.bl (decide (i = 4)), V.bl (decide (i = 5)), V.bl (decide (i = 6)), V.bl (decide (i = 7))]) ++ [V.bl (decide (i = 8)), V.bl (decide (i = 9)), V.bl (decide (i = 10))])) hp5
    have f5 : upd H4 p5 (.lst (([V.bl (decide (i = 0)), V.bl (decide (i = 1)), V.bl (decide (i = 2)), V.bl (decide (i = 3))] ++ [V.bl (decide (i = 4)), V.bl (decide (i = 5)), V.bl (decide (i = 6)), V.bl (decide (i = 7))]) ++ [V.bl (decide (i = 8)), V.bl (decide (i = 9)), V.bl (decide (i = 10))])) p5 = some (.lst (([V.bl (decide (i = 0)), V.bl (decide (i = 1)), V.bl (decide (i = 2)), V.bl (decide (i = 3))] ++ [V.bl (decide (i = 4)), V.bl (decide (i = 5)), V.bl (decide (i = 6)), V.bl (decide (i = 7))]) ++ [V.bl (decide (i = 8)), V.bl (decide (i = 9)), V.bl (decide (i = 10))])) := upd_same
    generalize upd H4 p5 (.lst (([V.bl (decide (i = 0)), V.bl (decide (i = 1)), V.bl (decide (i = 2)), V.bl (decide (i = 3))] ++ [V.bl (decide (i = 4)), V.bl (decide (i = 5)), V.bl (decide (i = 6)), V.bl (decide (i = 7))]) ++ [V.bl (decide (i = 8)), V.bl (decide (i = 9)), V.bl (decide (i = 10))])) = H5 at s5 f5
    have h5 := s5 _ _ (s4 _ _ h3)
    refine ⟨_, rfl, _, rfl, a, c, _, decide (i = 11), rfl, h5, rs.ex, (fun u r => by cases r; exact rs.kk 11 _ rfl), (by show 1 ≤ sizeLine; decide), fun p6 hp6 => ?_⟩
    have s6 := Same.upd (o := .lst [V.bl (decide (i = 11))]) hp6
    have f6 : upd H5 p6 (.lst [V.bl (decide (i = 11))]) p6 = some (.lst [V.bl (decide (i = 11))]) := upd_same
    generalize upd H5 p6 (.lst [V.bl (decide (i = 11))]) = H6 at s6 f6
    refine ⟨p5, p6, _, _, rfl, rfl, s6 _ _ f5, f6, (by show 11 + 1 ≤ sizeLine; decide), fun p7 hp7 => ?_⟩
    have all := s1.trans (s2.trans (s3.trans (s4.trans (s5.trans s6))))
    exact q p7 _ (all.free hp7) upd_same (all.trans (Same.upd hp7))
end
end Mr

namespace Mr
open PySem L2
section
variable {P : Program} {w : World} {K : PySem.W.Frag} {mg : Str → Option Value} {base : Heap}
theorem scOn : FnScope ["_law_e", "_law_place"] ["_law_e", "_law_place"] (defScope s_law_only) := ⟨rfl, rfl, rfl, by decide +kernel, rfl, by decide +kernel, by decide +kernel⟩
set_option maxHeartbeats 4000000 in
theorem ok_only {R c0 c1 c2 c3 c4 c5 c6 c7 c8 c9 c10 c11 : Addr} (a : At K mg "_law_only" s_law_only ["_law_e", "_law_place"]) (er : Errs12 K mg R c0 c1 c2 c3 c4 c5 c6 c7 c8 c9 c10 c11) (dC : DfN P w K mg base 1 "_law_classes" ["_law_e"] (spClasses K R [c0, c1, c2, c3, c4, c5, c6, c7, c8, c9, c10, c11])) (zi : mg "isinstance" = none) (zv : mg "ValueError" = none) (z_range : mg "range" = none) : DfH P w K mg base 2 "_law_only" ["_law_e", "_law_place"] (spOnly K R [c0, c1, c2, c3, c4, c5, c6, c7, c8, c9, c10, c11]) := by
  refine a.dfh fun f fd F => ?_
  refine F.okh scOn (fun vs H Q E h => ?_) (fun cdv A outer s H vs Q E hr hd h => ?_)
  · obtain ⟨_, _, _, _, rfl, _⟩ := h
    rfl
  · obtain ⟨a, c, i, j, rfl, ha, rs, hj, q⟩ := h
    refine ⟨_, (pss_cons (ps_if (PW.pt (pw_or (pt_not (pt_val (pe_callB call_isE (by rfl) zi bt_isinstance (pa_name (pv 0) (pa_name (pe_cls (by rfl) er.mR) pa_nil))))) (pw_or1 (pt_not (pt_val (pe_callB call_isE (by rfl) zi bt_isinstance (pa_name (pv 0) (pa_name (pe_bltn (v := .ty "ValueError") (by rfl) zv bt_ValueError rfl) pa_nil)))))))) (pss_one (ps_ret pe_bl)) pss_nil)
      (pss_one (ps_ret (pe_cmpR (op_eqL hr.units0) (pe_dfn dC hr (by rfl) (pa_cons (pv 0) pa_nil)) (pe_compH (ys := ["_law_place"]) (ix := [1]) ⟨rfl, by decide +kernel, rfl, by decide +kernel, rfl, by decide +kernel, ⟨rfl, trivial⟩, rfl, ⟨⟨rfl, rfl, rfl, rfl⟩, trivial⟩⟩ (pi_rangeH rfl rfl z_range (pa_cons pe_int pa_nil)) (fun C fp s H => pts_nil) (fun C fp s H => (pe_cmpR op_eq (pv 0) (pv 1) (nomark _)))) (nomark _))))), ?_⟩
    refine ⟨_, rfl, a, c, _, true, rfl, ha, rs.ex, (fun u r => by cases r; exact rs.kr), _, rfl, iteF ⟨_, rfl, a, c, _, true, rfl, ha, rs.ex, (fun u r => by cases r; exact rs.kv), _, rfl, iteF ?_⟩⟩
    refine ⟨_, rfl, a, c, i, rfl, ha, rs, fun p1 H1 hf1 hp1 s1 => ?_⟩
    refine ⟨12, rfl, by decide, by decide, ?_⟩
    refine comp_rangeH (n := 12) (by decide) (fun m ys H' => ys = (List.range m).map (fun k => V.bl (decide (k = j))) ∧ Same H1 H') ⟨rfl, Same.refl _⟩ (fun ys H' ⟨_, s'⟩ => hd.to fun a o z => s' _ _ (s1 _ _ z)) ?_ ?_
    · rintro m ys H2 N hm hy ⟨rfl, s2⟩ hN
      refine yes_ok (iteT ⟨_, rfl, _, rfl, rfl, hN _ _ (by simp) ⟨?_, s2⟩⟩)
      rw [List.range_succ, List.map_append]
      refine congrArg (fun z => _ ++ [V.bl z]) ?_
      by_cases h : m = j
      · subst h; rw [decide_eq_true (show V.int (0 + (m : Int)) = V.int (m : Int) by rw [Int.zero_add]), decide_eq_true rfl]
      · rw [decide_eq_false (show ¬ V.int (0 + (m : Int)) = V.int (j : Int) from fun z => by injection z with z; omega), decide_eq_false h]
    · rintro ys H2 hy ⟨rfl, s2⟩ p hp
      obtain ⟨k1, _⟩ := cls12_flat i rs.lt
      obtain ⟨_, k2⟩ := cls12_flat j hj
      refine ⟨p1, p, _, _, rfl, rfl, SqL.of ((Same.upd hp) _ _ (s2 _ _ hp1)), SqL.of upd_same, k1, k2, ?_⟩
      rw [cls12_eq i rs.lt j hj]
      exact q _ (s1.trans (s2.trans (Same.upd hp)))
end
end Mr

namespace Mr
open PySem L2
section
variable {P : Program} {w : World} {K : PySem.W.Frag} {mg : Str → Option Value} {base : Heap}
theorem scSd : FnScope ["_law_desk", "_law_line", "_law_e"] ["_law_desk", "_law_line"] (defScope s_law_said) := ⟨rfl, rfl, rfl, by decide +kernel, rfl, by decide +kernel, by decide +kernel⟩
set_option maxHeartbeats 8000000 in
theorem ok_said2 {R c0 c1 c2 c3 c4 c5 c6 c7 c8 c9 c10 c11 C : Addr} {kvs : List (Key × V)} (a : At K mg "_law_said" s_law_said ["_law_desk", "_law_line"]) (T : ClD K mg C) (er : Errs12 K mg R c0 c1 c2 c3 c4 c5 c6 c7 c8 c9 c10 c11) (dO : DfH P w K mg base 2 "_law_only" ["_law_e", "_law_place"] (spOnly K R [c0, c1, c2, c3, c4, c5, c6, c7, c8, c9, c10, c11]))
    (rs3 : Rsd K R [c0, c1, c2, c3, c4, c5, c6, c7, c8, c9, c10, c11] 3 c3) (xm3 : PySem.W.exmOne K (.ref c3) (.ref R) = some true) (rs5 : Rsd K R [c0, c1, c2, c3, c4, c5, c6, c7, c8, c9, c10, c11] 5 c5) (xm5 : PySem.W.exmOne K (.ref c5) (.ref R) = some true) (rs2 : Rsd K R [c0, c1, c2, c3, c4, c5, c6, c7, c8, c9, c10, c11] 2 c2) (xm2 : PySem.W.exmOne K (.ref c2) (.ref R) = some true) (rs6 : Rsd K R [c0, c1, c2, c3, c4, c5, c6, c7, c8, c9, c10, c11] 6 c6) (xm6 : PySem.W.exmOne K (.ref c6) (.ref R) = some true)
    (m_say : MtX P w K mg base 10 C "say" ["self", "line"] (spSay2 P w K mg base 8 kvs C c6 c3 c5)) (z_range : mg "range" = none) : Df P w K mg base 11 "_law_said" ["_law_desk", "_law_line"] (spSaid2 P w K mg base 8 kvs C c6 c3 c5 c2) := by
  refine a.df fun f fd F => ?_
  refine F.ok scSd (fun vs H Q E h => ?_) (fun cdv A outer s H vs Q E hr h => ?_)
  · obtain ⟨_, _, _, _, rfl, _⟩ := h
    rfl
  · obtain ⟨dk, dx, l, x, rfl, hdk, hrow, h⟩ := h
    refine ⟨_, (pss_one (ps_tryE (i := 2) rfl rfl scSd.nd rfl rfl rfl rfl er.mR (fun pins Ex => (pss_one (ps_ret (pe_mtx m_say T.cl hr px_try (pv 0) (pa_cons (pv 1) pa_nil))))) (fun e => pss_one (ps_ret (pe_compH (ys := ["_law_e"]) (ix := [2]) ⟨rfl, by decide +kernel, rfl, by decide +kernel, rfl, by decide +kernel, ⟨rfl, trivial⟩, rfl, ⟨⟨rfl, rfl, rfl, rfl⟩, trivial⟩⟩ (pi_rangeH rfl rfl z_range (pa_cons pe_int pa_nil)) (fun C fp s H => pts_one (pt_val (pe_dfh (A := Around.mark _ (some e)) rfl dO hr.n.mark rfl (pa_cons (pv 1) (pa_cons (pv 0) pa_nil))))) (fun C fp s H => pv 0)))))), ?_⟩
    refine ⟨fun σ cls d H' => σ = [some (.ref dk), some x, none] ∧ (∃ (i : Nat) (c : Addr), cls = .ref c ∧ Rsd K R [c0, c1, c2, c3, c4, c5, c6, c7, c8, c9, c10, c11] i c ∧ PySem.W.exmOne K (.ref c) (.ref R) = some true ∧ ∀ p H'', H p = none → H'' p = some (.lst [.int (i : Int)]) → Same H H'' → Q (.ref p) H'') ∧ Same H H', ?_, ?_⟩
    · have he : ∀ c H', Same H H' → SdE c6 c3 c5 c2 H Q c none H' → (∃ (i : Nat) (c' : Addr), c = .ref c' ∧ Rsd K R [c0, c1, c2, c3, c4, c5, c6, c7, c8, c9, c10, c11] i c' ∧ PySem.W.exmOne K (.ref c') (.ref R) = some true ∧ ∀ p H'', H p = none → H'' p = some (.lst [.int (i : Int)]) → Same H H'' → Q (.ref p) H'') := fun c H' s' ⟨i, hi, q⟩ => by
        rcases hi with ⟨rfl, rfl⟩ | ⟨rfl, rfl⟩ | ⟨rfl, rfl⟩ | ⟨rfl, rfl⟩
        · exact ⟨6, c6, rfl, rs6, xm6, q⟩
        · exact ⟨3, c3, rfl, rs3, xm3, q⟩
        · exact ⟨5, c5, rfl, rs5, xm5, q⟩
        · exact ⟨2, c2, rfl, rs2, xm2, q⟩
      have he2 : ∀ c H', Same H H' → SdE c6 c3 c5 c2 H Q c none H' → ([some (V.ref dk), some x, none] : St) = [some (V.ref dk), some x, none] ∧ (∃ (i : Nat) (c' : Addr), c = .ref c' ∧ Rsd K R [c0, c1, c2, c3, c4, c5, c6, c7, c8, c9, c10, c11] i c' ∧ PySem.W.exmOne K (.ref c') (.ref R) = some true ∧ ∀ p H'', H p = none → H'' p = some (.lst [.int (i : Int)]) → Same H H'' → Q (.ref p) H'') ∧ Same H H' := fun c H' s' z => ⟨rfl, he c H' s' z, s'⟩
      refine ⟨_, rfl, dk, dx, _, rfl, hdk, dk_no, _, rfl, dk, dx, l, x, rfl, hdk, hrow, ?_⟩
      rcases h with ⟨line, rfl, hll, h⟩ | ⟨t0, ht, hk, h⟩
      · refine .inl ⟨line, rfl, hll, h.mono (Same.refl _) (fun v H1 s1 z => ?_) fun c H1 _ s1 z => he2 _ H1 s1 z⟩
        exact z.imp id fun ⟨e, h1, h2⟩ => ⟨e, h1, h2.err fun c H2 s2 z => he2 _ H2 (s1.trans s2) z⟩
      · exact .inr ⟨t0, ht, hk, he2 _ H (Same.refl _) h⟩
    · rintro σ' cls H' ⟨rfl, ⟨i, c, rfl, rs, xm, q⟩, S1⟩
      refine ⟨xm, fun a ha => ?_⟩
      refine ⟨12, rfl, by decide, by decide, comp_rangeH (n := 12) (by decide) (fun m ys H2 => ys = ((List.range m).filter fun j => decide (i = j)).map (fun (j : Nat) => V.int (j : Int)) ∧ Same (upd H' a (excO a (.ref c))) H2) ⟨rfl, Same.refl _⟩ (fun ys H2 ⟨_, s2⟩ => ⟨a, .ref c, rfl, s2 _ _ upd_same⟩) ?_ ?_⟩
      · rintro m ys H2 N hm hy ⟨rfl, s2⟩ hN
        refine ⟨_, rfl, _, rfl, ⟨a, .ref c, rfl, s2 _ _ upd_same⟩, a, c, i, m, (by rw [Int.zero_add]), s2 _ _ upd_same, rs, hm, fun H3 s3 => ⟨_, rfl, ?_⟩⟩
        by_cases him : i = m
        · rw [decide_eq_true him]
          refine iteT ⟨_, rfl, hN _ _ (by rw [List.length_append]; simp at hy ⊢; omega) ⟨?_, s2.trans s3⟩⟩
          rw [List.range_succ, List.filter_append, List.map_append]
          refine congrArg (fun z => _ ++ z) ?_
          rw [show (List.filter (fun j => decide (i = j)) [m]) = [m] by simp [him]]
          show [V.int (0 + (m : Int))] = [V.int (m : Int)]
          rw [Int.zero_add]
        · rw [decide_eq_false him]
          refine iteF (hN _ _ (by omega) ⟨?_, s2.trans s3⟩)
          rw [List.range_succ, List.filter_append, show (List.filter (fun j => decide (i = j)) [m]) = [] by simp [him], List.append_nil]
      · rintro ys H2 hy ⟨rfl, s2⟩ p hp
        rw [only12 i rs.lt]
        have T2 : Same H H2 := S1.trans ((Same.upd ha).trans s2)
        exact q p _ (T2.free hp) upd_same (T2.trans (Same.upd hp))
end
end Mr

namespace Mr
open PySem L2
section
variable {P : Program} {w : World} {K : PySem.W.Frag} {mg : Str → Option Value} {base : Heap}
theorem scLaw : FnScope ["_law_script", "_law_k", "_law_box_here", "_law_row_here", "_law_desk", "_law_some", "_law_turn", "_law_line"] ["_law_script"] (defScope sLaw) := ⟨rfl, rfl, rfl, by decide +kernel, rfl, by decide +kernel, by decide +kernel⟩
set_option maxHeartbeats 8000000 in
theorem ok_law {f : Addr} {fd : FuncData} (F : Fun K "law" "law" sLaw f fd) {C c2 c3 c5 c6 : Addr} {kvs : List (Key × V)} (T : ClD K mg C) (d_Desk : MkC P w K mg base 1 C (spDInit C)) (m_say0 : Mt P w K mg base 10 C "say" ["self", "line"] (spSayN P w K mg base 8 kvs C c6 c3 c5)) (hK : ∀ a : List Nat, a ∉ asked13 → valV kvs (Sum.inr (tx a)) = none) (qR : Ask1 P w K mg base 8 kvs wRow fRow) (d_law_said : Df P w K mg base 11 "_law_said" ["_law_desk", "_law_line"] (spSaid2 P w K mg base 8 kvs C c6 c3 c5 c2)) (d_law_box : Df P w K mg base 2 "_law_box" ["_law_script", "_law_k"] (spBoxI K)) (d_law_row : Df P w K mg base 3 "_law_row" ["_law_box_here", "_law_most"] spRowI) (d_law_bent : Df P w K mg base 2 "_law_bent" ["_law_box_here", "_law_line"] spBent84) (d_law_take : Df P w K mg base 1 "_law_take" ["_law_box_here", "_law_many"] spTakeI) (d_law_odd : Df P w K mg base 2 "_law_odd" ["_law_box_here"] (spOdd84 K)) (d_law_is_line : Df P w K mg base 1 "_law_is_line" ["_law_line"] (spIsLine K)) (z_len : mg "len" = none) (z_max : mg "max" = none) (z_min : mg "min" = none) (z_range : mg "range" = none)  : FnOk P w K mg base CX0 12 f fd ["_law_script"] (spLaw K) := by
  refine F.ok scLaw (fun vs H Q E h => ?_) (fun cdv A outer s H vs Q E hr h => ?_)
  · obtain ⟨_, _, rfl, _⟩ := h
    rfl
  · obtain ⟨a, ns, rfl, hS, hlen, q⟩ := h
    refine ⟨_, (@pss_cons _ _ _ _ _ (ps_for PassesOwn.never rfl (pi_range1 rfl z_range (pa_cons (pe_callB (call_max2 rfl) (by rfl) z_max bt_max (pa_cons pe_int (pa_cons (pe_callB (call_min2 rfl) (by rfl) z_min bt_min (pa_cons (pe_callB call_len_seq (by rfl) z_len bt_len (pa_cons (pv 0) pa_nil)) (pa_cons pe_int pa_nil))) pa_nil))) pa_nil)) (pg_name (i := 1) scLaw.nd rfl (Or.inl rfl)) (@pss_cons _ _ _ _ _ (@ps_set _ _ 2 _ _ _ _ scLaw.nd rfl (Or.inl rfl) (pe_df d_law_box hr rfl (pa_cons (pv 0) (pa_cons (pv 1) pa_nil))) rfl (Or.inl rfl))
      (@pss_cons _ _ _ _ _ (@ps_set _ _ 3 _ _ _ _ scLaw.nd rfl (Or.inl rfl) (pe_df d_law_row hr rfl (pa_cons (pv 2) (pa_cons pe_int pa_nil))) rfl (Or.inl rfl))
      (@pss_cons _ _ _ _ _ (@ps_set _ _ 4 _ _ _ _ scLaw.nd rfl (Or.inl rfl) (pe_mk0 d_Desk hr rfl T.mgC) rfl (Or.inl rfl))
      (@pss_cons _ _ _ _ _ (ps_join (@ps_if _ _ _ _ _ _ _ _ (pt_cmpR op_ne (pv 3) pe_str (nomark _)) (@pss_one _ _ _ (ps_expr (pe_mt m_say0 T.cl hr (pv 4) (pa_cons (@pe_op _ _ _ _ _ _ _ _ op_addS pe_str (pv 3)) pa_nil)))) pss_nil))
      (@pss_cons _ _ _ _ _ (@ps_set _ _ 5 _ _ _ _ scLaw.nd rfl (Or.inl rfl) (@pe_lst _ _ _ _ (@pa_str _ _ _ _ _ _  (@pa_str _ _ _ _ _ _  (@pa_str _ _ _ _ _ _  (@pa_str _ _ _ _ _ _  (@pa_str _ _ _ _ _ _  (@pa_str _ _ _ _ _ _  (@pa_str _ _ _ _ _ _  (@pa_str _ _ _ _ _ _  (@pa_str _ _ _ _ _ _  (@pa_str _ _ _ _ _ _  (@pa_str _ _ _ _ _ _  (@pa_str _ _ _ _ _ _  pa_nil))))))))))))) rfl (Or.inl rfl))
      (@pss_one _ _ _ (ps_for PassesOwn.never rfl (pi_range1 rfl z_range (pa_cons pe_int pa_nil)) (pg_name (i := 6) scLaw.nd rfl (Or.inl rfl)) (@pss_cons _ _ _ _ _ (@ps_set _ _ 7 _ _ _ _ scLaw.nd rfl (Or.inl rfl) (pe_df d_law_bent hr rfl (pa_cons (pv 2) (pa_cons (@pe_ix _ _ _ _ _ _ _ ix_list (pv 5) (pe_df d_law_take hr rfl (pa_cons (pv 2) (pa_cons pe_int pa_nil))) (fun _ _ => rfl)) pa_nil))) rfl (Or.inl rfl))
      (@pss_cons _ _ _ _ _ (ps_join (@ps_if _ _ _ _ _ _ _ _ (pt_cmpR op_eq (@pe_op _ _ _ _ _ _ _ _ op_mod (pv 6) pe_int) pe_int (nomark _)) (@pss_one _ _ _ (@ps_set _ _ 7 _ _ _ _ scLaw.nd rfl (Or.inl rfl) (pe_df d_law_odd hr rfl (pa_cons (pv 2) pa_nil)) rfl (Or.inl rfl))) pss_nil))
      (@pss_one _ _ _ (@ps_if _ _ _ _ _ _ _ _ (pt_not (pt_val (pe_df d_law_is_line hr rfl (pa_cons (pv 7) pa_nil)))) (@pss_one _ _ _ (@ps_if _ _ _ _ _ _ _ _ (PW.pt (pw_or (pt_cmpR (op_neL hr.units0) (pe_df d_law_said hr rfl (pa_cons (pv 4) (pa_cons (pv 7) pa_nil))) (@pe_lst _ _ _ _ (@pa_int _ _ _ _ _ _  pa_nil)) (nomark _)) (pw_or1 (pt_cmpR op_ne (pe_df d_law_said hr rfl (pa_cons (pv 4) (pa_cons pe_str pa_nil))) (pe_orT (pv 3) (pe_one pe_str)) (nomark _))))) (@pss_one _ _ _ (@ps_ret _ _ _ _ pe_bl)) pss_nil)) pss_nil))))))))))))
      (@pss_one _ _ _ (@ps_ret _ _ _ _ pe_bl))), ?_⟩
    refine ⟨_, rfl, a, _, rfl, .inl hS, _, _, rfl, _, _, rfl, _, rfl, ?_, ?_, ?_⟩
    · split <;> split <;> omega
    · split <;> split <;> omega
    refine for_range (fun i σ H' => ∃ (v1 v2 v3 v4 v5 v6 v7 : Option V), σ = [some (.ref a), v1, v2, v3, v4, v5, v6, v7] ∧ Same H H') ⟨none, none, none, none, none, none, none, rfl, Same.refl _⟩ ?_ ?_
    rotate_left
    · rintro σ H' ⟨v1, v2, v3, v4, v5, v6, v7, rfl, s0⟩
      exact q H'
    rintro i σ H0 hi ⟨v1, v2, v3, v4, v5, v6, v7, rfl, s0⟩
    refine ⟨_, rfl, _, rfl, a, ns, _, rfl, s0.seq hS, by omega, fun b n H1 hfr hb s1 => ?_⟩
    have fr : H b = none := s0.free hfr
    rw [e_add1, e_nil, e_s1, e_s2, e_s3, e_take, e_s4, e_cuts, e_row, e_even, e_more, e_tree, e_clear, e_full, e_none]
    refine ⟨_, rfl, b, n, 6, rfl, hb, by decide, by decide, fun m n2 H2 hAm hml hb2 k2 => ?_⟩
    have S2 : Same H H2 := same_but (s0.trans s1) fr k2
    have hm10 : m.length ≤ 6 := by omega
    have hrow : rowL m = true := abcz_row hAm (by omega)
    have hm12 : m.length ≤ 12 := by omega
    refine fun dk dx hdk hdx hne => ⟨dk, dx, rfl, upd_same, rfl, ?_⟩
    have s3 : Same H2 (upd (upd (upd H2 dx (.own dk)) dk (.ins C dx [])) dk (dkO C dx [])) := fun c o e => by
      rw [upd_ne (ne_of_none e hdk), upd_ne (ne_of_none e hdk), upd_ne (ne_of_none e hdx)]
      exact e
    have f3 : upd (upd (upd H2 dx (.own dk)) dk (.ins C dx [])) dk (dkO C dx []) dk = some (dkO C dx []) := upd_same
    have frd : H dk = none := S2.free hdk
    have hb3 := s3 _ _ hb2
    generalize upd (upd (upd H2 dx (.own dk)) dk (.ins C dx [])) dk (dkO C dx []) = H3 at s3 f3 hb3
    have S3 := S2.trans s3
    have ndb : dk ≠ b := (ne_obj hb3 f3 (by intro z; cases z)).symm
    refine ⟨fun σ H' => σ = [some (V.ref a), some (V.int (0 + (i : Int))), some (V.ref b), some (V.str (tx m)), some (V.ref dk), v5, v6, v7] ∧ H' dk = some (dkO C dx m) ∧ H' b = some (.lst [.int n2]) ∧ Same H H', ?rest, ?_⟩
    rotate_left
    · refine ⟨_, rfl, rfl, _, rfl, ?_⟩
      by_cases h0 : m = []
      · rw [ne_tx (a := m) (b := []) h0]
        exact iteF ⟨rfl, by rw [h0]; exact f3, hb3, S3⟩
      · rw [show (!decide (V.str (tx m) = V.str (tx []))) = true by rw [eq_tx, decide_eq_false h0]; rfl]
        refine iteT ⟨_, rfl, dk, dx, _, rfl, f3, dk_no, _, rfl, wAdd ++ [32], m, rfl, rfl, (by rw [sizeLine_eq]; show 4 + _ ≤ _; omega), ?_⟩
        rw [show (wAdd ++ [32]) ++ m = wAdd ++ 32 :: m by rw [List.append_assoc]; rfl]
        refine say2_add (E := E0) hrow h0 (by show 0 + _ ≤ _; omega) f3 (by decide) fun H4 f4 k4 => ?_
        exact ⟨rfl, f4, k4 _ _ hb3 ndb.symm, same_but S3 frd k4⟩
    case rest =>
    rintro σ H4 ⟨rfl, f4, hb4, S4⟩
    refine ⟨(by show 12 ≤ sizeLine; decide), fun ps hps => ?_⟩
    have s5 := Same.upd (o := .lst (wordsV some84)) hps
    have g5 : upd H4 ps (.lst (wordsV some84)) ps = some (.lst (wordsV some84)) := upd_same
    rw [show upd H4 ps (.lst [V.str (tx (wAdd ++ [32, 97, 98])), V.str (tx (wAdd ++ [32, 97])), V.str (tx (wTake ++ [32, 50])), V.str (tx wTake), V.str (tx (wCuts ++ [32, 51])), V.str (tx wCuts), V.str (tx wRow), V.str (tx wEven), V.str (tx wMore), V.str (tx wTree), V.str (tx wClear), V.str (tx wFull)]) = upd H4 ps (.lst (wordsV some84)) from rfl]
    generalize upd H4 ps (.lst (wordsV some84)) = H5 at s5 g5
    have nsb : ps ≠ b := (ne_of_none hb4 hps).symm
    refine ⟨9, rfl, by decide, by decide, ?_⟩
    refine for_range (n := 9) (fun j σ H' => ∃ (w6 w7 : Option V) (nb : Int), σ = [some (V.ref a), some (V.int (0 + (i : Int))), some (V.ref b), some (V.str (tx m)), some (V.ref dk), some (V.ref ps), w6, w7] ∧ H' dk = some (dkO C dx m) ∧ H' b = some (.lst [.int nb]) ∧ H' ps = some (.lst (wordsV some84)) ∧ Same H H') ⟨_, _, n2, rfl, s5 _ _ f4, s5 _ _ hb4, g5, S4.trans s5⟩ ?_ ?_
    rotate_left
    · rintro σ H6 ⟨w6, w7, nb, rfl, h1, h2, h3, h4⟩
      exact ⟨_, _, _, _, _, _, _, rfl, h4⟩
    rintro j σ H6 hj ⟨w6, w7, nb, rfl, f6, hb6, g6, S6⟩
    refine ⟨_, rfl, _, rfl, _, rfl, b, nb, 12, rfl, hb6, by decide, by decide, fun d7 n7 H7 hd7 hd7' hb7 k7 => ?_⟩
    obtain ⟨v, hv, hm⟩ := at_ofInt (xs := wordsV some84) hd7 (by show d7 < 12; omega)
    obtain ⟨l0, hl0, rfl⟩ := List.mem_map.mp hm
    obtain ⟨hx1, hx2, hx3⟩ := some84_ok l0 hl0
    have f7 := k7 _ _ f6 ndb
    have g7 := k7 _ _ g6 nsb
    have S7 := same_but S6 fr k7
    refine ⟨ps, _, _, _, rfl, rfl, SqL.of g7, hv, b, n7, l0, rfl, hb7, hx1, hx2, hx3, fun x8 n8 H8 hx8 hb8 k8 => ?_⟩
    have f8 := k8 _ _ f7 ndb
    have g8 := k8 _ _ g7 nsb
    have S8 := same_but S7 fr k8
    refine ⟨fun σ H' => ∃ (x : V) (nb : Int), σ = [some (V.ref a), some (V.int (0 + (i : Int))), some (V.ref b), some (V.str (tx m)), some (V.ref dk), some (V.ref ps), some (V.int (0 + (j : Int))), some x] ∧ TN K H' x ∧ H' dk = some (dkO C dx m) ∧ H' b = some (.lst [.int nb]) ∧ H' ps = some (.lst (wordsV some84)) ∧ Same H H', ?rest2, ?_⟩
    rotate_left
    · refine ⟨_, rfl, _, _, rfl, rfl, (by show (0 : Int) < 4; decide), rfl, _, rfl, ite2 (fun _ => ?_) (fun _ => ⟨_, n8, rfl, .inl ⟨x8, rfl, hx8⟩, f8, hb8, g8, S8⟩)⟩
      refine ⟨_, rfl, b, n8, rfl, hb8, fun y n9 H9 hT hb9 k9 => ?_⟩
      exact ⟨y, n9, rfl, hT, k9 _ _ f8 ndb, hb9, k9 _ _ g8 nsb, same_but S8 fr k9⟩
    case rest2 =>
    rintro σ H9 ⟨x, n9, rfl, hT, f9, hb9, g9, S9⟩
    have done : ∀ H10, Same H9 H10 → ∃ (w6 w7 : Option V) (nb : Int), ([some (V.ref a), some (V.int (0 + (i : Int))), some (V.ref b), some (V.str (tx m)), some (V.ref dk), some (V.ref ps), some (V.int (0 + (j : Int))), some x] : St) = [some (V.ref a), some (V.int (0 + (i : Int))), some (V.ref b), some (V.str (tx m)), some (V.ref dk), some (V.ref ps), w6, w7] ∧ H10 dk = some (dkO C dx m) ∧ H10 b = some (.lst [.int nb]) ∧ H10 ps = some (.lst (wordsV some84)) ∧ Same H H10 := fun H10 s10 => ⟨_, _, n9, rfl, s10 _ _ f9, s10 _ _ hb9, s10 _ _ g9, S9.trans s10⟩
    rcases hT with ⟨l, rfl, hl⟩ | hx
    · refine ⟨_, rfl, _, rfl, .inl ⟨l, rfl, hl, fun H10 s10 => ⟨_, rfl, ?_⟩⟩⟩
      cases hbl : isLineB l with
      | true => exact iteF (done H10 s10)
      | false =>
        obtain ⟨h1, h2⟩ := no_line hK hbl
        refine iteT ⟨_, rfl, _, rfl, said2_no (E := E0) hl h1 h2 (split_short hl) (s10 _ _ f9) hrow fun p11 H11 hp11 g11 s11 => ⟨(by show 1 ≤ sizeLine; decide), fun q12 hq12 => ?_⟩⟩
        have s12 := Same.upd (o := .lst [.int 5]) hq12
        have g12 : upd H11 q12 (.lst [.int 5]) q12 = some (.lst [.int 5]) := upd_same
        generalize upd H11 q12 (.lst [.int 5]) = H12 at s12 g12
        have t12 := s10.trans (s11.trans s12)
        refine ⟨p11, q12, _, _, rfl, rfl, SqL.of (s12 _ _ g11), SqL.of g12, rfl, rfl, _, rfl, iteF ?_⟩
        refine ⟨_, rfl, said2_tell (E := E0) (by decide) qR (t12 _ _ f9) hrow (by omega) fun H13 s13 => ⟨_, rfl, ton_orT (l := m) (by omega) ?_⟩⟩
        refine ⟨rfl, _, rfl, ?_⟩
        rw [ne_tx (a := fRow m) (b := tonL m) rfl]
        exact iteF (done H13 (t12.trans s13))
    · refine ⟨_, rfl, _, rfl, .inr ⟨hx, fun H10 s10 => ⟨_, rfl, ?_⟩⟩⟩
      obtain ⟨t0, ty, hk⟩ := hx
      refine iteT ⟨_, rfl, _, rfl, said2_nt (E := E0) ⟨t0, TyOf.same s10 ty, hk⟩ (s10 _ _ f9) hrow fun p11 H11 hp11 g11 s11 => ⟨(by show 1 ≤ sizeLine; decide), fun q12 hq12 => ?_⟩⟩
      have s12 := Same.upd (o := .lst [.int 5]) hq12
      have g12 : upd H11 q12 (.lst [.int 5]) q12 = some (.lst [.int 5]) := upd_same
      generalize upd H11 q12 (.lst [.int 5]) = H12 at s12 g12
      have t12 := s10.trans (s11.trans s12)
      refine ⟨p11, q12, _, _, rfl, rfl, SqL.of (s12 _ _ g11), SqL.of g12, rfl, rfl, _, rfl, iteF ?_⟩
      refine ⟨_, rfl, said2_tell (E := E0) (by decide) qR (t12 _ _ f9) hrow (by omega) fun H13 s13 => ⟨_, rfl, ton_orT (l := m) (by omega) ?_⟩⟩
      refine ⟨rfl, _, rfl, ?_⟩
      rw [ne_tx (a := fRow m) (b := tonL m) rfl]
      exact iteF (done H13 (t12.trans s13))
end
end Mr

namespace PySem.W.Fast
def tw1421675321653521731 : Unit := ()
def tw2055242075499064663 : Unit := ()
def tw14616347850674036451 : Unit := ()
def tw7731015273176189500 : Unit := ()
def tw722156255308815902 : Unit := ()
def tw8828652557304070569 : Unit := ()
def tw1506613277212405022 : Unit := ()
def tw15385008710452096708 : Unit := ()
def tw301813975897744909 : Unit := ()
def tw3190093616602394738 : Unit := ()
def tw7230750287493959740 : Unit := ()
def tw6361535532884470949 : Unit := ()
def tw5975123147918285005 : Unit := ()
def tw9085151495824235763 : Unit := ()
def tw1692736231537337619 : Unit := ()
def tw1978424319634971133 : Unit := ()
def tw771690177995408387 : Unit := ()
def tw10115137607260198385 : Unit := ()
def tw18395057528796352912 : Unit := ()
def tw2252891198740484173 : Unit := ()
def tw8336238288671689267 : Unit := ()
def tw5838542499979850736 : Unit := ()
def tw9009351073088999187 : Unit := ()
def tw18176258469322329064 : Unit := ()
def tw12157694921278058762 : Unit := ()
def tw3716228179959156955 : Unit := ()
def tw3524852633974924760 : Unit := ()
def tw14080004019999034829 : Unit := ()
def tw13410893185066914332 : Unit := ()
def tw2446546845426196561 : Unit := ()
def tw10478343075264582023 : Unit := ()
def tw5815691597785855251 : Unit := ()
def tw271856235106273471 : Unit := ()
def tw4062800108954034983 : Unit := ()
def tw10486209709436008210 : Unit := ()
def tw15131268890765936399 : Unit := ()
def tw6378550185895934248 : Unit := ()
def tw2887500508148079820 : Unit := ()
def tw233819458045294526 : Unit := ()
def tw13961596822376752688 : Unit := ()
def tw1230675625585120290 : Unit := ()
def tw13418683125865131565 : Unit := ()
def tw3545039542128802576 : Unit := ()
def tw1878773362933113438 : Unit := ()
def tw13333918577094826403 : Unit := ()
def tw5345705437282156814 : Unit := ()
def tw2883817909819065792 : Unit := ()
def tw12413446259555981080 : Unit := ()
def tw9643427090915391591 : Unit := ()
def tw964789709999161801 : Unit := ()
def tw2513222849490745433 : Unit := ()
def tw1587466525197270715 : Unit := ()
def tw8438656019048589026 : Unit := ()
def tw4508635559283566686 : Unit := ()
def tw7304818678740702277 : Unit := ()
def tw9283623834828212548 : Unit := ()
def tw3389644518991136287 : Unit := ()
def tw8130199639892160604 : Unit := ()
def tw4942553758645547738 : Unit := ()
def tw14568663899858557001 : Unit := ()
def tw146857387347555254 : Unit := ()
def tw15753968248110784386 : Unit := ()
def tw16550270369254573363 : Unit := ()
def tw7985857666582445752 : Unit := ()
def tw5138559556863099552 : Unit := ()
def tw15216486189312125974 : Unit := ()
def tw4809328919262394961 : Unit := ()
def tw1817599562698946604 : Unit := ()
def tw11360235876905315358 : Unit := ()
def tw10724856596649837333 : Unit := ()
def tw9028739441479502200 : Unit := ()
def tw3806086611479246721 : Unit := ()
def tw7526545199636154867 : Unit := ()
def tw980844191026482178 : Unit := ()
def tw2350830460392193719 : Unit := ()
def tw10975160600735405523 : Unit := ()
def tw2970883777644308774 : Unit := ()
def tw479542369762359839 : Unit := ()
def tw1664189298688330655 : Unit := ()
def tw16834499708516231410 : Unit := ()
def tw16414604298277077484 : Unit := ()
def tw2144551889839832475 : Unit := ()
def tw8436182899672475016 : Unit := ()
def tw10303139920958408699 : Unit := ()
def tw9826734149546836597 : Unit := ()
def tw15255158233006578645 : Unit := ()
def tw15981727913413190104 : Unit := ()
def tw1707061159951183532 : Unit := ()
def tw2451933522663932035 : Unit := ()
def tw4188005834580927332 : Unit := ()
def tw8831284475990978248 : Unit := ()
def tw5827586438333925072 : Unit := ()
def tw10261349465728126917 : Unit := ()
def tw1850446782319127038 : Unit := ()
def tw12430849840879246883 : Unit := ()
def tw5258998329241160966 : Unit := ()
def tw9843267481848043276 : Unit := ()
def tw9031862544658746481 : Unit := ()
def tw3201117073467271377 : Unit := ()
def tw13926650001049956719 : Unit := ()
def tw12955018352438068070 : Unit := ()
def tw12311935237177017242 : Unit := ()
def tw14290178255136163040 : Unit := ()
def tw5107383886369980808 : Unit := ()
def tw9349253618288190199 : Unit := ()
def tw3094021435797624095 : Unit := ()
def tw7057340467575505680 : Unit := ()
def tw296058581319239070 : Unit := ()
def tw13262792068990216913 : Unit := ()
def tw12174839481176508113 : Unit := ()
def tw17496839531975305377 : Unit := ()
def tw4649857961911042693 : Unit := ()
def tw8380991233677184110 : Unit := ()
def tw972026080589196242 : Unit := ()
def tw3338003951943323588 : Unit := ()
def tw3275131323277610931 : Unit := ()
def tw11646606943046519472 : Unit := ()
def tw689511123862726941 : Unit := ()
def tw2860910410440635183 : Unit := ()
def tw8439293630616659204 : Unit := ()
def tw2293918827028615849 : Unit := ()
def tw3191075044438970921 : Unit := ()
def tw11635051136206398901 : Unit := ()
def tw3743400300947683888 : Unit := ()
def tw2700700053826606087 : Unit := ()
def tw17362684196696129475 : Unit := ()
def tw2142722329466889180 : Unit := ()
def tw1152631958463721791 : Unit := ()
def tw15906726252498630347 : Unit := ()
def tw8788987014162670925 : Unit := ()
def tw14242189362622584933 : Unit := ()
def tw8459155007482394101 : Unit := ()
def tw16768111867072009284 : Unit := ()
def tw9598958826445794787 : Unit := ()
def tw16467105917265564744 : Unit := ()
def tw4383387869856186742 : Unit := ()
def tw18437209264672772226 : Unit := ()
def tw10513735632241830831 : Unit := ()
def tw17236445001817751028 : Unit := ()
def tw17432565606783494529 : Unit := ()
def tw13286023019279583025 : Unit := ()
def tw9568715968172098527 : Unit := ()
def tw16927455761853220895 : Unit := ()
def tw10796013778602298520 : Unit := ()
def tw16366696469752908669 : Unit := ()
def tw13745886023589352353 : Unit := ()
def tw7120228114866399301 : Unit := ()
def tw5296662115694670552 : Unit := ()
def tw6599638020041434016 : Unit := ()
def tw9091293651046065173 : Unit := ()
def tw5178840224216369511 : Unit := ()
def tw7958751066625149390 : Unit := ()
def tw2517460244469331294 : Unit := ()
def tw2968749857482227350 : Unit := ()
def tw782644630044255819 : Unit := ()
def tw10596244124111791125 : Unit := ()
def tw6353013723273987277 : Unit := ()
def tw8460829133305743534 : Unit := ()
def tw3033033042622557749 : Unit := ()
def tw17694347609884451764 : Unit := ()
def tw12786187002009100543 : Unit := ()
def tw3592903141815796672 : Unit := ()
def tw10217623386365273523 : Unit := ()
def tw158264117414829660 : Unit := ()
def tw3780244296145498160 : Unit := ()
def tw15886145278202350013 : Unit := ()
def tw7037725629675391656 : Unit := ()
def tw1303063709762014900 : Unit := ()
def tw8505494725413025450 : Unit := ()
def tw15841269020125217465 : Unit := ()
def tw15199488287778686059 : Unit := ()
def tw8185317762762564005 : Unit := ()
def tw12190320176815895446 : Unit := ()
def tw401196419252156175 : Unit := ()
def tw7342121329354871479 : Unit := ()
def tw17097610765829278831 : Unit := ()
def tw11322195758693446451 : Unit := ()
def tw2760748001795047121 : Unit := ()
def tw14162069096845437151 : Unit := ()
def tw8636598733730717465 : Unit := ()
def tw4885246895001191860 : Unit := ()
def tw2424641376292119635 : Unit := ()
def tw8616533108372776132 : Unit := ()
def tw343941769627280302 : Unit := ()
def tw898852424203141573 : Unit := ()
def tw11449162214445507050 : Unit := ()
def tw17388613800421847483 : Unit := ()
def tw5893579941526210719 : Unit := ()
def tw11121245050995718254 : Unit := ()
def tw11781766244725917561 : Unit := ()
def tw18355633856941139012 : Unit := ()
def tw15682012772061355872 : Unit := ()
def tw3134636236952721554 : Unit := ()
def tw4726444687345108527 : Unit := ()
def tw4384842504560819141 : Unit := ()
def tw9598503901933465402 : Unit := ()
def tw5055197528638867947 : Unit := ()
def tw2263396632621021149 : Unit := ()
def tw6850136064944953611 : Unit := ()
def tw7627810912557653639 : Unit := ()
def tw6780869471057209476 : Unit := ()
def tw1976386180655637197 : Unit := ()
def tw9409557472956545739 : Unit := ()
def tw17378613148659693740 : Unit := ()
def tw13220515837450202864 : Unit := ()
def tw16967695765355141225 : Unit := ()
def tw3685819763542626261 : Unit := ()
def tw7755357393965232719 : Unit := ()
def tw13569339774791004101 : Unit := ()
def tw5132600725074697038 : Unit := ()
def tw14959867761632848580 : Unit := ()
def tw6761568180855719886 : Unit := ()
def tw9250808467701419436 : Unit := ()
def tw12513853284817511402 : Unit := ()
def tw7477605794235589150 : Unit := ()
def tw18266777713377549685 : Unit := ()
def tw7378296220934871946 : Unit := ()
def tw514358141667321303 : Unit := ()
def tw4539993855950208863 : Unit := ()
def tw2166738789607246301 : Unit := ()
def tw18150115937284987359 : Unit := ()
def tw15185191930501833152 : Unit := ()
def tw4281908642372529416 : Unit := ()
def tw17925654176614850825 : Unit := ()
def tw773180876071512121 : Unit := ()
def tw7454132211190715690 : Unit := ()
def tw15236079797548486280 : Unit := ()
def tw12686178283116861856 : Unit := ()
def tw1612090736901483493 : Unit := ()
def tw17899837620060222543 : Unit := ()
def tw613173901565928969 : Unit := ()
def tw2396427966190336422 : Unit := ()
def tw4026916102032267575 : Unit := ()
def tw11813530511971521936 : Unit := ()
def tw4146944540499136245 : Unit := ()
def tw14073164211912836916 : Unit := ()
def tw11570479958807690617 : Unit := ()
def tw10267105733306621448 : Unit := ()
def tw7831810710443535707 : Unit := ()
def tw9379758346990865994 : Unit := ()
def tw3974581965827632630 : Unit := ()
def tw409138862467006216 : Unit := ()
def tw7246458674639198416 : Unit := ()
def tw2333654882609190741 : Unit := ()
def tw16689405929746500359 : Unit := ()
def tw11369276677919128277 : Unit := ()
def tw2018693982089310128 : Unit := ()
def tw13476356721188777415 : Unit := ()
def tw8052871637776250611 : Unit := ()
def tw12393896077753395279 : Unit := ()
def tw14640013824994937527 : Unit := ()
def tw11724132020664205783 : Unit := ()
def tw6598239877391922432 : Unit := ()
def tw1619995562008676129 : Unit := ()
def tw16384081578381888465 : Unit := ()
def tw11949331706008775029 : Unit := ()
def tw10737265560421455453 : Unit := ()
def tw12055986363475363374 : Unit := ()
def tw7310372141039910926 : Unit := ()
def tw7329875699698038665 : Unit := ()
def tw7202106044368498405 : Unit := ()
def tw4295607429245130372 : Unit := ()
def tw17138162703985813611 : Unit := ()
def tw18104908719640339069 : Unit := ()
def tw6814875436733796494 : Unit := ()
def tw15089825782174306182 : Unit := ()
def tw4330469789090959227 : Unit := ()
def tw5810889086073371559 : Unit := ()
def tw13481680945471103424 : Unit := ()
def tw13451253216643299895 : Unit := ()
def tw11539573684109853929 : Unit := ()
def tw2758376906059535724 : Unit := ()
def tw17391203830572888377 : Unit := ()
def tw16119808388733072384 : Unit := ()
def tw5618607269498167353 : Unit := ()
def tw17869046852331093678 : Unit := ()
def tw7352299098955943193 : Unit := ()
def tw8598250535445722616 : Unit := ()
def tw1489385452810727207 : Unit := ()
def tw10822553806825326062 : Unit := ()
def tw7790630943931192224 : Unit := ()
def tw10521257812928708968 : Unit := ()
def tw17624289841850860187 : Unit := ()
def tw7544689414902919760 : Unit := ()
def tw18141332683249204944 : Unit := ()
def tw2365870590919951622 : Unit := ()
def tw15486317078204326830 : Unit := ()
def tw13921557980911829507 : Unit := ()
def tw92948134936462300 : Unit := ()
def tw461586194805945913 : Unit := ()
def tw14235569268473859254 : Unit := ()
def tw3751910262164902567 : Unit := ()
def tw16030013139269754471 : Unit := ()
def tw15802157241612017890 : Unit := ()
def tw7970785284764053453 : Unit := ()
def tw15342748196643613130 : Unit := ()
def tw8842227928734163913 : Unit := ()
def tw5945170194574243411 : Unit := ()
def tw9416181647289305632 : Unit := ()
def tw15527628395156317744 : Unit := ()
def tw12315499306312709788 : Unit := ()
def tw5166522767714846212 : Unit := ()
def tw2959581224554359834 : Unit := ()
def tw17825370490753804651 : Unit := ()
def tw6016981484963410533 : Unit := ()
def tw1545861117628771942 : Unit := ()
def tw8958143023514248514 : Unit := ()
def tw4874399829483616376 : Unit := ()
def tw12925799332851034988 : Unit := ()
def tw12427731963295569998 : Unit := ()
def tw2165600963843019542 : Unit := ()
def tw15611167539007143212 : Unit := ()
def tw3125587947311276207 : Unit := ()
def tw13428934882836954843 : Unit := ()
def tw13712833541256429264 : Unit := ()
def tw14082867480698571568 : Unit := ()
def tw17435908506762878685 : Unit := ()
def tw1709792556453427417 : Unit := ()
def tw15468226637656646022 : Unit := ()
def tw2539667968280835261 : Unit := ()
def tw10014233314672168078 : Unit := ()
def tw14732050442325405398 : Unit := ()
def tw3686517169351799341 : Unit := ()
def tw6427698118866108080 : Unit := ()
def tw10468610245981452583 : Unit := ()
def tw15148349790107864962 : Unit := ()
def tw9137583020039324040 : Unit := ()
def tw17496370200382331066 : Unit := ()
def tw9552626731130226837 : Unit := ()
def tw1346938258967751646 : Unit := ()
def tw12329582090999456085 : Unit := ()
def tw2629494153128577125 : Unit := ()
def tw5696326166492567992 : Unit := ()
def tw2103597918140672338 : Unit := ()
def tw16916980478018194255 : Unit := ()
def tw10176895900396805980 : Unit := ()
def tw11413079727603074030 : Unit := ()
def tw12029449969702873483 : Unit := ()
def tw7602818349601184894 : Unit := ()
def tw12587594773929464512 : Unit := ()
def tw10430446595581489689 : Unit := ()
def tw13679297749050122772 : Unit := ()
def tw4590188598220343309 : Unit := ()
def tw16594399819982061525 : Unit := ()
def tw15332117808878524483 : Unit := ()
def tw1018708115116419869 : Unit := ()
def tw3689052638916866437 : Unit := ()
def tw12140876363694565864 : Unit := ()
def tw6852897271009308239 : Unit := ()
def tw7362066955907618456 : Unit := ()
def tw7723885957698570940 : Unit := ()
def tw12312727870884406814 : Unit := ()
def tw4507537787973238737 : Unit := ()
def tw9786846264222149451 : Unit := ()
def tw3093760428489268327 : Unit := ()
def tw10159745271575095706 : Unit := ()
def tw10467750317924885909 : Unit := ()
def tw5639443664616984776 : Unit := ()
def tw949205486129376612 : Unit := ()
def tw5390552981827076264 : Unit := ()
def tw1944713752017804401 : Unit := ()
def tw17515810665643419566 : Unit := ()
def tw18278017808446608504 : Unit := ()
def tw7760674184647767325 : Unit := ()
def tw13166696056635072528 : Unit := ()
def tw2625982413535547839 : Unit := ()
def tw16330878198005291449 : Unit := ()
def tw10682669408940267037 : Unit := ()
def tw2826068324323149355 : Unit := ()
def tw11392333785498670061 : Unit := ()
def tw5389861109607474619 : Unit := ()
def tw474347609874495033 : Unit := ()
def tw15005661569215881990 : Unit := ()
def tw4175121981669260287 : Unit := ()
def tw16960642050134536318 : Unit := ()
def tw7010955863498131240 : Unit := ()
def tw7715924477262305738 : Unit := ()
def tw234110027400389318 : Unit := ()
def tw5221167583246486956 : Unit := ()
def tw5028499583015384916 : Unit := ()
def tw3475903104246111385 : Unit := ()
def tw2663472545143469364 : Unit := ()
def tw8035067771676711895 : Unit := ()
def tw11910942865036039162 : Unit := ()
def tw350901323904579071 : Unit := ()
def tw18428814624523541973 : Unit := ()
def tw3544831896073398583 : Unit := ()
def tw14572912831272031391 : Unit := ()
def tw16395432115972655587 : Unit := ()
def tw12654801907776549854 : Unit := ()
def tw13837513511296208336 : Unit := ()
def tw12339386912908853264 : Unit := ()
def tw3292523487248216315 : Unit := ()
def tw16425582650149791912 : Unit := ()
def tw7147776555798365358 : Unit := ()
def tw8136796358779530613 : Unit := ()
def tw12352152138941929350 : Unit := ()
def tw9167031139169956510 : Unit := ()
def tw5336489870485342010 : Unit := ()
def tw367744731734969934 : Unit := ()
def tw12068467377970154168 : Unit := ()
def tw14858074822349491186 : Unit := ()
def tw7563045665331857125 : Unit := ()
def tw263042036525075638 : Unit := ()
def tw14319730016468652926 : Unit := ()
def tw15137000800116356969 : Unit := ()
def tw17950772804130616612 : Unit := ()
def tw7380675949766469197 : Unit := ()
def tw7969239633500782253 : Unit := ()
def tw2558767295687940425 : Unit := ()
def tw4321843304546496153 : Unit := ()
def tw17106412798774603356 : Unit := ()
def tw15319679338595604709 : Unit := ()
def tw3229648747250428486 : Unit := ()
def tw13174675181123917866 : Unit := ()
def tw4148091218970649111 : Unit := ()
def tw5581870773535183969 : Unit := ()
def tw12619409068771525828 : Unit := ()
def tw8069406874011380116 : Unit := ()
def tw14867510552182617797 : Unit := ()
def tw7969196157675202281 : Unit := ()
def tw240017974580254560 : Unit := ()
def tw16061927725228170140 : Unit := ()
def tw12586495835714800131 : Unit := ()
def tw14017517643763322569 : Unit := ()
def tw17224565486036270975 : Unit := ()
def tw9263025222820476325 : Unit := ()
def tw8747705092668198366 : Unit := ()
def tw17404605199261284545 : Unit := ()
def tw7475796545166984781 : Unit := ()
def tw14429808042150720814 : Unit := ()
def tw7273602003756562674 : Unit := ()
def tw33179964325760197 : Unit := ()
def tw18427472717355832576 : Unit := ()
def tw17246258571413569330 : Unit := ()
def tw9121373603086947511 : Unit := ()
def tw16823753362885550034 : Unit := ()
def tw11002181788544148146 : Unit := ()
def tw16170089723512147460 : Unit := ()
def tw4928910901825486705 : Unit := ()
def tw4115049261648865029 : Unit := ()
def tw439041428723266331 : Unit := ()
def tw13155729043492465247 : Unit := ()
def tw14731002603685450101 : Unit := ()
def tw16174123546535173475 : Unit := ()
def tw179374588808710675 : Unit := ()
def tw10060941586467921822 : Unit := ()
def tw3901665605211115741 : Unit := ()
def tw9242885373329586343 : Unit := ()
def tw2188165850716251027 : Unit := ()
def tw12880332385498165272 : Unit := ()
def tw14785331769201276827 : Unit := ()
def tw11142924275880056882 : Unit := ()
def tw7903861360756695006 : Unit := ()
def tw4756631333088390424 : Unit := ()
def tw3638084389349053854 : Unit := ()
def tw14361914728752617246 : Unit := ()
def tw11159578523876259080 : Unit := ()
def tw9221058148982031649 : Unit := ()
def tw4199470320388608889 : Unit := ()
def tw6474738464756941712 : Unit := ()
def tw1804450570315855159 : Unit := ()
def tw14872199912246761298 : Unit := ()
def tw644302149753000466 : Unit := ()
def tw18326749620552543106 : Unit := ()
def tw6425871142047219050 : Unit := ()
def tw17727076691659143238 : Unit := ()
def tw2923637453974316452 : Unit := ()
def tw9172557115673267990 : Unit := ()
def tw17089880496219574110 : Unit := ()
def tw12210781133223698745 : Unit := ()
def tw17806593846898436208 : Unit := ()
def tw15201941958701802209 : Unit := ()
def tw6215475111685085747 : Unit := ()
def tw9465851886629437109 : Unit := ()
def tw3567598464825942724 : Unit := ()
def tw13809886767668147286 : Unit := ()
def tw13386623981856517044 : Unit := ()
def tw9365963901355563569 : Unit := ()
def tw17681672370392172536 : Unit := ()
def tw3484589119754605054 : Unit := ()
def tw9271548382930551427 : Unit := ()
def tw9853761121451213786 : Unit := ()
def tw8185991361578690760 : Unit := ()
def tw4184217628340594424 : Unit := ()
def tw2629146854576412217 : Unit := ()
def tw7675148911998564036 : Unit := ()
def tw8470478700835291729 : Unit := ()
def tw3700204957249236454 : Unit := ()
def tw374095287026010331 : Unit := ()
def tw9636982791283869260 : Unit := ()
def tw9810988998071666322 : Unit := ()
def tw3459077602345860634 : Unit := ()
def tw15795899472941819001 : Unit := ()
def tw957829298587867766 : Unit := ()
def tw17425223009070930139 : Unit := ()
def tw18065702128889343628 : Unit := ()
def tw13865140377729763615 : Unit := ()
def tw18207993875455527255 : Unit := ()
def tw1824569552631044212 : Unit := ()
def tw4300598791900247438 : Unit := ()
def tw17536268548025925795 : Unit := ()
def tw8348448556182028659 : Unit := ()
def tw15007884879499993297 : Unit := ()
def tw6577777947755243972 : Unit := ()
def tw13647840207630739440 : Unit := ()
def tw16721744807752467365 : Unit := ()
def tw3735028946752752935 : Unit := ()
def tw10461155412643468923 : Unit := ()
def tw14594929789344852405 : Unit := ()
def tw15375385590302329594 : Unit := ()
def tw9974200614800058626 : Unit := ()
def tw1555668470558112191 : Unit := ()
def tw8658684502815188370 : Unit := ()
def tw2595673657761651934 : Unit := ()
def tw16995149744109686633 : Unit := ()
def tw7696273825637223717 : Unit := ()
def tw13511895025716762632 : Unit := ()
def tw5194333598536260417 : Unit := ()
def tw8746079644136308804 : Unit := ()
def tw17882346588952508086 : Unit := ()
def tw1704207111737002465 : Unit := ()
def tw16119306258544917797 : Unit := ()
def tw1776947877968192284 : Unit := ()
def tw8025995239910162232 : Unit := ()
def tw147159158228722598 : Unit := ()
def tw2476917806630754287 : Unit := ()
def tw13057084961585852997 : Unit := ()
def tw5274657614392564388 : Unit := ()
def tw8391492098280536123 : Unit := ()
def tw15316740145778972865 : Unit := ()
def tw16628752354362526947 : Unit := ()
def tw9381898386708824232 : Unit := ()
def tw14251426394664155653 : Unit := ()
def tw15127829859746610706 : Unit := ()
def tw8826214185466891303 : Unit := ()
def tw1716047427278937701 : Unit := ()
def tw2064397100369283212 : Unit := ()
def tw13823182996010210674 : Unit := ()
def tw7639824143181426069 : Unit := ()
def tw12151513223446981731 : Unit := ()
def tw7737588984240877958 : Unit := ()
def tw8448935718285062791 : Unit := ()
def tw10721510756762898538 : Unit := ()
def tw16751624496952534106 : Unit := ()
def tw9563582885833597594 : Unit := ()
def tw2783820043167117587 : Unit := ()
def tw1612625015401271255 : Unit := ()
def tw14327805479012074433 : Unit := ()
def tw1077547160593300023 : Unit := ()
def tw14549301148930453355 : Unit := ()
def tw9594014972748562761 : Unit := ()
def tw4715090912754504295 : Unit := ()
def tw1038972915669915191 : Unit := ()
def tw15465408871431444514 : Unit := ()
def tw14696830597668637798 : Unit := ()
def tw9573988329928303686 : Unit := ()
def tw1131422455436314264 : Unit := ()
def tw12154756190836582008 : Unit := ()
def tw17712935630810875798 : Unit := ()
def tw7809171023214518486 : Unit := ()
def tw11945965892312589170 : Unit := ()
def tw7071011919742721234 : Unit := ()
def tw2760831530037264314 : Unit := ()
def tw11094755855437004387 : Unit := ()
def tw8232946770209843233 : Unit := ()
def tw14404476140975263690 : Unit := ()
def tw161850274374030891 : Unit := ()
def tw17899837119764371732 : Unit := ()
def tw14843173267732606678 : Unit := ()
end PySem.W.Fast
namespace Mr
open PySem L2
theorem all_mk {l : PySem.W.OpenLaw} {w : World} {K : PySem.W.Frag} {mg : Str → Option Value} {fa : Addr} {tM : Tok} {tL : Tok} {tF : Tok} {tMF : Tok} {tMM : Tok} (hfa : mg "law" = some (.ref fa))
    (a_is_whole : At K mg "is_whole" sWhole ["thing"])
    (a_is_row : At K mg "is_row" sIsRow ["thing"])
    (a_need_row : At K mg "need_row" sNeedRow ["thing"])
    (a_reaches : At K mg "reaches" s_reaches ["row"])
    (a_reach_around : At K mg "reach_around" s_reach_around ["row", "middle"])
    (a_ends_ahead : At K mg "ends_ahead" s_ends_ahead ["told", "behind"])
    (a_ends_by_place : At K mg "ends_by_place" s_ends_by_place ["row"])
    (a_cuts_by_last : At K mg "cuts_by_last" s_cuts_by_last ["many", "behind", "lengths"])
    (a_cuts_of : At K mg "cuts_of" s_cuts_of ["row", "count"])
    (a_text_or_none : At K mg "text_or_none" s_text_or_none ["text"])
    (a_tell_row : At K mg "tell_row" s_tell_row ["row"])
    (a_is_number : At K mg "is_number" s_is_number ["word"])
    (a_with_added : At K mg "with_added" s_with_added ["row", "more"])
    (a_with_taken : At K mg "with_taken" s_with_taken ["row", "many"])
    (a_row_behind : At K mg "row_behind" s_row_behind ["row", "words"])
    (a_answer_to : At K mg "answer_to" s_answer_to ["row", "words"])
    (a_law_box : At K mg "_law_box" sBox ["_law_script", "_law_k"])
    (a_law_take : At K mg "_law_take" sTake ["_law_box_here", "_law_many"])
    (a_law_odd : At K mg "_law_odd" sOdd ["_law_box_here"])
    (a_law_row : At K mg "_law_row" sRow ["_law_box_here", "_law_most"])
    (a_law_classes : At K mg "_law_classes" s_law_classes ["_law_e"])
    (a_law_only : At K mg "_law_only" s_law_only ["_law_e", "_law_place"])
    (a_law_said : At K mg "_law_said" s_law_said ["_law_desk", "_law_line"])
    (a_law_bent : At K mg "_law_bent" s_law_bent ["_law_box_here", "_law_line"])
    (a_law_is_line : At K mg "_law_is_line" s_law_is_line ["_law_line"])
    (a_law : At K mg "law" sLaw ["_law_script"])
    (hM : mg "MOST_SIGNS" = some (.int 200 tM))
    (hL : mg "LETTERS" = some (.str (tx lets) tL))
    (hF : mg "FIGURES" = some (.str (tx figs) tF))
    (hMF : mg "MOST_FIGURES" = some (.int 4 tMF))
    (hMM : mg "MOST_MENDED" = some (.int 60 tMM))
    {aA : Addr} {kvs : List (Key × V)} (hA : mg "ASKED" = some (.ref aA)) (kA : TopW l.prog w K aA kvs)
    (kN : ∀ a : List Nat, a ∉ asked13 → valV kvs (Sum.inr (tx a)) = none)
    {p_tell_row : Addr} (v_tell_row : valV kvs (Sum.inr (tx wRow)) = some (.ref p_tell_row)) (h_tell_row : mg "tell_row" = some (.ref p_tell_row))
    (z_len : mg "len" = none)
    (z_range : mg "range" = none)
    (z_divmod : mg "divmod" = none)
    (z_isinstance : mg "isinstance" = none)
    (z_bool : mg "bool" = none)
    (z_str : mg "str" = none)
    (z_all : mg "all" = none)
    (z_max : mg "max" = none)
    (z_min : mg "min" = none)
    (z_int : mg "int" = none)
    (z_sum : mg "sum" = none)
    (z_ValueError : mg "ValueError" = none)
    {R c0 c1 c2 c3 c4 c5 c6 c7 c8 c9 c10 c11 : Addr} (er : Errs12 K mg R c0 c1 c2 c3 c4 c5 c6 c7 c8 c9 c10 c11) (e_2 : Er K mg "TooLong" c2) (xm_2 : PySem.W.exmOne K (.ref c2) (.ref R) = some true) (rs_2 : Rsd K R [c0, c1, c2, c3, c4, c5, c6, c7, c8, c9, c10, c11] 2 c2) (e_3 : Er K mg "TooMany" c3) (xm_3 : PySem.W.exmOne K (.ref c3) (.ref R) = some true) (rs_3 : Rsd K R [c0, c1, c2, c3, c4, c5, c6, c7, c8, c9, c10, c11] 3 c3) (e_5 : Er K mg "NoLine" c5) (xm_5 : PySem.W.exmOne K (.ref c5) (.ref R) = some true) (rs_5 : Rsd K R [c0, c1, c2, c3, c4, c5, c6, c7, c8, c9, c10, c11] 5 c5) (e_6 : Er K mg "Bare" c6) (xm_6 : PySem.W.exmOne K (.ref c6) (.ref R) = some true) (rs_6 : Rsd K R [c0, c1, c2, c3, c4, c5, c6, c7, c8, c9, c10, c11] 6 c6)
    {C_Desk : Addr} (aC_Desk : mg "Desk" = some (.ref C_Desk)) (cl_Desk : Cls K C_Desk) (mk_Desk : PySem.W.makesIn K C_Desk = true) (kc_Desk : PySem.W.keepIn K (.ref C_Desk) = true) (na_Desk_kept : NoAttr K C_Desk "kept")
    (m_Desk_init : AtM K C_Desk "__init__" "Desk.__init__" s_Desk_init ["self"])
    (m_Desk_say : AtM K C_Desk "say" "Desk.say" s_Desk_say ["self", "line"])
    : ∃ fd : FuncData, (∀ (s : Shared) (v : Value), BindsTo s fd ⟨[v], []⟩ [("_law_script", v)]) ∧ ∀ base : Heap, K.In base → base.Ns mainGlobals mg → FnOk l.prog w K mg base CX0 12 fa fd ["_law_script"] (spLaw K) := by
  obtain ⟨f, fd, F, hm, hb⟩ := a_law.ex
  have e := hfa.symm.trans hm
  cases e
  refine ⟨fd, fun s v => .of_eq (hb [v] rfl), fun base _ _ => ?_⟩
  have T_Desk : ClD K mg C_Desk := ⟨cl_Desk, na_Desk_kept, aC_Desk⟩
  have dIR := ok_isrow (P := l.prog) (w := w) (base := base) a_is_row z_isinstance z_str z_len z_all hM hL
  have dN := ok_need a_need_row dIR
  have dWh := ok_whole (P := l.prog) (w := w) (base := base) a_is_whole z_isinstance z_int z_bool
  have d_ra := ok_reach_around (P := l.prog) (w := w) (base := base) a_reach_around z_len
  have d_reaches := ok_reaches a_reaches dN d_ra z_len z_range
  have d_ea := ok_ends_ahead (P := l.prog) (w := w) (base := base) a_ends_ahead z_range
  have d_ebp := ok_ebp a_ends_by_place d_reaches d_ea z_len z_range
  have dTake := ok_take4 (P := l.prog) (w := w) (base := base) a_law_take z_divmod
  have dBox := ok_box4 (P := l.prog) (w := w) (base := base) a_law_box z_len z_range
  have dRow := ok_row4 a_law_row dTake z_len z_range
  have dTON := ok_ton (P := l.prog) (w := w) (base := base) a_text_or_none
  have t_row := ok_tell_row a_tell_row dTON
  have q_row : Ask1 l.prog w K mg base 8 kvs wRow fRow := ⟨_, v_tell_row, ((t_row.imp (sp' := spTellT fRow 12) imp_row).mono (by decide : 2 ≤ 8)).knf h_tell_row⟩
  have d_cbl := ok_cbl (P := l.prog) (w := w) (base := base) a_cuts_by_last z_sum
  have d_cof := ok_cuts_of a_cuts_of d_ebp dWh d_cbl z_len z_range
  have dNum := ok_isnum (P := l.prog) (w := w) (base := base) a_is_number z_all z_len hF hMF
  have dWA := ok_wa (P := l.prog) (w := w) (base := base) a_with_added e_3 z_len hM
  have dWT := ok_wt (P := l.prog) (w := w) (base := base) a_with_taken e_6 z_len
  have dRB := ok_rb2 a_row_behind dWT dNum dIR dWA z_int z_len
  have dAns := ok_ans2 (P := l.prog) (w := w) (base := base) a_answer_to hA kA e_5 d_cof dNum z_int z_len z_str
  have d_Desk := ok_dinit (P := l.prog) (w := w) (base := base) m_Desk_init T_Desk mk_Desk kc_Desk
  have m_say := ok_say2 m_Desk_say T_Desk e_5 dRB dAns z_isinstance z_len z_str
  have dCl := ok_classes (P := l.prog) (w := w) (base := base) a_law_classes er z_isinstance
  have dO := ok_only a_law_only er dCl z_isinstance z_ValueError z_range
  have dSaid := ok_said2 a_law_said T_Desk er dO rs_3 xm_3 rs_5 xm_5 rs_2 xm_2 rs_6 xm_6 m_say z_range
  have m_say0 := m_say.mt (sp' := spSayN l.prog w K mg base 8 kvs C_Desk c6 c3 c5) fun vs H Q E h => h
  have dOdd := ok_odd84 a_law_odd dTake
  have dIL := ok_isline (P := l.prog) (w := w) (base := base) a_law_is_line z_isinstance z_len z_str
  have dBent := ok_bent84 a_law_bent dTake z_len
  exact ok_law F T_Desk d_Desk m_say0 kN q_row dSaid dBox dRow dBent dTake dOdd dIL z_len z_max z_min z_range
theorem walk {l : PySem.W.OpenLaw} {q : Program} {loose : List Str} {XP : (Str → Option Value) → Heap → Prop} {YP : World → Heap → Prop} {d : DefRec} {K : Params → PySem.W.Frag} (hn : l.most = some 63) (hdf : d.params.defaults = [])
    (hY : ∀ (w : World) (h : Heap), YP w h → (K w.params).In h)
    (F : ∀ (w : World) (mg : Str → Option Value) (fa : Addr) (h : Heap), (K w.params).In h → h.Ns mainGlobals mg → mg d.name = some (.ref fa) →
      ∃ fd : FuncData, (∀ (s : Shared) (u : Value), BindsTo s fd ⟨[u], []⟩ [("_law_script", u)]) ∧ ∀ base : Heap, (K w.params).In base → base.Ns mainGlobals mg → FnOk l.prog w (K w.params) mg base CX0 12 fa fd ["_law_script"] (spLaw (K w.params))) :
    PySem.W.WalkO q loose XP YP l.row.toRowW d [] (fun f vs => PySem.call f vs) :=
  L2.walk_of (n := 63) (k := 12) (x := "_law_script") (CX := fun _ => CX0) (sp := fun w => spLaw (K w.params)) hn (by decide) hdf ⟨rfl, by decide, by decide⟩ hY F (fun _ _ a ns hl _ hS => ⟨a, ns, rfl, hS, hl, fun _ => rfl⟩) fun _ _ _ _ _ z => z
theorem us1 {us : List Value} (hl : us.length = 1) : ∃ x0, us = [x0] := by
  rcases us with _ | ⟨x0, _ | ⟨w, t⟩⟩
  all_goals first
    | exact ⟨_, rfl⟩
    | cases hl
theorem us2 {us : List Value} (hl : us.length = 2) : ∃ x0 x1, us = [x0, x1] := by
  rcases us with _ | ⟨x0, _ | ⟨x1, _ | ⟨w, t⟩⟩⟩
  all_goals first
    | exact ⟨_, _, rfl⟩
    | cases hl
theorem us3 {us : List Value} (hl : us.length = 3) : ∃ x0 x1 x2, us = [x0, x1, x2] := by
  rcases us with _ | ⟨x0, _ | ⟨x1, _ | ⟨x2, _ | ⟨w, t⟩⟩⟩⟩
  all_goals first
    | exact ⟨_, _, _, rfl⟩
    | cases hl
end Mr
open PySem PySem.W PyProof.Rows
set_option maxRecDepth 100000 in
set_option maxHeartbeats 0 in
theorem PySem.Challenge.cw_mirrorruns_k84_no_lines_holds : PySem.Challenge.rw_mirrorruns_k84_no_lines.Holds := by
  w_on; o_law; k_head; (case hw => w_witness2)
  k_fill
  refine Mr.walk (l := PySem.Challenge.rw_mirrorruns_k84_no_lines) rfl rfl (fun w h Y => PySem.W.kIn_of Y) ?F
  case F =>
    intro w mg fa h KX G hmg
    refine' Mr.all_mk hmg ?a_is_whole ?a_is_row ?a_need_row ?a_reaches ?a_reach_around ?a_ends_ahead ?a_ends_by_place ?a_cuts_by_last ?a_cuts_of ?a_text_or_none ?a_tell_row ?a_is_number ?a_with_added ?a_with_taken ?a_row_behind ?a_answer_to ?a_law_box ?a_law_take ?a_law_odd ?a_law_row ?a_law_classes ?a_law_only ?a_law_said ?a_law_bent ?a_law_is_line ?a_law ?hM ?hL ?hF ?hMF ?hMM ?hA ?kA ?kN ?v_tell_row ?h_tell_row ?z_len ?z_range ?z_divmod ?z_isinstance ?z_bool ?z_str ?z_all ?z_max ?z_min ?z_int ?z_sum ?z_ValueError ?er ?e_2 ?xm_2 ?rs_2 ?e_3 ?xm_3 ?rs_3 ?e_5 ?xm_5 ?rs_5 ?e_6 ?xm_6 ?rs_6 ?aC_Desk ?cl_Desk ?mk_Desk ?kc_Desk ?na_Desk_kept ?m_Desk_init ?m_Desk_say
    (case a_is_whole => refine' L2.At.mk' KX G ?a ?l ?c ?k (fun _ _ _ _ _ _ us hl => by obtain ⟨x0, rfl⟩ := Mr.us1 hl; rfl); (case a => k_is); (case l => k_is); (case c => k_is); (case k => k_is))
    (case a_is_row => refine' L2.At.mk' KX G ?a ?l ?c ?k (fun _ _ _ _ _ _ us hl => by obtain ⟨x0, rfl⟩ := Mr.us1 hl; rfl); (case a => k_is); (case l => k_is); (case c => k_is); (case k => k_is))
    (case a_need_row => refine' L2.At.mk' KX G ?a ?l ?c ?k (fun _ _ _ _ _ _ us hl => by obtain ⟨x0, rfl⟩ := Mr.us1 hl; rfl); (case a => k_is); (case l => k_is); (case c => k_is); (case k => k_is))
    (case a_reaches => refine' L2.At.mk' KX G ?a ?l ?c ?k (fun _ _ _ _ _ _ us hl => by obtain ⟨x0, rfl⟩ := Mr.us1 hl; rfl); (case a => k_is); (case l => k_is); (case c => k_is); (case k => k_is))
    (case a_reach_around => refine' L2.At.mk' KX G ?a ?l ?c ?k (fun _ _ _ _ _ _ us hl => by obtain ⟨x0, x1, rfl⟩ := Mr.us2 hl; rfl); (case a => k_is); (case l => k_is); (case c => k_is); (case k => k_is))
    (case a_ends_ahead => refine' L2.At.mk' KX G ?a ?l ?c ?k (fun _ _ _ _ _ _ us hl => by obtain ⟨x0, x1, rfl⟩ := Mr.us2 hl; rfl); (case a => k_is); (case l => k_is); (case c => k_is); (case k => k_is))
    (case a_ends_by_place => refine' L2.At.mk' KX G ?a ?l ?c ?k (fun _ _ _ _ _ _ us hl => by obtain ⟨x0, rfl⟩ := Mr.us1 hl; rfl); (case a => k_is); (case l => k_is); (case c => k_is); (case k => k_is))
    (case a_cuts_by_last => refine' L2.At.mk' KX G ?a ?l ?c ?k (fun _ _ _ _ _ _ us hl => by obtain ⟨x0, x1, x2, rfl⟩ := Mr.us3 hl; rfl); (case a => k_is); (case l => k_is); (case c => k_is); (case k => k_is))
    (case a_cuts_of => refine' L2.At.mk' KX G ?a ?l ?c ?k (fun _ _ _ _ _ _ us hl => by obtain ⟨x0, x1, rfl⟩ := Mr.us2 hl; rfl); (case a => k_is); (case l => k_is); (case c => k_is); (case k => k_is))
    (case a_text_or_none => refine' L2.At.mk' KX G ?a ?l ?c ?k (fun _ _ _ _ _ _ us hl => by obtain ⟨x0, rfl⟩ := Mr.us1 hl; rfl); (case a => k_is); (case l => k_is); (case c => k_is); (case k => k_is))
    (case a_tell_row => refine' L2.At.mk' KX G ?a ?l ?c ?k (fun _ _ _ _ _ _ us hl => by obtain ⟨x0, rfl⟩ := Mr.us1 hl; rfl); (case a => k_is); (case l => k_is); (case c => k_is); (case k => k_is))
    (case a_is_number => refine' L2.At.mk' KX G ?a ?l ?c ?k (fun _ _ _ _ _ _ us hl => by obtain ⟨x0, rfl⟩ := Mr.us1 hl; rfl); (case a => k_is); (case l => k_is); (case c => k_is); (case k => k_is))
    (case a_with_added => refine' L2.At.mk' KX G ?a ?l ?c ?k (fun _ _ _ _ _ _ us hl => by obtain ⟨x0, x1, rfl⟩ := Mr.us2 hl; rfl); (case a => k_is); (case l => k_is); (case c => k_is); (case k => k_is))
    (case a_with_taken => refine' L2.At.mk' KX G ?a ?l ?c ?k (fun _ _ _ _ _ _ us hl => by obtain ⟨x0, x1, rfl⟩ := Mr.us2 hl; rfl); (case a => k_is); (case l => k_is); (case c => k_is); (case k => k_is))
    (case a_row_behind => refine' L2.At.mk' KX G ?a ?l ?c ?k (fun _ _ _ _ _ _ us hl => by obtain ⟨x0, x1, rfl⟩ := Mr.us2 hl; rfl); (case a => k_is); (case l => k_is); (case c => k_is); (case k => k_is))
    (case a_answer_to => refine' L2.At.mk' KX G ?a ?l ?c ?k (fun _ _ _ _ _ _ us hl => by obtain ⟨x0, x1, rfl⟩ := Mr.us2 hl; rfl); (case a => k_is); (case l => k_is); (case c => k_is); (case k => k_is))
    (case a_law_box => refine' L2.At.mk' KX G ?a ?l ?c ?k (fun _ _ _ _ _ _ us hl => by obtain ⟨x0, x1, rfl⟩ := Mr.us2 hl; rfl); (case a => k_is); (case l => k_is); (case c => k_is); (case k => k_is))
    (case a_law_take => refine' L2.At.mk' KX G ?a ?l ?c ?k (fun _ _ _ _ _ _ us hl => by obtain ⟨x0, x1, rfl⟩ := Mr.us2 hl; rfl); (case a => k_is); (case l => k_is); (case c => k_is); (case k => k_is))
    (case a_law_odd => refine' L2.At.mk' KX G ?a ?l ?c ?k (fun _ _ _ _ _ _ us hl => by obtain ⟨x0, rfl⟩ := Mr.us1 hl; rfl); (case a => k_is); (case l => k_is); (case c => k_is); (case k => k_is))
    (case a_law_row => refine' L2.At.mk' KX G ?a ?l ?c ?k (fun _ _ _ _ _ _ us hl => by obtain ⟨x0, x1, rfl⟩ := Mr.us2 hl; rfl); (case a => k_is); (case l => k_is); (case c => k_is); (case k => k_is))
    (case a_law_classes => refine' L2.At.mk' KX G ?a ?l ?c ?k (fun _ _ _ _ _ _ us hl => by obtain ⟨x0, rfl⟩ := Mr.us1 hl; rfl); (case a => k_is); (case l => k_is); (case c => k_is); (case k => k_is))
    (case a_law_only => refine' L2.At.mk' KX G ?a ?l ?c ?k (fun _ _ _ _ _ _ us hl => by obtain ⟨x0, x1, rfl⟩ := Mr.us2 hl; rfl); (case a => k_is); (case l => k_is); (case c => k_is); (case k => k_is))
    (case a_law_said => refine' L2.At.mk' KX G ?a ?l ?c ?k (fun _ _ _ _ _ _ us hl => by obtain ⟨x0, x1, rfl⟩ := Mr.us2 hl; rfl); (case a => k_is); (case l => k_is); (case c => k_is); (case k => k_is))
    (case a_law_bent => refine' L2.At.mk' KX G ?a ?l ?c ?k (fun _ _ _ _ _ _ us hl => by obtain ⟨x0, x1, rfl⟩ := Mr.us2 hl; rfl); (case a => k_is); (case l => k_is); (case c => k_is); (case k => k_is))
    (case a_law_is_line => refine' L2.At.mk' KX G ?a ?l ?c ?k (fun _ _ _ _ _ _ us hl => by obtain ⟨x0, rfl⟩ := Mr.us1 hl; rfl); (case a => k_is); (case l => k_is); (case c => k_is); (case k => k_is))
    (case a_law => refine' L2.At.mk' KX G ?a ?l ?c ?k (fun _ _ _ _ _ _ us hl => by obtain ⟨x0, rfl⟩ := Mr.us1 hl; rfl); (case a => k_is); (case l => k_is); (case c => k_is); (case k => k_is))
    (case hM => exact PySem.W.mg_of KX G (by k_is))
    (case hL => exact (PySem.W.mg_of KX G (by k_is)).trans (congrArg (fun z => some (Value.str z _)) Mr.e_lets))
    (case hF => exact (PySem.W.mg_of KX G (by k_is)).trans (congrArg (fun z => some (Value.str z _)) Mr.e_figs))
    (case hMF => exact PySem.W.mg_of KX G (by k_is))
    (case hMM => exact PySem.W.mg_of KX G (by k_is))
    (case hA => exact PySem.W.mg_of KX G (by k_is))
    (case kA => refine' L2.TopW.of [("row", _, _), ("back", _, _), ("kinds", _, _), ("full", _, _), ("last", _, _), ("tree", _, _), ("longest", _, _), ("fewest", _, _), ("cuts", _, _), ("even", _, _), ("more", _, _), ("behind", _, _), ("ahead", _, _)] ?l ?s ?e ?n; (case l => k_is); (case s => rfl); (case e => rfl); (case n => decide))
    (case kN => exact Mr.asked_none (by decide +kernel))
    (case v_tell_row => exact (Mr.valV_hit Mr.e_row))
    (case h_tell_row => exact PySem.W.mg_of KX G (by k_is))
    (case z_len => exact PySem.W.mg_none_of KX G (by k_is))
    (case z_range => exact PySem.W.mg_none_of KX G (by k_is))
    (case z_divmod => exact PySem.W.mg_none_of KX G (by k_is))
    (case z_isinstance => exact PySem.W.mg_none_of KX G (by k_is))
    (case z_bool => exact PySem.W.mg_none_of KX G (by k_is))
    (case z_str => exact PySem.W.mg_none_of KX G (by k_is))
    (case z_all => exact PySem.W.mg_none_of KX G (by k_is))
    (case z_max => exact PySem.W.mg_none_of KX G (by k_is))
    (case z_min => exact PySem.W.mg_none_of KX G (by k_is))
    (case z_int => exact PySem.W.mg_none_of KX G (by k_is))
    (case z_sum => exact PySem.W.mg_none_of KX G (by k_is))
    (case z_ValueError => exact PySem.W.mg_none_of KX G (by k_is))
    (case er => exact ⟨PySem.W.mg_of KX G (by k_is), PySem.W.mg_of KX G (by k_is), PySem.W.mg_of KX G (by k_is), PySem.W.mg_of KX G (by k_is), PySem.W.mg_of KX G (by k_is), PySem.W.mg_of KX G (by k_is), PySem.W.mg_of KX G (by k_is), PySem.W.mg_of KX G (by k_is), PySem.W.mg_of KX G (by k_is), PySem.W.mg_of KX G (by k_is), PySem.W.mg_of KX G (by k_is), PySem.W.mg_of KX G (by k_is), PySem.W.mg_of KX G (by k_is)⟩)
    (case e_2 => exact ⟨PySem.W.mg_of KX G (by k_is), by k_exc⟩)
    (case xm_2 => kts_exm)
    (case rs_2 => exact ⟨by decide, ⟨by k_is, by k_is, by k_is, by k_is, by k_is, _, _, _, _, by k_is⟩, (by kit_is), (by kit_is), (by intro j d hj; match j, hj with | 0, hj => (cases hj; show PySem.W.kitOne _ _ _ = some false; kit_is) | 1, hj => (cases hj; show PySem.W.kitOne _ _ _ = some false; kit_is) | 2, hj => (cases hj; show PySem.W.kitOne _ _ _ = some true; kit_is) | 3, hj => (cases hj; show PySem.W.kitOne _ _ _ = some false; kit_is) | 4, hj => (cases hj; show PySem.W.kitOne _ _ _ = some false; kit_is) | 5, hj => (cases hj; show PySem.W.kitOne _ _ _ = some false; kit_is) | 6, hj => (cases hj; show PySem.W.kitOne _ _ _ = some false; kit_is) | 7, hj => (cases hj; show PySem.W.kitOne _ _ _ = some false; kit_is) | 8, hj => (cases hj; show PySem.W.kitOne _ _ _ = some false; kit_is) | 9, hj => (cases hj; show PySem.W.kitOne _ _ _ = some false; kit_is) | 10, hj => (cases hj; show PySem.W.kitOne _ _ _ = some false; kit_is) | 11, hj => (cases hj; show PySem.W.kitOne _ _ _ = some false; kit_is) | _ + 12, hj => exact absurd hj (by simp))⟩)
    (case e_3 => exact ⟨PySem.W.mg_of KX G (by k_is), by k_exc⟩)
    (case xm_3 => kts_exm)
    (case rs_3 => exact ⟨by decide, ⟨by k_is, by k_is, by k_is, by k_is, by k_is, _, _, _, _, by k_is⟩, (by kit_is), (by kit_is), (by intro j d hj; match j, hj with | 0, hj => (cases hj; show PySem.W.kitOne _ _ _ = some false; kit_is) | 1, hj => (cases hj; show PySem.W.kitOne _ _ _ = some false; kit_is) | 2, hj => (cases hj; show PySem.W.kitOne _ _ _ = some false; kit_is) | 3, hj => (cases hj; show PySem.W.kitOne _ _ _ = some true; kit_is) | 4, hj => (cases hj; show PySem.W.kitOne _ _ _ = some false; kit_is) | 5, hj => (cases hj; show PySem.W.kitOne _ _ _ = some false; kit_is) | 6, hj => (cases hj; show PySem.W.kitOne _ _ _ = some false; kit_is) | 7, hj => (cases hj; show PySem.W.kitOne _ _ _ = some false; kit_is) | 8, hj => (cases hj; show PySem.W.kitOne _ _ _ = some false; kit_is) | 9, hj => (cases hj; show PySem.W.kitOne _ _ _ = some false; kit_is) | 10, hj => (cases hj; show PySem.W.kitOne _ _ _ = some false; kit_is) | 11, hj => (cases hj; show PySem.W.kitOne _ _ _ = some false; kit_is) | _ + 12, hj => exact absurd hj (by simp))⟩)
    (case e_5 => exact ⟨PySem.W.mg_of KX G (by k_is), by k_exc⟩)
    (case xm_5 => kts_exm)
    (case rs_5 => exact ⟨by decide, ⟨by k_is, by k_is, by k_is, by k_is, by k_is, _, _, _, _, by k_is⟩, (by kit_is), (by kit_is), (by intro j d hj; match j, hj with | 0, hj => (cases hj; show PySem.W.kitOne _ _ _ = some false; kit_is) | 1, hj => (cases hj; show PySem.W.kitOne _ _ _ = some false; kit_is) | 2, hj => (cases hj; show PySem.W.kitOne _ _ _ = some false; kit_is) | 3, hj => (cases hj; show PySem.W.kitOne _ _ _ = some false; kit_is) | 4, hj => (cases hj; show PySem.W.kitOne _ _ _ = some false; kit_is) | 5, hj => (cases hj; show PySem.W.kitOne _ _ _ = some true; kit_is) | 6, hj => (cases hj; show PySem.W.kitOne _ _ _ = some false; kit_is) | 7, hj => (cases hj; show PySem.W.kitOne _ _ _ = some false; kit_is) | 8, hj => (cases hj; show PySem.W.kitOne _ _ _ = some false; kit_is) | 9, hj => (cases hj; show PySem.W.kitOne _ _ _ = some false; kit_is) | 10, hj => (cases hj; show PySem.W.kitOne _ _ _ = some false; kit_is) | 11, hj => (cases hj; show PySem.W.kitOne _ _ _ = some false; kit_is) | _ + 12, hj => exact absurd hj (by simp))⟩)
    (case e_6 => exact ⟨PySem.W.mg_of KX G (by k_is), by k_exc⟩)
    (case xm_6 => kts_exm)
    (case rs_6 => exact ⟨by decide, ⟨by k_is, by k_is, by k_is, by k_is, by k_is, _, _, _, _, by k_is⟩, (by kit_is), (by kit_is), (by intro j d hj; match j, hj with | 0, hj => (cases hj; show PySem.W.kitOne _ _ _ = some false; kit_is) | 1, hj => (cases hj; show PySem.W.kitOne _ _ _ = some false; kit_is) | 2, hj => (cases hj; show PySem.W.kitOne _ _ _ = some false; kit_is) | 3, hj => (cases hj; show PySem.W.kitOne _ _ _ = some false; kit_is) | 4, hj => (cases hj; show PySem.W.kitOne _ _ _ = some false; kit_is) | 5, hj => (cases hj; show PySem.W.kitOne _ _ _ = some false; kit_is) | 6, hj => (cases hj; show PySem.W.kitOne _ _ _ = some true; kit_is) | 7, hj => (cases hj; show PySem.W.kitOne _ _ _ = some false; kit_is) | 8, hj => (cases hj; show PySem.W.kitOne _ _ _ = some false; kit_is) | 9, hj => (cases hj; show PySem.W.kitOne _ _ _ = some false; kit_is) | 10, hj => (cases hj; show PySem.W.kitOne _ _ _ = some false; kit_is) | 11, hj => (cases hj; show PySem.W.kitOne _ _ _ = some false; kit_is) | _ + 12, hj => exact absurd hj (by simp))⟩)
    (case aC_Desk => exact PySem.W.mg_of KX G (by k_is))
    (case cl_Desk => exact ⟨by k_is, by k_is, by k_is, by k_is⟩)
    (case mk_Desk => k_is)
    (case kc_Desk => k_is)
    (case na_Desk_kept => show PySem.W.findIn _ _ _ = some none; k_is)
    (case m_Desk_init => refine' L2.AtM.mk' ?a ?i ?l ?c ?k (fun _ _ _ _ _ _ us hl => by obtain ⟨x0, rfl⟩ := Mr.us1 hl; rfl); (case a => k_is); (case i => k_is); (case l => k_is); (case c => k_is); (case k => k_is))
    (case m_Desk_say => refine' L2.AtM.mk' ?a ?i ?l ?c ?k (fun _ _ _ _ _ _ us hl => by obtain ⟨x0, x1, rfl⟩ := Mr.us2 hl; rfl); (case a => k_is); (case i => k_is); (case l => k_is); (case c => k_is); (case k => k_is))
