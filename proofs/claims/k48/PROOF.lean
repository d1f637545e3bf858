import PyProof.Rows.All
import Wide.All
import OpenK.AllK
import Wide.FinOn
import Lean
import PyProof.EqAt
import PyProof.EqKinds
import PyProof.TupleCall
import PySem.Challenge.RW_mirrorruns_k48_whole_even_cuts
set_option Elab.async false
set_option linter.all false
set_option maxRecDepth 100000
/-! THE HAND LAYER, for ints, bools, texts, own classes, LISTS and tuples (index, slices, in, append, pop ..), calls, loops. Paste it whole ahead of your own text; what your proof does not reach may be deleted. -/
namespace L2
open PySem PySem.Spec PyProof.Rows

/-- a key: an int or a str -/
abbrev Key := Sum Int Str
def keyIs : Key → Value → Bool
  | .inl k, v => Value.isInt k v
  | .inr x, v => Value.isStrOf x v
def keyH (w : World) : Key → Int
  | .inl k => hashInt k
  | .inr x => hashStr w x
theorem keyIs_shape : ∀ {k : Key} {v : Value}, keyIs k v = true → (∃ i t, k = Sum.inl i ∧ v = Value.int i t) ∨ (∃ x t, k = Sum.inr x ∧ v = Value.str x t)
  | .inl i, v, h => by
    obtain ⟨t, e⟩ := Value.isInt_shape (k := i) (v := v) h
    exact .inl ⟨i, t, rfl, e⟩
  | .inr x, v, h => by
    obtain ⟨t, e⟩ := Value.isStrOf_shape (x := x) (v := v) h
    exact .inr ⟨x, t, rfl, e⟩
theorem key_ll (a b : Int) : decide ((Sum.inl a : Key) = Sum.inl b) = (a == b) := by
  by_cases e : a = b
  · subst e; simp
  · have h : ¬ (Sum.inl a : Key) = Sum.inl b := fun q => e (Sum.inl.inj q)
    rw [decide_eq_false h]
    exact (beq_eq_false_iff_ne.mpr e).symm
theorem key_rr (a b : Str) : decide ((Sum.inr a : Key) = Sum.inr b) = decide (a = b) := by
  by_cases e : a = b
  · subst e; simp
  · have h : ¬ (Sum.inr a : Key) = Sum.inr b := fun q => e (Sum.inr.inj q)
    rw [decide_eq_false h, decide_eq_false e]
theorem key_lr (a : Int) (b : Str) : decide ((Sum.inl a : Key) = Sum.inr b) = false := decide_eq_false (fun q => nomatch q)
theorem key_rl (a : Str) (b : Int) : decide ((Sum.inr a : Key) = Sum.inl b) = false := decide_eq_false (fun q => nomatch q)

def mixKind (prog : Program) (w : World) : PySem.KeyKind prog w Key where
  is := keyIs
  hash := keyH w
  inj := fun v a b ha hb => by
    rcases keyIs_shape ha with ⟨i, t, rfl, rfl⟩ | ⟨x, t, rfl, rfl⟩
    · rcases keyIs_shape hb with ⟨j, u, rfl, e⟩ | ⟨y, u, rfl, e⟩
      · injection e with e1 _; rw [e1]
      · exact nomatch e
    · rcases keyIs_shape hb with ⟨j, u, rfl, e⟩ | ⟨y, u, rfl, e⟩
      · exact nomatch e
      · injection e with e1 _; rw [e1]
  byValue := fun k v h => by
    rcases keyIs_shape h with ⟨i, t, rfl, rfl⟩ | ⟨x, t, rfl, rfl⟩ <;> rfl
  pyHash := fun hv h => by
    rcases keyIs_shape hv with ⟨i, t, rfl, rfl⟩ | ⟨x, t, rfl, rfl⟩
    · exact wpAny_pyHash_int h
    · exact wpAny_pyHash_str h
  eqBool := fun hu hv h => by
    rcases keyIs_shape hu with ⟨i, t, rfl, rfl⟩ | ⟨x, t, rfl, rfl⟩
    · rcases keyIs_shape hv with ⟨j, u, rfl, rfl⟩ | ⟨y, u, rfl, rfl⟩
      · rw [key_ll] at h; exact wpAny_eqBool_int h
      · rw [key_lr] at h; exact SeqAt.EqAt.int_str i t y u _ _ _ _ h
    · rcases keyIs_shape hv with ⟨j, u, rfl, rfl⟩ | ⟨y, u, rfl, rfl⟩
      · rw [key_rl] at h; exact SeqAt.EqAt.str_int x t j u _ _ _ _ h
      · rw [key_rr] at h; exact wpAny_eqBool_str h
  «strs» := fun k x t v h => by
    rcases keyIs_shape h with ⟨i, u, rfl, e⟩ | ⟨y, u, rfl, e⟩
    · exact nomatch e
    · injection e with e1 _
      subst e1
      cases v <;> rfl

theorem mixKind_is (prog : Program) (w : World) (k : Key) (v : Value) : (mixKind prog w).is k v = keyIs k v := rfl
end L2

namespace L2
open PySem PySem.Spec PyProof.Rows

/-- a value, without the heap -/
inductive V where
  | non | bl (b : Bool) | int (i : Int) | str (x : Str) | byt (b : Array UInt8) | flt (b : UInt64) | ref (a : Addr) | ty (n : String)
  deriving DecidableEq

def RelV : V → Value → Prop
  | .non, u => u = Value.none
  | .bl b, u => u = Value.bool b
  | .int i, u => ∃ t, u = Value.int i t
  | .str x, u => ∃ t, u = Value.str x t
  | .byt b, u => ∃ t, u = Value.bytes b t
  | .flt b, u => ∃ t, u = Value.float b t
  | .ref a, u => u = Value.ref a
  | .ty n, u => u = Value.type n

abbrev Vals : List V → List Value → Prop := Paired RelV
theorem Vals.length {xs : List V} {us : List Value} (r : Vals xs us) : xs.length = us.length := Paired.length r
theorem Vals.get : ∀ {xs : List V} {us : List Value} {i : Nat} {x : V}, Vals xs us → xs[i]? = some x → ∃ u, us[i]? = some u ∧ RelV x u
  | _, _, _, _, .nil, e => by simp at e
  | _, _, 0, _, .cons r _, e => by simp at e; subst e; exact ⟨_, rfl, r⟩
  | _, _, i + 1, x, .cons _ t, e => by
    obtain ⟨u, h1, h2⟩ := Vals.get (i := i) (x := x) t (by simpa using e)
    exact ⟨u, by simpa using h1, h2⟩
theorem Vals.set {x : V} {u : Value} (r : RelV x u) : ∀ {xs : List V} {us : List Value} (i : Nat), Vals xs us → Vals (xs.set i x) (us.set i u)
  | _, _, _, .nil => .nil
  | _, _, 0, .cons _ t => .cons r t
  | _, _, i + 1, .cons q t => .cons q (Vals.set r i t)
theorem Vals.append : ∀ {xs ys : List V} {us ws : List Value}, Vals xs us → Vals ys ws → Vals (xs ++ ys) (us ++ ws)
  | _, _, _, _, .nil, s => s
  | _, _, _, _, .cons r t, s => .cons r (Vals.append t s)
def RelO : Option V → Option Value → Prop
  | some v, some u => RelV v u
  | none, none => True
  | _, _ => False
def KV {κ : Type} : List (κ × V) → List (κ × Value) → Prop := Paired fun (p : κ × V) (q : κ × Value) => p.1 = q.1 ∧ RelV p.2 q.2

/-- a key of a dict (00_mix): an int or a text -/
def kV : Key → V
  | .inl i => .int i
  | .inr x => .str x

/-- what stands at a tracked address -/
inductive HO where
  /-- a list -/
  | lst (xs : List V)
  /-- a tuple (never changes) -/
  | tup (xs : List V)
  /-- a dict whose keys are ints and texts; one whose keys are tuples of ints and texts (the empty one is both) -/
  | dK (kvs : List (Key × V)) | dT (kvs : List (List Key × V))
  /-- a set of ints: its members, its size -/
  | set (S : Int → Bool) (n : Nat)
  /-- an instance of the class at C, its dict at dx, its attributes -/
  | ins (C dx : Addr) (fs : List (Str × V))
  /-- the dict of the instance at x -/
  | own (x : Addr)
  /-- the dict of an exception -/
  | xd (fs : List (Str × V))
  /-- a bound method, f of x -/
  | met (f x : Addr)
  /-- a range object lo, lo + 1, .. below hi -/
  | rng (lo hi : Int)
  /-- a thing that is known to the object (the script; a dict while a loop walks it): read, never written while it is so -/
  | frz (o : Obj) (u : HO)
  /-- a code object's table -/
  | tbl (ps : Array Value)
  /-- any other thing, by what is true of its one object (a def of one's own: SetO a S n := HO.ext fun h => ..) -/
  | ext (φ : Heap → Prop)

abbrev Hp := Addr → Option HO
def upd (H : Hp) (a : Addr) (o : HO) : Hp := fun b => if b = a then some o else H b
theorem upd_same {H : Hp} {a : Addr} {o : HO} : upd H a o a = some o := by unfold upd; rw [if_pos rfl]
theorem upd_ne {H : Hp} {a b : Addr} {o : HO} (h : b ≠ a) : upd H a o b = H b := by unfold upd; rw [if_neg h]
theorem ne_of_none {H : Hp} {a b : Addr} {o : HO} (h : H a = some o) (h' : H b = none) : a ≠ b := by
  intro e; subst e; rw [h] at h'; cases h'

section
variable (P : Program) (w : World)
def ObjOk (H : Hp) (h : Heap) (a : Addr) : HO → Prop
  | .lst xs => xs.length ≤ sizeLine ∧ ∃ (its : List Value) (n : Nat), Vals xs its ∧ h.get? a = some { cls := .type "list", data := .seq its.toArray n }
  | .tup xs => xs.length ≤ sizeLine ∧ ∃ its : List Value, Vals xs its ∧ IsTup h a its.toArray
  | .dK kvs => kvs.length ≤ sizeLine ∧ (a == sysModules) = false ∧ ∃ vs, KV kvs vs ∧ h.DictOf (mixKind P w) a vs
  | .dT kvs => kvs.length ≤ sizeLine ∧ (a == sysModules) = false ∧ ∃ xs : List (List Key × Addr × Value),
      Paired (fun (p : List Key × V) (q : List Key × Addr × Value) => p.1 = q.1 ∧ H q.2.1 = some (.tup (p.1.map kV)) ∧ RelV p.2 q.2.2) kvs xs ∧
      ∃ o es ep, h.get? a = some o ∧ o.ExactDict ∧ o.data = .dict es ep ∧ es.toList = xs.map (entryOfKey (tupleKind (mixKind P w))) ∧ (xs.map (·.1)).Nodup
  | .set S n => h.SetOf (intKind P w) a S n
  | .ins C dx fs => H dx = some (.own a) ∧ fs.length ≤ 1000 ∧ dx ≠ a ∧ h.get? a = some (PySem.W.instObj C dx) ∧
      ∃ mA, h.Ns1 dx mA ∧ (∀ f, RelO (fs.lookup f) (mA f)) ∧ PySem.Within mA (fs.map (·.1))
  | .own _ => ∃ o, h.get? a = some o
  | .xd fs => ∃ mA, h.Ns1 a mA ∧ ∀ f, RelO (fs.lookup f) (mA f)
  | .rng lo hi => ∃ t u v, h.get? a = some { cls := .type "range", data := .fields #[.int lo t, .int hi u, .int 1 v] }
  | .frz o u => h.get? a = some o ∧ ObjOk H h a u
  | .tbl ps => h.get? a = some { cls := .none, data := .fields ps }
  | .met f x => h.get? a = some (PySem.W.methodObj (.ref f) (.ref x))
  | .ext φ => φ h ∧ (∃ o, h.get? a = some o) ∧ ∀ h1 h2 : Heap, φ h1 → (∀ o, h1.get? a = some o → h2.get? a = some o) → φ h2
/-- the abstract heap is held -/
def HOk (H : Hp) (h : Heap) : Prop := ∀ a o, H a = some o → ObjOk P w H h a o
end

section
variable {P : Program} {w : World} {H H' : Hp} {h h' : Heap} {a : Addr} {o : HO}
theorem ObjOk.lt (x : ObjOk P w H h a o) : a < h.objs.size := by
  cases o with
  | lst xs => obtain ⟨_, _, _, _, e⟩ := x; exact Heap.lt_size e
  | tup xs => obtain ⟨_, _, _, p⟩ := x; exact p.lt
  | dK kvs => obtain ⟨_, _, _, _, o, _, _, e, _⟩ := x; exact Heap.lt_size e
  | dT kvs => obtain ⟨_, _, _, _, o, _, _, e, _⟩ := x; exact Heap.lt_size e
  | set S n => obtain ⟨o, _, _, _, e, _⟩ := x; exact Heap.lt_size e
  | ins C dx fs => obtain ⟨_, _, _, e, _⟩ := x; exact Heap.lt_size e
  | own y => obtain ⟨_, e⟩ := x; exact Heap.lt_size e
  | xd fs => obtain ⟨_, ⟨_, _, _, e, _⟩, _⟩ := x; exact Heap.lt_size e
  | rng lo hi => obtain ⟨_, _, _, e⟩ := x; exact Heap.lt_size e
  | frz ob u => obtain ⟨e, _⟩ := x; exact Heap.lt_size e
  | tbl ps => exact Heap.lt_size (show h.get? a = some _ from x)
  | met f y => exact Heap.lt_size (show h.get? a = some _ from x)
  | ext φ => obtain ⟨_, ⟨_, e⟩, _⟩ := x; exact Heap.lt_size e
theorem Paired.mapP {α β : Type} {F G : α → β → Prop} : ∀ {l₁ : List α} {l₂ : List β}, Paired F l₁ l₂ → (∀ a b, F a b → G a b) → Paired G l₁ l₂
  | _, _, .nil, _ => .nil
  | _, _, .cons r t, f => .cons (f _ _ r) (Paired.mapP t f)
/-- what an object's description leans on: its own object, its own dict, the tuples -/
theorem ObjOk.stay (x : ObjOk P w H h a o) (k : ∀ b u, (b = a ∨ H b = some (.own a)) → h.get? b = some u → h'.get? b = some u)
    (ho : ∀ b, H b = some (.own a) → H' b = some (.own a)) (ht : ∀ b xs, H b = some (.tup xs) → H' b = some (.tup xs)) : ObjOk P w H' h' a o := by
  induction o with
  | lst xs => obtain ⟨z, its, n, r, e⟩ := x; exact ⟨z, its, n, r, k _ _ (.inl rfl) e⟩
  | tup xs => obtain ⟨z, its, r, ob, e, c⟩ := x; exact ⟨z, its, r, ob, k _ _ (.inl rfl) e, c⟩
  | dK kvs => obtain ⟨z, y, vs, r, ob, es, ep, e, c⟩ := x; exact ⟨z, y, vs, r, ob, es, ep, k _ _ (.inl rfl) e, c⟩
  | dT kvs =>
    obtain ⟨z, y, xs, r, ob, es, ep, e, c⟩ := x
    exact ⟨z, y, xs, Paired.mapP r fun p q z => ⟨z.1, ht _ _ z.2.1, z.2.2⟩, ob, es, ep, k _ _ (.inl rfl) e, c⟩
  | set S n => obtain ⟨ob, es, ep, t, e, c⟩ := x; exact ⟨ob, es, ep, t, k _ _ (.inl rfl) e, c⟩
  | ins C dx fs =>
    obtain ⟨d, z, ne, e, mA, ⟨od, es, ep, e2, c⟩, r⟩ := x
    exact ⟨ho _ d, z, ne, k _ _ (.inl rfl) e, mA, ⟨od, es, ep, k _ _ (.inr d) e2, c⟩, r⟩
  | own y => obtain ⟨ob, e⟩ := x; exact ⟨ob, k _ _ (.inl rfl) e⟩
  | xd fs => obtain ⟨mA, ⟨od, es, ep, e, c⟩, r⟩ := x; exact ⟨mA, ⟨od, es, ep, k _ _ (.inl rfl) e, c⟩, r⟩
  | rng lo hi => obtain ⟨t, u, v, e⟩ := x; exact ⟨t, u, v, k _ _ (.inl rfl) e⟩
  | frz ob u ih => obtain ⟨e, q⟩ := x; exact ⟨k _ _ (.inl rfl) e, ih q⟩
  | tbl ps =>
    have e : h.get? a = some { cls := .none, data := .fields ps } := x
    show h'.get? a = some { cls := .none, data := .fields ps }
    exact k a _ (.inl rfl) e
  | met f y =>
    have e : h.get? a = some (PySem.W.methodObj (.ref f) (.ref y)) := x
    show h'.get? a = some (PySem.W.methodObj (.ref f) (.ref y))
    exact k a _ (.inl rfl) e
  | ext φ => obtain ⟨p, ⟨o, e⟩, st⟩ := x; exact ⟨st _ _ p fun o q => k _ _ (.inl rfl) q, ⟨o, k _ _ (.inl rfl) e⟩, st⟩
theorem HOk.lt (x : HOk P w H h) (e : H a = some o) : a < h.objs.size := (x a o e).lt
theorem HOk.fresh (x : HOk P w H h) (e : h.objs.size ≤ a) : H a = none := by
  cases q : H a with
  | none => rfl
  | some u => exact absurd (Nat.lt_of_lt_of_le (x.lt q) e) (Nat.lt_irrefl _)
/-- every object of the heap is kept -/
theorem HOk.kept (x : HOk P w H h) (k : ∀ b u, h.get? b = some u → h'.get? b = some u) : HOk P w H h' := fun a o e =>
  (x a o e).stay (fun b u _ q => k b u q) (fun _ q => q) fun _ _ q => q
/-- a new object is laid and tracked -/
theorem HOk.laid (x : HOk P w H h) (k : ∀ b u, h.get? b = some u → h'.get? b = some u) (hp : h.objs.size ≤ a) (new : ObjOk P w (upd H a o) h' a o) : HOk P w (upd H a o) h' := fun b u e => by
  have hn := x.fresh hp
  by_cases hb : b = a
  · subst hb; rw [upd_same] at e; cases e; exact new
  · rw [upd_ne hb] at e
    exact (x b u e).stay (fun c v _ q => k c v q) (fun c q => by rw [upd_ne (ne_of_none q hn)]; exact q) fun c xs q => by rw [upd_ne (ne_of_none q hn)]; exact q
end

/-- what may be read as u: it is u, or a known u -/
def Rd (H : Hp) (a : Addr) (u : HO) : Prop := H a = some u ∨ ∃ o, H a = some (.frz o u)
theorem Rd.ok {P : Program} {w : World} {H : Hp} {h : Heap} {a : Addr} {u : HO} (r : Rd H a u) (x : HOk P w H h) : ObjOk P w H h a u := by
  rcases r with r | ⟨o, r⟩
  · exact x a u r
  · obtain ⟨_, q⟩ := x a _ r
    exact q
/-- what may be written -/
def Mut : Option HO → Prop
  | some (.lst _) => True
  | some (.dK _) => True
  | some (.dT _) => True
  | some (.set _ _) => True
  | some (.ins _ _ _) => True
  | some (.ext _) => True
  | _ => False
section
variable {P : Program} {w : World} {H : Hp} {h h' : Heap} {x e : Addr} {o' : HO}
/-- the object at e is changed: x itself, or the dict of the instance x -/
theorem HOk.write (ok : HOk P w H h) (mu : Mut (H x)) (he : e = x ∨ H e = some (.own x)) (k : ∀ b u, b ≠ e → h.get? b = some u → h'.get? b = some u) (heo : ∃ u, h'.get? e = some u)
    (new : ObjOk P w (upd H x o') h' x o') : HOk P w (upd H x o') h' := fun b u q => by
  have nown : ∀ c y, H c = some (.own y) → c ≠ x := fun c y r z => by subst z; rw [r] at mu; exact mu
  have ntup : ∀ c xs, H c = some (.tup xs) → c ≠ x := fun c xs r z => by subst z; rw [r] at mu; exact mu
  by_cases hb : b = x
  · subst hb; rw [upd_same] at q; cases q; exact new
  · rw [upd_ne hb] at q
    by_cases hbe : b = e
    · have q' : H b = some (.own x) := by
        rcases he with z | z
        · exact absurd (hbe.trans z) hb
        · rw [hbe]; exact z
      rw [q] at q'; cases q'
      obtain ⟨v, hv⟩ := heo
      exact ⟨v, by rw [hbe]; exact hv⟩
    · refine (ok b u q).stay (fun c v hc r => k c v ?_ r) (fun c r => by rw [upd_ne (nown c b r)]; exact r) fun c xs r => by rw [upd_ne (ntup c xs r)]; exact r
      rcases hc with rfl | hc
      · exact hbe
      · rintro rfl
        rcases he with z | z
        · exact nown c b hc z
        · rw [hc] at z; cases z; exact hb rfl
end

/-! ### kept unless tracked; of the frames at fs (the callers') the slots may change (an exception that passes writes there); of the records at ex (iterators) nothing is said -/
structure Un (fs ex : List Addr) (H H' : Hp) (h h' : Heap) : Prop where
  keep : ∀ b o, h.get? b = some o → H b = none → b ∉ fs → b ∉ ex → h'.get? b = some o
  slot : ∀ b o, h.get? b = some o → H b = none → b ∈ fs → b ∉ ex → ∃ sl, h'.get? b = some { o with slots := sl }
  free : ∀ b o, h.get? b = some o → H b = none → b ∉ ex → H' b = none
  there : ∀ b o, h.get? b = some o → b ∉ ex → ∃ o', h'.get? b = some o'
  tups : ∀ b xs, H b = some (.tup xs) → H' b = some (.tup xs)
  frzs : ∀ b o u, H b = some (.frz o u) → H' b = some (.frz o u)
  tbls : ∀ b ps, H b = some (.tbl ps) → ∃ more, H' b = some (.tbl (ps ++ more))
section
variable {fs fs' ex ex' : List Addr} {H H1 H2 : Hp} {h h1 h2 h' : Heap} {a x e : Addr} {o : HO}
theorem Un.any (u : Un fs ex H H1 h h1) {b : Addr} {ob : Obj} (q : h.get? b = some ob) (n : H b = none) (hx : b ∉ ex) : ∃ sl, h1.get? b = some { ob with slots := sl } := by
  by_cases hb : b ∈ fs
  · exact u.slot b ob q n hb hx
  · exact ⟨ob.slots, u.keep b ob q n hb hx⟩
theorem Un.kept (k : ∀ b u, h.get? b = some u → h'.get? b = some u) : Un fs ex H H h h' :=
  ⟨fun b ob q _ _ _ => k b ob q, fun b ob q _ _ _ => ⟨ob.slots, k b ob q⟩, fun _ _ _ n _ => n, fun b ob q _ => ⟨ob, k b ob q⟩, fun _ _ q => q, fun _ _ _ q => q, fun _ ps q => ⟨#[], by rw [q]; simp⟩⟩
theorem Un.refl : Un fs ex H H h h := Un.kept fun _ _ q => q
theorem Un.laid (k : ∀ b u, h.get? b = some u → h'.get? b = some u) (hp : h.objs.size ≤ a) (hn : H a = none) : Un fs ex H (upd H a o) h h' where
  keep := fun b u q _ _ _ => k b u q
  slot := fun b u q _ _ _ => ⟨u.slots, k b u q⟩
  free := fun b u q n _ => by rw [upd_ne (Nat.ne_of_lt (Nat.lt_of_lt_of_le (Heap.lt_size q) hp))]; exact n
  there := fun b u q _ => ⟨u, k b u q⟩
  tups := fun b xs q => by rw [upd_ne (ne_of_none q hn)]; exact q
  frzs := fun b u xs q => by rw [upd_ne (ne_of_none q hn)]; exact q
  tbls := fun b ps q => ⟨#[], by rw [upd_ne (ne_of_none q hn), q]; simp⟩
theorem Un.write (mu : Mut (H x)) (he : e = x ∨ H e = some (.own x)) (k : ∀ b u, b ≠ e → h.get? b = some u → h'.get? b = some u) (heo : ∃ u, h'.get? e = some u) : Un fs ex H (upd H x o) h h' := by
  have hx : ∀ b, H b = none → b ≠ x := fun b n z => by subst z; rw [n] at mu; exact mu
  have hb : ∀ b, H b = none → b ≠ e := fun b n z => by
    subst z
    rcases he with r | r
    · exact hx b n r
    · rw [n] at r; cases r
  have hm : ∀ b u, H b = some u → ¬ Mut (some u) → b ≠ x := fun b u q nm z => by subst z; rw [q] at mu; exact nm mu
  refine ⟨fun b u q n _ _ => k b u (hb b n) q, fun b u q n _ _ => ⟨u.slots, k b u (hb b n) q⟩, fun b u q n _ => by rw [upd_ne (hx b n)]; exact n, fun b u q _ => ?_,
    fun b xs q => by rw [upd_ne (hm b _ q fun z => z)]; exact q, fun b u xs q => by rw [upd_ne (hm b _ q fun z => z)]; exact q, fun b ps q => ⟨#[], by rw [upd_ne (hm b _ q fun z => z), q]; simp⟩⟩
  by_cases hbe : b = e
  · subst hbe; exact heo
  · exact ⟨u, k b u hbe q⟩
end

/-! ### the heap without what is tracked -/
def trk (h : Heap) (H : Hp) : List Addr := (List.range h.objs.size).filter fun a => (H a).isSome
def hidT (h : Heap) (H : Hp) : Heap := PySem.W.hideAll h (trk h H)
theorem hidT_size (h : Heap) (H : Hp) : (hidT h H).objs.size = h.objs.size := PySem.W.hideAll_size _ _
theorem hidT_get {h : Heap} {H : Hp} {b : Addr} {o : Obj} (e : h.get? b = some o) (n : H b = none) : (hidT h H).get? b = some o :=
  PySem.W.hideAll_get _ e fun hm => by
    have q : (H b).isSome = true := (List.mem_filter.mp hm).2
    rw [n] at q; simp at q
theorem of_hidT {h : Heap} {H : Hp} {b : Addr} {o : Obj} (e : (hidT h H).get? b = some o) : h.get? b = some o ∧ H b = none := by
  have e' : h.get? b = some o := PySem.W.of_hideAll (trk h H) e
  refine ⟨e', ?_⟩
  cases q : H b with
  | none => rfl
  | some x =>
    have hm : b ∈ trk h H := List.mem_filter.mpr ⟨List.mem_range.mpr (Heap.lt_size e'), by simp [q]⟩
    have z : (hidT h H).get? b = none := PySem.W.hideAll_none (trk h H) hm
    rw [z] at e; cases e

/-! ### OpenK's ledger, filled with every new object but one -/
def allNews (g h : Heap) (L : Addr) : List (Addr × Obj) := (List.range h.objs.size).filterMap fun a => if a = L ∨ (g.get? a).isSome = true then none else (h.get? a).map fun o => (a, o)
def rest (g h : Heap) (L d : Addr) : List (Addr × Obj) := (allNews g h L).filter fun p => decide (p.1 ≠ d)
end L2

namespace L2
open PySem PySem.Spec PyProof.Rows

/-- the module's facts, over the base: the heap at the law's entry without what is tracked there -/
structure Mod (K : PySem.W.Frag) (mg : Str → Option Value) (base : Heap) : Prop where
  kin : K.In base
  glob : base.Ns mainGlobals mg
  blt : ∃ mb, base.Ns builtinsNs mb ∧ ∀ x : Str, x ≠ "__name__" → mb x = bootBuiltins x
  nolimit : base.NoLimit

/-- the context: a def's body (or a comprehension's block) running. base: fixed through the whole law; s₀, H₀: the entry; outer: the frames whose slots others may change (a def's callers); stack: all frames that run;
   ex: iterators that were made ahead of the entry and are walked here (a comprehension's); fn: the names whose cells were made at the entry (a def: all; a comprehension's block: its own); calm: not within an except suite; pn: pins that every state bears; xe: what is wanted of an exception that leaves the code -/
structure Cx where
  prog : Program
  w : World
  K : PySem.W.Frag
  mg : Str → Option Value
  base : Heap
  A : Around
  N : List Str
  s₀ : Shared
  H₀ : Hp
  env : Env
  outer : List Env
  stack : List Env
  ex : List Addr
  fn : Str → Bool
  calm : Bool
  pn : List (Addr × Obj)
  xe : Value → Shared → Prop
/-- the callers' frames -/
def frs (l : List Env) : List Addr := l.filterMap (·.frame)
abbrev Cx.fs (X : Cx) : List Addr := frs X.outer

def Vis (sc : Scope) (x : Str) : Prop := sc.names.lookup x = some .local ∨ sc.names.lookup x = some .cell ∨ sc.names.lookup x = some .free
def Loc (sc : Scope) (x : Str) : Prop := sc.names.lookup x = some .local ∨ sc.names.lookup x = some .cell
def Look (env : Env) (h : Heap) (m : Str → Option Value) (x : Str) (u : Value) : Prop :=
  (env.kindOf x = some .local ∧ m x = some u) ∨ ((env.kindOf x = some .cell ∨ env.kindOf x = some .free) ∧ ∃ c, env.cells.lookup x = some c ∧ h.IsCell c (some u))

structure Cx.Ok (X : Cx) : Prop where
  mod : Mod X.K X.mg X.base
  kind : X.env.scope.kind = .function
  glob : X.env.globals = mainGlobals
  blt : X.env.builtins = builtinsNs
  above : X.s₀.heap.objs.size ≤ X.env.locals
  inj : ∀ x y c, X.env.cells.lookup x = some c → X.env.cells.lookup y = some c → x = y
  has : ∀ x, (X.env.kindOf x = some .cell ∨ X.env.kindOf x = some .free) → ∃ c, X.env.cells.lookup x = some c
  cab : ∀ x c, X.fn x = true → X.env.cells.lookup x = some c → X.s₀.heap.objs.size ≤ c
  hd : X.calm = true → X.A.handled = none
  frames : X.A.frames = some X.stack
  stk : X.stack = X.outer ∨ (X.stack = X.env :: X.outer ∧ X.env.frame = some X.env.locals)
  exf : ∀ b ∈ X.ex, b ≠ X.env.locals ∧ ∀ x c, X.env.cells.lookup x = some c → c ≠ b
  bs : ∀ b o, X.base.get? b = some o → X.s₀.heap.get? b = some o ∧ X.H₀ b = none
  bsz : X.base.objs.size ≤ X.s₀.heap.objs.size
  noex : ∀ b o, X.base.get? b = some o → b ∉ X.ex
  exfs : ∀ b ∈ X.ex, b ∉ X.fs
  funs : X.s₀.heap.FunFrames X.base X.outer
  frf : ∀ b ∈ X.fs, X.H₀ b = none

structure Inv (X : Cx) (pins : List (Addr × Obj)) (σ : List (Option V)) (H : Hp) (s : Shared) : Prop where
  ok : X.Ok
  os : s.os = X.s₀.os
  bare : AllBare s.gens
  base : Un X.fs X.ex X.H₀ H X.s₀.heap s.heap
  loc : ∃ m, s.heap.Ns X.env.locals m ∧ ∀ (i : Nat) (x : Str) (v : V), X.N[i]? = some x → σ[i]? = some (some v) → Vis X.env.scope x → ∃ u, RelV v u ∧ Look X.env s.heap m x u
  cell : ∀ x c, X.env.cells.lookup x = some c → ∃ v, s.heap.IsCell c v
  free : H X.env.locals = none
  freeC : ∀ x c, X.env.cells.lookup x = some c → H c = none
  pin : ∀ p ∈ X.pn ++ pins, s.heap.get? p.1 = some p.2 ∧ H p.1 = none ∧ p.1 ≠ X.env.locals ∧ p.1 ∉ X.fs ∧ ∀ v, p.2.data ≠ .cell v
  hok : HOk X.prog X.w H s.heap
  len : σ.length = X.N.length

section
variable {X : Cx} {pins : List (Addr × Obj)} {σ : List (Option V)} {H H' : Hp} {s : Shared} {h' : Heap}

theorem Cx.Ok.nofr (ok : X.Ok) {b : Addr} {o : Obj} (e : X.base.get? b = some o) : b ∉ X.fs := fun hb => by
  have := (ok.funs.mem hb).1
  rw [e] at this; cases this
theorem Inv.bs (I : Inv X pins σ H s) : ∀ b o, X.base.get? b = some o → s.heap.get? b = some o ∧ H b = none := fun b o e =>
  ⟨I.base.keep b o (I.ok.bs b o e).1 (I.ok.bs b o e).2 (I.ok.nofr e) (I.ok.noex b o e), I.base.free b o (I.ok.bs b o e).1 (I.ok.bs b o e).2 (I.ok.noex b o e)⟩
theorem Inv.bk (I : Inv X pins σ H s) : ∀ b o, X.base.get? b = some o → s.heap.get? b = some o := fun b o e => (I.bs b o e).1
theorem Inv.mod (I : Inv X pins σ H s) : Mod X.K X.mg X.base := I.ok.mod
theorem Inv.kIn (I : Inv X pins σ H s) : X.K.In s.heap := I.ok.mod.kin.keeps I.bk
theorem Inv.lt (I : Inv X pins σ H s) : X.env.locals < s.heap.objs.size := let ⟨_, hn, _⟩ := I.loc; hn.lt
theorem Inv.sz (I : Inv X pins σ H s) : X.s₀.heap.objs.size ≤ s.heap.objs.size := Nat.le_trans I.ok.above (Nat.le_of_lt I.lt)
theorem Inv.nofs (I : Inv X pins σ H s) {a : Addr} (h : s.heap.objs.size ≤ a) : a ∉ X.fs := fun hb => by
  obtain ⟨_, o, ho, _⟩ := I.ok.funs.mem hb
  exact absurd (Nat.lt_of_lt_of_le (Heap.lt_size ho) (Nat.le_trans I.sz h)) (Nat.lt_irrefl _)
theorem Inv.cne (I : Inv X pins σ H s) : ∀ x c, X.env.cells.lookup x = some c → c ≠ X.env.locals := fun x c e z => by
  obtain ⟨v, o, ho, hd⟩ := I.cell x c e
  obtain ⟨m, ⟨o', es, ep, ho', hd', _⟩, _⟩ := I.loc
  rw [z, ho'] at ho; cases ho; rw [hd'] at hd; cases hd
theorem Inv.funs (I : Inv X pins σ H s) : s.heap.FunFrames X.base X.outer := by
  have all : ∀ (l : List Env), (∀ b ∈ frs l, b ∈ X.fs) → X.s₀.heap.FunFrames X.base l → s.heap.FunFrames X.base l := by
    intro l
    induction l with
    | nil => intro _ _; trivial
    | cons env r ih =>
      intro hs hl
      obtain ⟨hk, ⟨L, o, hf, hn, ho, hd⟩, hr⟩ := hl
      have hL : L ∈ X.fs := hs L (by unfold frs; rw [List.filterMap_cons, hf]; exact List.mem_cons_self)
      obtain ⟨sl, e⟩ := I.base.slot L o ho (I.ok.frf L hL) hL fun z => I.ok.exfs L z hL
      exact ⟨hk, ⟨L, _, hf, hn, e, hd⟩, ih (fun b hb => hs b (by unfold frs; rw [List.filterMap_cons, hf]; exact List.mem_cons_of_mem _ hb)) hr⟩
  exact all X.outer (fun _ hb => hb) I.ok.funs

/-- the frames that run, for a call -/
theorem Inv.stack (I : Inv X pins σ H s) : s.heap.FunFrames X.base X.stack := by
  rcases I.ok.stk with e | ⟨e, hf⟩
  · rw [e]; exact I.funs
  · rw [e]
    obtain ⟨m, hn, _⟩ := I.loc
    refine .cons (by rw [I.ok.kind]; decide) hf hn ?_ I.funs
    exact Heap.get?_none_of_le (Nat.le_trans I.ok.bsz I.ok.above)
theorem Inv.stkSub (I : Inv X pins σ H s) : ∀ b ∈ frs X.stack, b ∈ X.env.locals :: X.fs := fun b hb => by
  rcases I.ok.stk with e | ⟨e, hf⟩
  · rw [e] at hb; exact List.mem_cons_of_mem _ hb
  · rw [e] at hb
    unfold frs at hb
    rw [List.filterMap_cons, hf] at hb
    exact hb
theorem Inv.stkFree (I : Inv X pins σ H s) : ∀ b ∈ frs X.stack, H b = none := fun b hb => by
  rcases List.mem_cons.mp (I.stkSub b hb) with e | hb
  · rw [e]; exact I.free
  · obtain ⟨_, o, ho, _⟩ := I.ok.funs.mem hb
    exact I.base.free b o ho (I.ok.frf b hb) fun z => I.ok.exfs b z hb

/-- THE STEP: the untracked objects but the frame and the records at ch are kept (the callers' frames up to slots), the frame's map is kept, the new abstract heap is held -/
theorem Inv.step {g' : Array GenState} {t' : Nat} {d' : Drawn} {ch : List Addr} (I : Inv X pins σ H s)
    (hch : ∀ b ∈ ch, (b ∈ X.ex ∨ X.s₀.heap.objs.size ≤ b) ∧ b ≠ X.env.locals ∧ (∀ x c, X.env.cells.lookup x = some c → c ≠ b) ∧ ∀ p ∈ X.pn ++ pins, p.1 ≠ b)
    (keep : ∀ b o, b ≠ X.env.locals → b ∉ X.fs → b ∉ ch → s.heap.get? b = some o → H b = none → h'.get? b = some o)
    (slot : ∀ b o, b ≠ X.env.locals → b ∈ X.fs → b ∉ ch → s.heap.get? b = some o → H b = none → ∃ sl, h'.get? b = some { o with slots := sl }) (free : ∀ b o, b ∉ ch → s.heap.get? b = some o → H b = none → H' b = none)
    (there : ∀ b o, b ∉ ch → s.heap.get? b = some o → ∃ o', h'.get? b = some o')
    (tups : ∀ b xs, H b = some (.tup xs) → H' b = some (.tup xs)) (frzs : ∀ b o u, H b = some (.frz o u) → H' b = some (.frz o u)) (tbls : ∀ b ps, H b = some (.tbl ps) → ∃ more, H' b = some (.tbl (ps ++ more)))
    (ns : ∀ m, s.heap.Ns X.env.locals m → h'.Ns X.env.locals m) (hok : HOk X.prog X.w H' h') (hg : AllBare g') :
    Inv X pins σ H' { s with heap := h', gens := g', drawn := d', toks := t' } := by
  have neL : ∀ b o, X.s₀.heap.get? b = some o → b ≠ X.env.locals := fun b o e => Nat.ne_of_lt (Nat.lt_of_lt_of_le (Heap.lt_size e) I.ok.above)
  have neC : ∀ b o, X.s₀.heap.get? b = some o → b ∉ X.ex → b ∉ ch := fun b o e hx hb => by
    rcases (hch b hb).1 with z | z
    · exact hx z
    · exact absurd (Nat.lt_of_lt_of_le (Heap.lt_size e) z) (Nat.lt_irrefl _)
  have cellK : ∀ x c, X.env.cells.lookup x = some c → ∀ v, s.heap.IsCell c v → h'.IsCell c v := fun x c e v ⟨o, ho, hd⟩ => by
    have nch : c ∉ ch := fun z => (hch c z).2.2.1 x c e rfl
    by_cases hc : c ∈ X.fs
    · obtain ⟨sl, q⟩ := slot c o (I.cne x c e) hc nch ho (I.freeC x c e)
      exact ⟨_, q, hd⟩
    · exact ⟨o, keep c o (I.cne x c e) hc nch ho (I.freeC x c e), hd⟩
  refine ⟨I.ok, I.os, hg, ⟨fun b o e n hb hx => ?_, fun b o e n hb hx => ?_, fun b o e n hx => ?_, fun b o e hx => ?_, fun b xs e => tups b xs (I.base.tups b xs e), fun b o xs e => frzs b o xs (I.base.frzs b o xs e), fun b ps e => ?_⟩, ?_, fun x c e => ?_, ?_, fun x c e => ?_, fun p hp => ?_, hok, I.len⟩
  · exact keep b o (neL b o e) hb (neC b o e hx) (I.base.keep b o e n hb hx) (I.base.free b o e n hx)
  · obtain ⟨sl, e1⟩ := I.base.slot b o e n hb hx
    obtain ⟨sl', e2⟩ := slot b _ (neL b o e) hb (neC b o e hx) e1 (I.base.free b o e n hx)
    exact ⟨sl', e2⟩
  · obtain ⟨o', e1⟩ := I.base.there b o e hx
    exact free b o' (neC b o e hx) e1 (I.base.free b o e n hx)
  · obtain ⟨o', e1⟩ := I.base.there b o e hx
    exact there b o' (neC b o e hx) e1
  · obtain ⟨m1, e1⟩ := I.base.tbls b ps e
    obtain ⟨m2, e2⟩ := tbls b _ e1
    exact ⟨m1 ++ m2, by rw [e2, Array.append_assoc]⟩
  · obtain ⟨m, hn, hl⟩ := I.loc
    refine ⟨m, ns m hn, fun i x v e1 e2 e3 => ?_⟩
    obtain ⟨u, r, l⟩ := hl i x v e1 e2 e3
    refine ⟨u, r, ?_⟩
    rcases l with l | ⟨k, c, e, z⟩
    · exact .inl l
    · exact .inr ⟨k, c, e, cellK x c e _ z⟩
  · obtain ⟨v, z⟩ := I.cell x c e
    exact ⟨v, cellK x c e v z⟩
  · obtain ⟨m, ⟨o, _, _, ho, _⟩, _⟩ := I.loc
    exact free _ o (fun z => (hch _ z).2.1 rfl) ho I.free
  · obtain ⟨v, o, ho, hd⟩ := I.cell x c e
    exact free c o (fun z => (hch c z).2.2.1 x c e rfl) ho (I.freeC x c e)
  · obtain ⟨e, n, ne, nf, d⟩ := I.pin p hp
    have nch : p.1 ∉ ch := fun z => (hch p.1 z).2.2.2 p hp rfl
    exact ⟨keep p.1 p.2 ne nf nch e n, free p.1 p.2 nch e n, ne, nf, d⟩
/-- .. where the frame's own object is kept too -/
theorem Inv.un {t' : Nat} (I : Inv X pins σ H s) (u : Un X.fs [] H H' s.heap h') (hok : HOk X.prog X.w H' h') : Inv X pins σ H' { s with heap := h', toks := t' } := by
  obtain ⟨m, ⟨o, es, ep, ho, r⟩, _⟩ := id I.loc
  obtain ⟨sl, hL⟩ := u.any ho I.free (by simp)
  exact I.step (g' := s.gens) (d' := s.drawn) (ch := []) (fun _ z => nomatch z) (fun b o _ hb _ e n => u.keep b o e n hb (by simp)) (fun b o _ hb _ e n => u.slot b o e n hb (by simp)) (fun b o _ e n => u.free b o e n (by simp)) (fun b o _ e => u.there b o e (by simp)) u.tups u.frzs u.tbls (fun m' hm => by
    obtain ⟨o', es', ep', ho', r'⟩ := hm
    rw [ho] at ho'; cases ho'
    exact ⟨_, es', ep', hL, r'⟩) hok I.bare
/-- behind a call (or a comprehension's block): the slots of this frame may have changed too, the records at ch may have turned -/
theorem Inv.call {g' : Array GenState} {t' : Nat} {d' : Drawn} {ch : List Addr} (I : Inv X pins σ H s) (u : Un (frs X.stack) ch H H' s.heap h') (hok : HOk X.prog X.w H' h') (hg : AllBare g')
    (hch : ∀ b ∈ ch, (b ∈ X.ex ∨ X.s₀.heap.objs.size ≤ b) ∧ b ≠ X.env.locals ∧ (∀ x c, X.env.cells.lookup x = some c → c ≠ b) ∧ ∀ p ∈ X.pn ++ pins, p.1 ≠ b) :
    Inv X pins σ H' { s with heap := h', gens := g', drawn := d', toks := t' } := by
  obtain ⟨m, ⟨o, es, ep, ho, r⟩, _⟩ := id I.loc
  obtain ⟨sl, hL⟩ := u.any ho I.free fun z => (hch _ z).2.1 rfl
  exact I.step (ch := ch) hch (fun b o hL hb hc e n => u.keep b o e n (fun z => (List.mem_cons.mp (I.stkSub b z)).elim hL hb) hc) (fun b o _ _ hc e n => u.any e n hc) (fun b o hc e n => u.free b o e n hc) (fun b o hc e => u.there b o e hc) u.tups u.frzs u.tbls (fun m' hm => by
    obtain ⟨o', es', ep', ho', r'⟩ := hm
    rw [ho] at ho'; cases ho'
    exact ⟨_, es', ep', hL, r'⟩) hok hg
/-- an untracked record of ours (an iterator) has turned -/
theorem Inv.turned {t' : Nat} {it : Addr} (I : Inv X pins σ H s) (k : ∀ b o, b ≠ it → s.heap.get? b = some o → h'.get? b = some o) (hn : H it = none) (hL : it ≠ X.env.locals)
    (h1 : it ∈ X.ex ∨ X.s₀.heap.objs.size ≤ it) (h2 : ∀ x c, X.env.cells.lookup x = some c → c ≠ it) (h3 : ∀ p ∈ X.pn ++ pins, p.1 ≠ it) : Inv X pins σ H { s with heap := h', toks := t' } := by
  have nit : ∀ b u, H b = some u → b ≠ it := fun b u e z => by rw [z, hn] at e; cases e
  refine I.step (g' := s.gens) (d' := s.drawn) (ch := [it]) (fun b hb => ?_) (fun b o _ _ hc e _ => k b o (fun z => hc (by simp [z])) e) (fun b o _ _ hc e _ => ⟨o.slots, k b o (fun z => hc (by simp [z])) e⟩) (fun _ _ _ _ n => n)
    (fun b o hc e => ⟨o, k b o (fun z => hc (by simp [z])) e⟩) (fun _ _ e => e) (fun _ _ _ e => e) (fun b ps e => ⟨#[], by rw [e]; simp⟩) (fun m hm => ?_) (fun b u e => ?_) I.bare
  · have e : b = it := by simpa using hb
    subst e
    exact ⟨h1, hL, h2, h3⟩
  · obtain ⟨o, es, ep, ho, r⟩ := hm
    exact ⟨o, es, ep, k _ o (Ne.symm hL) ho, r⟩
  · refine (I.hok b u e).stay (fun c v hc q => k c v ?_ q) (fun _ q => q) fun _ _ q => q
    rcases hc with z | z
    · rw [z]; exact nit b u e
    · exact nit c _ z
theorem Inv.tok (I : Inv X pins σ H s) (t : Nat) : Inv X pins σ H { s with toks := t } := I.un (h' := s.heap) (t' := t) Un.refl I.hok
/-- all objects kept -/
theorem Inv.kept {t' : Nat} (I : Inv X pins σ H s) (k : ∀ b u, s.heap.get? b = some u → h'.get? b = some u) : Inv X pins σ H { s with heap := h', toks := t' } := I.un (Un.kept k) (I.hok.kept k)
/-- a new object laid and tracked -/
theorem Inv.laid {a : Addr} {o : HO} {t' : Nat} (I : Inv X pins σ H s) (k : ∀ b u, s.heap.get? b = some u → h'.get? b = some u) (hp : s.heap.objs.size ≤ a) (new : ObjOk X.prog X.w (upd H a o) h' a o) :
    Inv X pins σ (upd H a o) { s with heap := h', toks := t' } := I.un (Un.laid k hp (I.hok.fresh hp)) (I.hok.laid k hp new)
/-- an object written -/
theorem Inv.write {x e : Addr} {o : HO} {t' : Nat} (I : Inv X pins σ H s) (mu : Mut (H x)) (he : e = x ∨ H e = some (.own x)) (k : ∀ b u, b ≠ e → s.heap.get? b = some u → h'.get? b = some u) (heo : ∃ u, h'.get? e = some u)
    (new : ObjOk X.prog X.w (upd H x o) h' x o) : Inv X pins σ (upd H x o) { s with heap := h', toks := t' } := I.un (Un.write mu he k heo) (I.hok.write mu he k heo new)
/-- forgetting slots, pins -/
theorem Inv.weak {σ' : List (Option V)} (I : Inv X pins σ H s) (hl : σ'.length = σ.length) (w : ∀ (i : Nat) v, σ'[i]? = some (some v) → σ[i]? = some (some v)) : Inv X pins σ' H s :=
  ⟨I.ok, I.os, I.bare, I.base, let ⟨m, hn, hl'⟩ := I.loc; ⟨m, hn, fun i x v e1 e2 e3 => hl' i x v e1 (w i v e2) e3⟩, I.cell, I.free, I.freeC, I.pin, I.hok, hl.trans I.len⟩
theorem Inv.pins_of {pins' : List (Addr × Obj)} (I : Inv X pins σ H s) (h : ∀ p ∈ pins', s.heap.get? p.1 = some p.2 ∧ H p.1 = none ∧ p.1 ≠ X.env.locals ∧ p.1 ∉ X.fs ∧ ∀ v, p.2.data ≠ .cell v) : Inv X pins' σ H s :=
  ⟨I.ok, I.os, I.bare, I.base, I.loc, I.cell, I.free, I.freeC, fun p hp => (List.mem_append.mp hp).elim (fun z => I.pin p (List.mem_append_left _ z)) (h p), I.hok, I.len⟩

theorem nodup_ix {N : List Str} (hN : N.Nodup) {i j : Nat} {x : Str} (a : N[i]? = some x) (b : N[j]? = some x) : i = j := by
  obtain ⟨h1, e1⟩ := List.getElem?_eq_some_iff.mp a
  obtain ⟨h2, e2⟩ := List.getElem?_eq_some_iff.mp b
  exact (List.getElem_inj hN).mp (e1.trans e2.symm)

/-- a name is stored; what changed -/
theorem store_ok2 {M : Model} {A : Around} {E : Value → Shared → Prop} {i : Nat} {x : Str} {v : V} {u : Value} {Q : Unit → Shared → Prop} (I : Inv X pins σ H s) (hN : X.N.Nodup) (hi : X.N[i]? = some x) (hx : Loc X.env.scope x) (r : RelV v u)
    (h : ∀ s', Inv X pins (σ.set i (some v)) H s' → (∃ a, Heap.SameBut a s.heap s'.heap ∧ (a = X.env.locals ∨ X.env.cells.lookup x = some a)) → Q () s') (hf : X.fn x = true ∨ X.env.scope.names.lookup x = some .local := by first | exact .inl rfl | exact .inr rfl | assumption) : wpAny M A (storeName X.env x u) Q E s := by
  obtain ⟨m, hn, hl⟩ := id I.loc
  have hcls : (X.env.scope.kind == .class || (X.env.scope.kind == .module && X.env.locals != X.env.globals)) = false := by rw [I.ok.kind]; rfl
  have hiσ : i < σ.length := by rw [I.len]; exact (List.getElem?_eq_some_iff.mp hi).1
  have cne := I.cne
  have tracked : ∀ {a : Addr} {h' : Heap}, (∃ o, s.heap.get? a = some o ∧ H a = none) → Heap.SameBut a s.heap h' → HOk X.prog X.w H h' := fun {a h'} ha hs b ob e => by
    obtain ⟨_, _, hfree⟩ := ha
    refine (I.hok b ob e).stay (fun c w' hc q => (hs.2 c ?_).trans q) (fun _ q => q) fun _ _ q => q
    rintro rfl
    rcases hc with rfl | hc
    · rw [hfree] at e; cases e
    · rw [hfree] at hc; cases hc
  rcases hx with hk | hk
  · refine wpAny_storeName_local hk hn (fun h' hn' hs => ?_) hcls
    obtain ⟨oL, _, _, hoL, _⟩ := id hn
    refine h _ ⟨I.ok, I.os, I.bare, ⟨fun b o e n hb hx => ?_, fun b o e n hb hx => ?_, I.base.free, fun b o e hx => ?_, I.base.tups, I.base.frzs, I.base.tbls⟩, ⟨_, hn', fun j y v' e1 e2 e3 => ?_⟩, fun y c e => ?_, I.free, I.freeC, fun p hp => ?_, tracked ⟨oL, hoL, I.free⟩ hs, by simpa using I.len⟩ ⟨_, hs, .inl rfl⟩
    · exact (hs.2 b (Nat.ne_of_lt (Nat.lt_of_lt_of_le (Heap.lt_size e) I.ok.above))).trans (I.base.keep b o e n hb hx)
    · obtain ⟨sl, e1⟩ := I.base.slot b o e n hb hx
      exact ⟨sl, (hs.2 b (Nat.ne_of_lt (Nat.lt_of_lt_of_le (Heap.lt_size e) I.ok.above))).trans e1⟩
    · obtain ⟨o', e1⟩ := I.base.there b o e hx
      exact ⟨o', (hs.2 b (Nat.ne_of_lt (Nat.lt_of_lt_of_le (Heap.lt_size e) I.ok.above))).trans e1⟩
    · by_cases hj : j = i
      · subst hj
        rw [hi] at e1; cases e1
        rw [List.getElem?_set_self hiσ] at e2
        cases e2
        exact ⟨u, r, .inl ⟨hk, by simp⟩⟩
      · rw [List.getElem?_set_ne (Ne.symm hj)] at e2
        obtain ⟨u', r', q⟩ := hl j y v' e1 e2 e3
        refine ⟨u', r', ?_⟩
        rcases q with ⟨k, e⟩ | ⟨k, c, e, z⟩
        · refine .inl ⟨k, ?_⟩
          have : y ≠ x := fun e => hj (nodup_ix hN e1 (e ▸ hi))
          simp [this, e]
        · exact .inr ⟨k, c, e, z.sameBut hs (cne y c e)⟩
    · obtain ⟨w', z⟩ := I.cell y c e
      exact ⟨w', z.sameBut hs (cne y c e)⟩
    · obtain ⟨e, n, ne, nf, d⟩ := I.pin p hp
      exact ⟨(hs.2 p.1 ne).trans e, n, ne, nf, d⟩
  · have hfn : X.fn x = true := by
      rcases hf with z | z
      · exact z
      · rw [z] at hk; cases hk
    obtain ⟨c, hc⟩ := I.ok.has x (.inl hk)
    obtain ⟨w', z⟩ := I.cell x c hc
    refine wpAny_storeName_cell I.ok.kind hk hc z (fun h' hc' hs => ?_)
    obtain ⟨oc, hoc, hocd⟩ := id z
    refine h { s with heap := h' } ⟨I.ok, I.os, I.bare, ⟨fun b o e n hb hx => ?_, fun b o e n hb hx => ?_, I.base.free, fun b o e hx => ?_, I.base.tups, I.base.frzs, I.base.tbls⟩, ⟨m, hn.sameBut hs (Ne.symm (cne x c hc)), fun j y v' e1 e2 e3 => ?_⟩, fun y c' e => ?_, I.free, I.freeC, fun p hp => ?_, tracked ⟨oc, hoc, I.freeC x c hc⟩ hs, by simpa using I.len⟩ ⟨c, hs, .inr hc⟩
    · exact (hs.2 b (Nat.ne_of_lt (Nat.lt_of_lt_of_le (Heap.lt_size e) (I.ok.cab x c hfn hc)))).trans (I.base.keep b o e n hb hx)
    · obtain ⟨sl, e1⟩ := I.base.slot b o e n hb hx
      exact ⟨sl, (hs.2 b (Nat.ne_of_lt (Nat.lt_of_lt_of_le (Heap.lt_size e) (I.ok.cab x c hfn hc)))).trans e1⟩
    · obtain ⟨o', e1⟩ := I.base.there b o e hx
      exact ⟨o', (hs.2 b (Nat.ne_of_lt (Nat.lt_of_lt_of_le (Heap.lt_size e) (I.ok.cab x c hfn hc)))).trans e1⟩
    · by_cases hj : j = i
      · subst hj
        rw [hi] at e1; cases e1
        rw [List.getElem?_set_self hiσ] at e2
        cases e2
        exact ⟨u, r, .inr ⟨.inl hk, c, hc, hc'⟩⟩
      · rw [List.getElem?_set_ne (Ne.symm hj)] at e2
        obtain ⟨u', r', q⟩ := hl j y v' e1 e2 e3
        refine ⟨u', r', ?_⟩
        rcases q with q | ⟨k, c', e, z'⟩
        · exact .inl q
        · refine .inr ⟨k, c', e, z'.sameBut hs ?_⟩
          rintro rfl
          exact hj (nodup_ix hN e1 (I.ok.inj _ _ _ e hc ▸ hi))
    · by_cases hcc : c' = c
      · subst hcc; exact ⟨_, hc'⟩
      · obtain ⟨w2, z2⟩ := I.cell y c' e
        exact ⟨w2, z2.sameBut hs hcc⟩
    · obtain ⟨e, n, ne, nf, d⟩ := I.pin p hp
      refine ⟨(hs.2 p.1 ?_).trans e, n, ne, nf, d⟩
      intro q
      rw [q, hoc] at e
      have q' : oc = p.2 := Option.some.inj e
      exact d w' (by rw [← q']; exact hocd)
theorem store_ok {M : Model} {A : Around} {E : Value → Shared → Prop} {i : Nat} {x : Str} {v : V} {u : Value} {Q : Unit → Shared → Prop} (I : Inv X pins σ H s) (hN : X.N.Nodup) (hi : X.N[i]? = some x) (hx : Loc X.env.scope x) (r : RelV v u)
    (h : ∀ s', Inv X pins (σ.set i (some v)) H s' → Q () s') (hf : X.fn x = true ∨ X.env.scope.names.lookup x = some .local := by first | exact .inl rfl | exact .inr rfl | assumption) : wpAny M A (storeName X.env x u) Q E s :=
  store_ok2 I hN hi hx r (fun s' I' _ => h s' I') hf
/-- behind a call or a block, the state as it is -/
theorem Inv.call' {s' : Shared} {ch : List Addr} (I : Inv X pins σ H s) (ho : s'.os = s.os) (u : Un (frs X.stack) ch H H' s.heap s'.heap) (hok : HOk X.prog X.w H' s'.heap) (hg : AllBare s'.gens)
    (hch : ∀ b ∈ ch, (b ∈ X.ex ∨ X.s₀.heap.objs.size ≤ b) ∧ b ≠ X.env.locals ∧ (∀ x c, X.env.cells.lookup x = some c → c ≠ b) ∧ ∀ p ∈ X.pn ++ pins, p.1 ≠ b) : Inv X pins σ H' s' := by
  obtain ⟨h', g', d', t', o'⟩ := s'
  have e : o' = s.os := ho
  subst e
  exact I.call (g' := g') (t' := t') (d' := d') u hok hg hch
end

/-! ### the judgements -/
/-- an exception: its class, its own dict's address (where it has one), the abstract heap behind it -/
abbrev XK := Value → Option Addr → Hp → Prop
abbrev St := List (Option V)
abbrev VK := V → Hp → Prop
/-- an expression's reading; a test's; an argument list's -/
abbrev TE := St → Hp → VK → Prop
abbrev TT := St → Hp → (Bool → Hp → Prop) → Prop
abbrev TA := St → Hp → (List V → Hp → Prop) → Prop
/-- what is wanted behind a statement -/
structure Ends where
  nx : St → Hp → Prop
  rt : VK
  bk : St → Hp → Prop := fun _ _ => False
  ct : St → Hp → Prop := fun _ _ => False
abbrev TS := Ends → St → Hp → Prop

def EP (X : Cx) (pins : List (Addr × Obj)) (σ : St) (Q : VK) (u : Value) (s' : Shared) : Prop := ∃ v H', Inv X pins σ H' s' ∧ RelV v u ∧ Q v H'
def TP (X : Cx) (pins : List (Addr × Obj)) (σ : St) (Q : Bool → Hp → Prop) (b : Bool) (s' : Shared) : Prop := ∃ H', Inv X pins σ H' s' ∧ Q b H'
def AP (X : Cx) (pins : List (Addr × Obj)) (σ : St) (Q : List V → Hp → Prop) (us : List Value) (s' : Shared) : Prop := ∃ vs H', Inv X pins σ H' s' ∧ Vals vs us ∧ Q vs H'
def SP (X : Cx) (pins : List (Addr × Obj)) (D : Ends) (f : Flow) (s' : Shared) : Prop :=
  match f with
  | .next => ∃ σ' H', Inv X pins σ' H' s' ∧ D.nx σ' H'
  | .brk => ∃ σ' H', Inv X pins σ' H' s' ∧ D.bk σ' H'
  | .cont => ∃ σ' H', Inv X pins σ' H' s' ∧ D.ct σ' H'
  | .ret u => ∃ v σ' H', Inv X pins σ' H' s' ∧ RelV v u ∧ D.rt v H'

def PE (X : Cx) (e : Expr) (t : TE) : Prop :=
  ∀ (pins : List (Addr × Obj)) (s : Shared) (σ : St) (H : Hp) (Q : VK), Inv X pins σ H s → t σ H Q → wpAny (model X.prog X.w) X.A (eval e X.env) (EP X pins σ Q) X.xe s
def PT (X : Cx) (e : Expr) (t : TT) : Prop :=
  ∀ (pins : List (Addr × Obj)) (s : Shared) (σ : St) (H : Hp) (Q : Bool → Hp → Prop), Inv X pins σ H s → t σ H Q → wpAny (model X.prog X.w) X.A (isTrue e X.env (eval e X.env)) (TP X pins σ Q) X.xe s
/-- a test whatever its 'whole' is (and, or) -/
def PW (X : Cx) (e : Expr) (t : TT) : Prop :=
  ∀ (whole : Sem Value) (pins : List (Addr × Obj)) (s : Shared) (σ : St) (H : Hp) (Q : Bool → Hp → Prop), Inv X pins σ H s → t σ H Q → wpAny (model X.prog X.w) X.A (isTrue e X.env whole) (TP X pins σ Q) X.xe s
theorem PW.pt {X : Cx} {e : Expr} {t : TT} (h : PW X e t) : PT X e t := h _
/-- an argument list (no star), from the left -/
def PA (X : Cx) (es : List Expr) (t : TA) : Prop :=
  ∀ (pos : Pos) (pins : List (Addr × Obj)) (s : Shared) (σ : St) (H : Hp) (Q : List V → Hp → Prop), Inv X pins σ H s → t σ H Q → wpAny (model X.prog X.w) X.A (spliced (backTo pos (starEach es X.env))) (AP X pins σ Q) X.xe s
def PS (X : Cx) (st : Stmt) (t : TS) : Prop :=
  ∀ (pins : List (Addr × Obj)) (s : Shared) (σ : St) (H : Hp) (D : Ends), Inv X pins σ H s → t D σ H → wpAny (model X.prog X.w) X.A (exec st X.env) (SP X pins D) X.xe s
def PSs (X : Cx) (st : List Stmt) (t : TS) : Prop :=
  ∀ (pins : List (Addr × Obj)) (s : Shared) (σ : St) (H : Hp) (D : Ends), Inv X pins σ H s → t D σ H → wpAny (model X.prog X.w) X.A (execs st X.env) (SP X pins D) X.xe s
/-- weaken the end -/
theorem thn {α : Type} {t : Sem α} {Q Q' : α → Shared → Prop} {M : Model} {A : Around} {E : Value → Shared → Prop} {s : Shared} (h : wpAny M A t Q E s) (hQ : ∀ a s, Q a s → Q' a s) : wpAny M A t Q' E s := wpAny_mono h hQ fun _ _ x => x
end L2

namespace L2
open PySem PySem.Spec PyProof.Rows
section
variable {X : Cx}

/-! ### names and constants -/
def tVar (i : Nat) : TE := fun σ H Q => ∃ v, σ[i]? = some (some v) ∧ Q v H
def tC (v : V) : TE := fun _ H Q => Q v H
theorem pe_var {i : Nat} {x : Str} {pos : Pos} (hN : X.N[i]? = some x) (hv : Vis X.env.scope x) (hd : (x == ("__debug__" : Str)) = false := by decide) (hcd : (x == ("__classdict__" : Str)) = false := by decide) : PE X (.Name x pos) (tVar i) := by
  intro pins s σ H Q I h
  obtain ⟨v, e, h⟩ := h
  obtain ⟨m, hn, hl⟩ := I.loc
  obtain ⟨u, r, l⟩ := hl i x v hN e hv
  have fin : EP X pins σ Q u s := ⟨v, H, I, r, h⟩
  rcases l with ⟨hk, hm⟩ | ⟨hk, c, hc, hcell⟩
  · exact wpAny_Name (wpAny_loadName_local I.ok.kind hk hn hm fin) hd
  · rcases hk with hk | hk
    · exact wpAny_Name (wpAny_loadName_cell I.ok.kind hk hc hcell fin) hd
    · exact wpAny_Name (wpAny_loadName_free I.ok.kind hk hc hcell fin hcd) hd
theorem pe_int {i j pos} : PE X (.Constant (.int i) j pos) (tC (.int i)) := fun _ _ _ H _ I h => wpAny_Constant_int ⟨.int i, H, I.tok _, ⟨_, rfl⟩, h⟩
theorem pe_bl {b j pos} : PE X (.Constant (.bool b) j pos) (tC (.bl b)) := fun _ _ _ H _ I h => Constant_bool ⟨.bl b, H, I, rfl, h⟩
theorem pe_non {j pos} : PE X (.Constant .none j pos) (tC .non) := fun _ _ _ H _ I h => Constant_none ⟨.non, H, I, rfl, h⟩
theorem pe_str {x j pos} : PE X (.Constant (.str x) j pos) (tC (.str x)) := fun _ _ _ H _ I h => Calls.Constant_str ⟨.str x, H, I.tok _, ⟨_, rfl⟩, h⟩

/-- a global name of the def -/
def Gl (X : Cx) (x : Str) : Prop := X.env.kindOf x = some .globalImplicit
theorem ld_glob {E : Value → Shared → Prop} {pins : List (Addr × Obj)} {s : Shared} {σ : St} {H : Hp} {x : Str} {u : Value} {pos : Pos} {Q : Value → Shared → Prop} (I : Inv X pins σ H s) (hg : Gl X x) (hm : X.mg x = some u) (h : Q u s)
    (hd : (x == ("__debug__" : Str)) = false := by decide) : wpAny (model X.prog X.w) X.A (eval (.Name x pos) X.env) Q E s :=
  Calls.Name_function_global I.ok.kind hg (Calls.loadGlobal_global (by rw [I.ok.glob]; exact I.mod.glob.keeps I.bk) hm h) hd
theorem ld_blt {E : Value → Shared → Prop} {pins : List (Addr × Obj)} {s : Shared} {σ : St} {H : Hp} {x : Str} {u : Value} {pos : Pos} {Q : Value → Shared → Prop} (I : Inv X pins σ H s) (hg : Gl X x) (hm : X.mg x = none) (hv : bootBuiltins x = some u) (h : Q u s)
    (hn : x ≠ "__name__" := by decide) (hd : (x == ("__debug__" : Str)) = false := by decide) : wpAny (model X.prog X.w) X.A (eval (.Name x pos) X.env) Q E s := by
  obtain ⟨mb, h1, h2⟩ := I.mod.blt
  exact Calls.Name_function_global I.ok.kind hg (Calls.loadGlobal_builtin (by rw [I.ok.glob]; exact I.mod.glob.keeps I.bk) hm (by rw [I.ok.blt]; exact h1.keeps I.bk) ((h2 x hn).trans hv) h) hd
/-- a module's constant, a class, a function, as a value -/
theorem pe_glob {x : Str} {v : V} {u : Value} {pos : Pos} (hg : Gl X x) (hm : X.mg x = some u) (r : RelV v u) (hd : (x == ("__debug__" : Str)) = false := by decide) : PE X (.Name x pos) (tC v) :=
  fun _ _ _ H _ I h => ld_glob I hg hm ⟨v, H, I, r, h⟩ hd
theorem pe_bltn {x : Str} {v : V} {u : Value} {pos : Pos} (hg : Gl X x) (hm : X.mg x = none) (hv : bootBuiltins x = some u) (r : RelV v u) (hn : x ≠ "__name__" := by decide) (hd : (x == ("__debug__" : Str)) = false := by decide) : PE X (.Name x pos) (tC v) :=
  fun _ _ _ H _ I h => ld_blt I hg hm hv ⟨v, H, I, r, h⟩ hn hd

/-! ### arithmetic -/
/-- two ints -/
def t2I (ta tb : TE) (k : Int → Int → Hp → Prop) : St → Hp → Prop := fun σ H => ta σ H fun x H1 => tb σ H1 fun y H2 => ∃ i j, x = .int i ∧ y = .int j ∧ k i j H2
def tAdd (ta tb : TE) : TE := fun σ H Q => t2I ta tb (fun i j H2 => Q (.int (i + j)) H2) σ H
def tSub (ta tb : TE) : TE := fun σ H Q => t2I ta tb (fun i j H2 => Q (.int (i - j)) H2) σ H
/-- the left factor below 2^64 -/
def tMul (ta tb : TE) : TE := fun σ H Q => t2I ta tb (fun i j H2 => (-(2 ^ 64) < i ∧ i < 2 ^ 64) ∧ Q (.int (i * j)) H2) σ H
variable {a b : Expr} {ta tb : TE} {pos : Pos}
/-! ### comparisons -/
def PC (X : Cx) (op : CmpOp) (a b : Expr) (t : TE) : Prop :=
  ∀ (pins : List (Addr × Obj)) (s : Shared) (σ : St) (H : Hp) (Q : VK), Inv X pins σ H s → t σ H Q →
    wpAny (model X.prog X.w) X.A (eval a X.env) (fun v s₁ => wpAny (model X.prog X.w) X.A (eval b X.env) (fun u s₂ => wpAny (model X.prog X.w) X.A (compareOp op v u) (EP X pins σ Q) X.xe s₂) X.xe s₁) X.xe s
def tCmp (p : Int → Int → Bool) (ta tb : TE) : TE := fun σ H Q => t2I ta tb (fun i j H2 => Q (.bl (p i j)) H2) σ H
abbrev tLt : TE → TE → TE := tCmp fun i j => decide (i < j)
abbrev tLe : TE → TE → TE := tCmp fun i j => decide (i ≤ j)
abbrev tGt : TE → TE → TE := tCmp fun i j => decide (j < i)
abbrev tGe : TE → TE → TE := tCmp fun i j => decide (j ≤ i)
abbrev tEqI : TE → TE → TE := tCmp fun i j => decide (i = j)
abbrev tNeI : TE → TE → TE := tCmp fun i j => !decide (i = j)
/-- is None -/
def tIsN (ta : TE) : TE := fun σ H Q => ta σ H fun x H1 => Q (.bl (decide (x = .non))) H1
def tNotN (ta : TE) : TE := fun σ H Q => ta σ H fun x H1 => Q (.bl (!decide (x = .non))) H1
/-- a comparison as a value, as a test -/
def tB (t : TE) : TT := fun σ H Q => t σ H fun x H1 => ∃ c, x = .bl c ∧ Q c H1
/-- an expression whose value is a bool, as a test -/
theorem pt_val {e : Expr} {t : TE} (h : PE X e t) (he : ∀ whole, isTrue e X.env whole = (do let v ← whole; standAt e.pos; holding [v] (truthy v)) := by intro _; rfl) : PT X e (tB t) := by
  intro pins s σ H Q I hw
  refine isTrue_plain (thn (h pins s σ H _ I hw) fun v s1 ⟨x, H1, I1, r1, q1⟩ => ?_) (he _)
  obtain ⟨d, rfl, q⟩ := q1
  cases r1
  exact wpAny_truthy_bool ⟨H1, I1, q⟩

/-! ### and, or, not -/
variable {tA tB' : TT} {rest : List Expr}
def tAnd (t u : TT) : TT := fun σ H Q => t σ H fun c H1 => if c = true then u σ H1 Q else Q false H1
def tOr (t u : TT) : TT := fun σ H Q => t σ H fun c H1 => if c = true then Q true H1 else u σ H1 Q
def tNot (t : TT) : TT := fun σ H Q => t σ H fun c H1 => Q (!c) H1
theorem pw_and1 (ha : PT X a tA) : PW X (.BoolOp .And [a] pos) tA := by
  intro wh pins s σ H Q I h
  refine isTrue_and (thn (ha pins s σ H Q I h) fun c s1 e => ?_)
  cases c with
  | true => exact isTrue_and_nil e
  | false => exact e
theorem pw_or1 (ha : PT X a tA) : PW X (.BoolOp .Or [a] pos) tA := by
  intro wh pins s σ H Q I h
  refine isTrue_or (thn (ha pins s σ H Q I h) fun c s1 e => ?_)
  cases c with
  | false => exact isTrue_or_nil e
  | true => exact e
theorem pw_and (ha : PT X a tA) (hb : PW X (.BoolOp .And (b :: rest) pos) tB') : PW X (.BoolOp .And (a :: b :: rest) pos) (tAnd tA tB') := by
  intro wh pins s σ H Q I h
  refine isTrue_and (thn (ha pins s σ H _ I h) fun c s1 ⟨H1, I1, q1⟩ => ?_)
  cases c with
  | true => exact hb wh pins s1 σ H1 Q I1 q1
  | false => exact ⟨H1, I1, q1⟩
theorem pw_or (ha : PT X a tA) (hb : PW X (.BoolOp .Or (b :: rest) pos) tB') : PW X (.BoolOp .Or (a :: b :: rest) pos) (tOr tA tB') := by
  intro wh pins s σ H Q I h
  refine isTrue_or (thn (ha pins s σ H _ I h) fun c s1 ⟨H1, I1, q1⟩ => ?_)
  cases c with
  | true => exact ⟨H1, I1, q1⟩
  | false => exact hb wh pins s1 σ H1 Q I1 q1
theorem pt_not (ha : PT X a tA) : PT X (.UnaryOp .Not a pos) (tNot tA) := by
  intro pins s σ H Q I h
  exact isTrue_not (ha pins s σ H (fun c H1 => Q (!c) H1) I h)
/-- .. as values (bools) -/
def tAndV (ta tb : TE) : TE := fun σ H Q => ta σ H fun x H1 => ∃ c, x = .bl c ∧ if c = true then tb σ H1 Q else Q (.bl false) H1
def tOrV (ta tb : TE) : TE := fun σ H Q => ta σ H fun x H1 => ∃ c, x = .bl c ∧ if c = true then Q (.bl true) H1 else tb σ H1 Q
def tNotV (ta : TE) : TE := fun σ H Q => ta σ H fun x H1 => ∃ c, x = .bl c ∧ Q (.bl (!c)) H1
/-- a if t else b -/
def tIf (t : TT) (ta tb : TE) : TE := fun σ H Q => t σ H fun c H1 => if c = true then ta σ H1 Q else tb σ H1 Q
theorem pe_ifExp {c : Expr} (hc : PT X c tA) (ha : PE X a ta) (hb : PE X b tb) : PE X (.IfExp c a b pos) (tIf tA ta tb) := by
  intro pins s σ H Q I h
  refine wpAny_IfExp (thn (hc pins s σ H _ I h) fun d s1 ⟨H1, I1, q1⟩ => ?_)
  cases d with
  | true => exact ha pins s1 σ H1 Q I1 q1
  | false => exact hb pins s1 σ H1 Q I1 q1
end
end L2

namespace L2
open PySem PySem.Spec PyProof.Rows

/-! ### a list, a tuple that is read: tracked, frozen, or an object of the module -/
def SqL (K : PySem.W.Frag) (H : Hp) (a : Addr) (xs : List V) : Prop :=
  Rd H a (.lst xs) ∨
    ∃ (o : Obj) (its : Array Value) (n : Nat), K.lookup a = some o ∧ o.cls = .type "list" ∧ o.dict = none ∧ o.data = .seq its n ∧ its.size ≤ sizeLine ∧ Vals xs its.toList
def SqT (K : PySem.W.Frag) (H : Hp) (a : Addr) (xs : List V) : Prop :=
  Rd H a (.tup xs) ∨
    ∃ (o : Obj) (its : Array Value) (n : Nat), K.lookup a = some o ∧ o.cls = .type "tuple" ∧ o.data = .seq its n ∧ its.size ≤ sizeLine ∧ Vals xs its.toList
def absV : Value → Option V
  | .none => some .non
  | .bool b => some (.bl b)
  | .int i _ => some (.int i)
  | .str x _ => some (.str x)
  | .bytes b _ => some (.byt b)
  | .float b _ => some (.flt b)
  | .ref a => some (.ref a)
  | .type n => some (.ty n)
  | _ => none
theorem RelV.abs {x : V} {u : Value} (r : RelV x u) : absV u = some x := by
  cases x with
  | non => cases r; rfl
  | bl _ => cases r; rfl
  | int _ => obtain ⟨t, rfl⟩ := r; rfl
  | str _ => obtain ⟨t, rfl⟩ := r; rfl
  | byt _ => obtain ⟨t, rfl⟩ := r; rfl
  | flt _ => obtain ⟨t, rfl⟩ := r; rfl
  | ref _ => cases r; rfl
  | ty _ => cases r; rfl
theorem RelV.inj {x y : V} {u : Value} (r : RelV x u) (q : RelV y u) : x = y := Option.some.inj (r.abs.symm.trans q.abs)
theorem Vals.inj : ∀ {xs ys : List V} {us : List Value}, Vals xs us → Vals ys us → xs = ys
  | _, _, _, .nil, .nil => rfl
  | _, _, _, .cons r t, .cons r' t' => by rw [r.inj r', Vals.inj t t']
section
variable {X : Cx} {pins : List (Addr × Obj)} {σ : St} {H : Hp} {s : Shared} {a : Addr} {xs ys : List V}
theorem SqL.of {K : PySem.W.Frag} (h : H a = some (.lst xs)) : SqL K H a xs := .inl (.inl h)
theorem SqT.of {K : PySem.W.Frag} (h : H a = some (.tup xs)) : SqT K H a xs := .inl (.inl h)
theorem Inv.list (I : Inv X pins σ H s) (h : SqL X.K H a xs) : ∃ its : List Value, Vals xs its ∧ PlainL s.heap a its.toArray ∧ xs.length ≤ sizeLine := by
  rcases h with h | ⟨o, its, n, hk, hc, hd, hs, hz, r⟩
  · obtain ⟨z, its, n, r, e⟩ := h.ok I.hok
    exact ⟨its, r, ⟨_, n, e, rfl, rfl, rfl⟩, z⟩
  · refine ⟨its.toList, r, ⟨o, n, I.kIn a o hk, hc, hd, by simpa using hs⟩, ?_⟩
    have e := r.length
    simp only [Array.length_toList] at e
    omega
theorem Inv.tuple (I : Inv X pins σ H s) (h : SqT X.K H a xs) : ∃ its : List Value, Vals xs its ∧ IsTup s.heap a its.toArray ∧ xs.length ≤ sizeLine := by
  rcases h with h | ⟨o, its, n, hk, hc, hs, hz, r⟩
  · obtain ⟨z, its, r, p⟩ := h.ok I.hok
    exact ⟨its, r, p, z⟩
  · refine ⟨its.toList, r, ⟨o, I.kIn a o hk, hc, n, by simpa using hs⟩, ?_⟩
    have e := r.length
    simp only [Array.length_toList] at e
    omega
theorem Inv.list_inj (I : Inv X pins σ H s) (h : SqL X.K H a xs) (h' : SqL X.K H a ys) : xs = ys := by
  obtain ⟨its, r, ⟨o, n, e, _, _, d⟩, _⟩ := I.list h
  obtain ⟨its', r', ⟨o', n', e', _, _, d'⟩, _⟩ := I.list h'
  rw [e] at e'; cases e'
  rw [d] at d'
  injection d' with d1 _
  have : its = its' := by simpa using congrArg Array.toList d1
  subst this
  exact r.inj r'
end

/-! ### another wish about exceptions -/
abbrev Cx.wish (X : Cx) (E : Value → Shared → Prop) : Cx := { X with xe := E }
/-- no exception leaves -/
abbrev Cx.nox (X : Cx) : Cx := X.wish fun _ _ => False
theorem Cx.Ok.wish {X : Cx} (ok : X.Ok) (E : Value → Shared → Prop) : (X.wish E).Ok :=
  ⟨ok.mod, ok.kind, ok.glob, ok.blt, ok.above, ok.inj, ok.has, ok.cab, ok.hd, ok.frames, ok.stk, ok.exf, ok.bs, ok.bsz, ok.noex, ok.exfs, ok.funs, ok.frf⟩
theorem Cx.Ok.unwish {X : Cx} {E : Value → Shared → Prop} (ok : (X.wish E).Ok) : X.Ok :=
  ⟨ok.mod, ok.kind, ok.glob, ok.blt, ok.above, ok.inj, ok.has, ok.cab, ok.hd, ok.frames, ok.stk, ok.exf, ok.bs, ok.bsz, ok.noex, ok.exfs, ok.funs, ok.frf⟩
section
variable {X : Cx} {pins : List (Addr × Obj)} {σ : St} {H : Hp} {s : Shared} {E : Value → Shared → Prop}
theorem Inv.wish (I : Inv X pins σ H s) (E : Value → Shared → Prop) : Inv (X.wish E) pins σ H s := ⟨I.ok.wish E, I.os, I.bare, I.base, I.loc, I.cell, I.free, I.freeC, I.pin, I.hok, I.len⟩
theorem Inv.unwish (I : Inv (X.wish E) pins σ H s) : Inv X pins σ H s := ⟨I.ok.unwish, I.os, I.bare, I.base, I.loc, I.cell, I.free, I.freeC, I.pin, I.hok, I.len⟩
theorem SP.unwish {D : Ends} {f : Flow} {s' : Shared} (h : SP (X.wish E) pins D f s') : SP X pins D f s' := by
  cases f with
  | next => obtain ⟨σ', H', I, q⟩ := h; exact ⟨σ', H', I.unwish, q⟩
  | brk => obtain ⟨σ', H', I, q⟩ := h; exact ⟨σ', H', I.unwish, q⟩
  | cont => obtain ⟨σ', H', I, q⟩ := h; exact ⟨σ', H', I.unwish, q⟩
  | ret u => obtain ⟨v, σ', H', I, r, q⟩ := h; exact ⟨v, σ', H', I.unwish, r, q⟩
theorem PSs.nox {st : List Stmt} {t : TS} (h : PSs X.nox st t) : PSs X st t := fun pins s σ H D I hw =>
  wpAny_mono (h pins s σ H D (I.wish _) hw) (fun _ _ q => q.unwish) fun _ _ z => False.elim z
end

/-! ### blocks and small statements -/
section
variable {X : Cx} {st : Stmt} {rest : List Stmt} {t u : TS} {e : Expr} {te : TE} {pos : Pos}
def tNext : TS := fun D σ H => D.nx σ H
def tSeq (t u : TS) : TS := fun D σ H => t { D with nx := u D } σ H
theorem pss_nil : PSs X [] tNext := fun _ _ σ H _ I h => wpAny_execs_nil ⟨σ, H, I, h⟩
theorem pss_cons (h1 : PS X st t) (h2 : PSs X rest u) : PSs X (st :: rest) (tSeq t u) := by
  intro pins s σ H D I h
  refine wpAny_execs_cons (thn (h1 pins s σ H { D with nx := u D } I h) fun f s1 q => ?_)
  cases f with
  | next =>
    obtain ⟨σ', H', I', q⟩ := q
    exact h2 pins s1 σ' H' D I' q
  | ret v => exact q
  | brk => exact q
  | cont => exact q
theorem pss_one (h1 : PS X st t) : PSs X [st] t := by
  intro pins s σ H D I h
  refine wpAny_execs_cons (thn (h1 pins s σ H D I h) fun f s1 q => ?_)
  cases f with
  | next => exact wpAny_execs_nil q
  | ret v => exact q
  | brk => exact q
  | cont => exact q
def tBreak : TS := fun D σ H => D.bk σ H
def tCont : TS := fun D σ H => D.ct σ H
/-- in a def's body nothing is shown -/
theorem Inv.quiet {pins : List (Addr × Obj)} {σ : St} {H : Hp} {s : Shared} (I : Inv X pins σ H s) : interactive X.env = false := by simp [interactive, I.ok.kind]
/-- an expression whose value is dropped -/
def tDrop (te : TE) : TS := fun D σ H => te σ H fun _ H1 => D.nx σ H1
theorem ps_expr (he : PE X e te) (hs : swapsWith e none pos.line X.env = pure false := by rfl) : PS X (.Expr e pos) (tDrop te) := by
  intro pins s σ H D I h
  exact wpAny_Expr_any (thn (he pins s σ H _ I h) fun v s1 ⟨x, H1, I1, r1, q1⟩ => ⟨σ, H1, I1, q1⟩) I.quiet hs
def tRet (te : TE) : TS := fun D σ H => te σ H D.rt
theorem ps_ret (he : PE X e te) : PS X (.Return (some e) pos) (tRet te) := by
  intro pins s σ H D I h
  exact wpAny_Return_some (thn (he pins s σ H _ I h) fun v s1 ⟨x, H1, I1, r1, q1⟩ => ⟨x, σ, H1, I1, r1, q1⟩)
def tRetN : TS := fun D _ H => D.rt .non H
def tIfS (c : TT) (t u : TS) : TS := fun D σ H => c σ H fun b H1 => if b = true then t D σ H1 else u D σ H1
theorem ps_if {c : Expr} {a b : List Stmt} {tc : TT} (hc : PT X c tc) (ha : PSs X a t) (hb : PSs X b u) : PS X (.If c a b pos) (tIfS tc t u) := by
  intro pins s σ H D I h
  refine wpAny_If (thn (hc pins s σ H _ I h) fun d s1 ⟨H1, I1, q1⟩ => ?_)
  cases d with
  | true => exact ha pins s1 σ H1 D I1 q1
  | false => exact hb pins s1 σ H1 D I1 q1
/-- code that the proof never comes to -/
def tNever : TS := fun _ _ _ => False
theorem pss_never {sts : List Stmt} : PSs X sts tNever := fun _ _ _ _ _ _ h => h.elim
end

/-! ### targets -/
abbrev TG := V → St → Hp → (St → Hp → Prop) → Prop
abbrev TGs := List V → St → Hp → (St → Hp → Prop) → Prop
def PG (X : Cx) (target : Expr) (t : TG) : Prop :=
  ∀ (pins : List (Addr × Obj)) (s : Shared) (σ : St) (H : Hp) (v : V) (u : Value) (Q : St → Hp → Prop), Inv X pins σ H s → RelV v u → t v σ H Q →
    wpAny (model X.prog X.w) X.A (assign target X.env u) (fun _ s' => ∃ σ' H', Inv X pins σ' H' s' ∧ Q σ' H') X.xe s
/-- several targets, one after another -/
def PGs (X : Cx) (ts : List Expr) (t : TGs) : Prop :=
  ∀ (pins : List (Addr × Obj)) (s : Shared) (σ : St) (H : Hp) (vs : List V) (us : List Value) (Q : St → Hp → Prop), Inv X pins σ H s → Vals vs us → t vs σ H Q →
    wpAny (model X.prog X.w) X.A (assignInOrder ((assignEach ts X.env).map (·.2)) us) (fun _ s' => ∃ σ' H', Inv X pins σ' H' s' ∧ Q σ' H') X.xe s
/-- o[i] = v, by values -/
abbrev TSet := V → V → V → Hp → (Hp → Prop) → Prop
def PSet (X : Cx) (t : TSet) : Prop :=
  ∀ (pins : List (Addr × Obj)) (s : Shared) (σ : St) (H : Hp) (o i v : V) (ov iv u : Value) (Q : Hp → Prop), Inv X pins σ H s → RelV o ov → RelV i iv → RelV v u → t o i v H Q →
    wpAny (model X.prog X.w) X.A (setItem ov iv u) (fun _ s' => ∃ H', Inv X pins σ H' s' ∧ Q H') X.xe s
/-- a op= b, by values -/
abbrev TIp := V → V → Hp → VK → Prop
def PIp (X : Cx) (op : Operator) (t : TIp) : Prop :=
  ∀ (pins : List (Addr × Obj)) (s : Shared) (σ : St) (H : Hp) (x y : V) (v u : Value) (Q : VK), Inv X pins σ H s → RelV x v → RelV y u → t x y H Q →
    wpAny (model X.prog X.w) X.A (inplaceOp op v u) (EP X pins σ Q) X.xe s
section
variable {X : Cx} {pos : Pos}
def gName (i : Nat) : TG := fun v σ H Q => Q (σ.set i (some v)) H
theorem pg_name {i : Nat} {x : Str} (hN : X.N.Nodup) (hi : X.N[i]? = some x) (hx : Loc X.env.scope x) (hf : X.fn x = true ∨ X.env.scope.names.lookup x = some .local := by first | exact .inl rfl | exact .inr rfl | assumption) : PG X (.Name x pos) (gName i) := by
  intro pins s σ H v u Q I r h
  exact wpAny_assign_Name (store_ok I hN hi hx r (fun s' I' => ⟨_, H, I', h⟩) hf)
def gNil : TGs := fun vs σ H Q => vs = [] ∧ Q σ H
def gCons (t : TG) (u : TGs) : TGs := fun vs σ H Q => ∃ v r, vs = v :: r ∧ t v σ H fun σ' H' => u r σ' H' Q
theorem pgs_nil : PGs X [] gNil := by
  intro pins s σ H vs us Q I r h
  obtain ⟨e, h⟩ := h
  subst e
  cases r
  exact assignInOrder_nil ⟨σ, H, I, h⟩
theorem pgs_cons {e : Expr} {es : List Expr} {t : TG} {u : TGs} (h1 : PG X e t) (h2 : PGs X es u)
    (hs : (assignEach (e :: es) X.env).map (·.2) = assign e X.env :: (assignEach es X.env).map (·.2) := by rfl) : PGs X (e :: es) (gCons t u) := by
  intro pins s σ H vs us Q I r h
  obtain ⟨v, vr, e1, h⟩ := h
  subst e1
  cases r with
  | cons r rr =>
    rw [hs]
    refine assignInOrder_cons (thn (h1 pins s σ H _ _ _ I r h) fun _ s1 ⟨σ1, H1, I1, q1⟩ => ?_)
    exact h2 pins s1 σ1 H1 _ _ Q I1 rr q1
/-- (a, b, ..) = a tuple of that length -/
def gTup (K : PySem.W.Frag) (n : Nat) (t : TGs) : TG := fun v σ H Q => ∃ a xs, v = .ref a ∧ SqT K H a xs ∧ xs.length = n ∧ t xs σ H Q
theorem pg_tup {es : List Expr} {k : Nat} {t : TGs} {n : Nat} (hc : X.calm = true) (h : PGs X es t)
    (hn : (assignEach es X.env).length = n := by rfl) (hst : (assignEach es X.env).findIdx? (·.1) = none := by rfl) : PG X (.Tuple es k pos) (gTup X.K n t) := by
  intro pins s σ H v u Q I r hw
  obtain ⟨a, xs, e1, hq, hl, hw⟩ := hw
  subst e1
  cases r
  obtain ⟨its, rv, ht, hz⟩ := I.tuple hq
  refine assign_Tuple_tuple (I.ok.hd hc) ht (by simp [hn, ← hl, rv.length]) hst fun h' hx => ?_
  have I1 : Inv X pins σ H { s with heap := h' } := I.kept (t' := s.toks) fun b o e => hx b o (Nat.ne_of_lt (Heap.lt_size e)) e
  exact h pins _ σ H xs _ Q I1 (by simpa using rv) hw
/-- o[i] = .. -/
def gSub (to ti : TE) (t : TSet) : TG := fun v σ H Q => to σ H fun o H1 => ti σ H1 fun i H2 => t o i v H2 fun H3 => Q σ H3
theorem pg_sub {o i : Expr} {to ti : TE} {t : TSet} (ho : PE X o to) (hi : PE X i ti) (hs : PSet X t)
    (ha : ∀ v, assign (.Subscript o i pos) X.env v = (do
      let ov ← holding [v] (eval o X.env)
      let iv ← holding [v, ov] (eval i X.env)
      standAt pos
      holding [v, ov, iv] (setItem ov iv v)
      release [v, ov, iv] []) := by intro _; rfl) : PG X (.Subscript o i pos) (gSub to ti t) := by
  intro pins s σ H v u Q I r h
  rw [ha]
  refine wpAny_bind (wpAny_holding (thn (ho pins s σ H _ I h) fun ov s1 ⟨x, H1, I1, r1, q1⟩ => ?_))
  refine wpAny_bind (wpAny_holding (thn (hi pins s1 σ H1 _ I1 q1) fun iv s2 ⟨y, H2, I2, r2, q2⟩ => ?_))
  refine wpAny_bind (wpAny_standAt (wpAny_bind (wpAny_holding (thn (hs pins s2 σ H2 x y v ov iv u _ I2 r1 r2 r q2) fun _ s3 ⟨H3, I3, q3⟩ => ?_))))
  exact wpAny_release ⟨σ, H3, I3, q3⟩
/-- target = value -/
def tAsg (te : TE) (g : TG) : TS := fun D σ H => te σ H fun x H1 => g x σ H1 D.nx
theorem ps_asg {tg e : Expr} {te : TE} {g : TG} (he : PE X e te) (hg : PG X tg g) (hs : swapsWithSole [tg] e pos.line X.env = pure false := by rfl) (hw : swappedStores [tg] e X.env = pure none := by rfl)
    (h1 : (assignEach [tg] X.env).map (·.2) = [assign tg X.env] := by rfl) : PS X (.Assign [tg] e pos) (tAsg te g) := by
  intro pins s σ H D I h
  refine wpAny_Assign_stores (thn (he pins s σ H _ I h) fun v s1 ⟨x, H1, I1, r1, q1⟩ => ?_) hs hw
  rw [h1]
  exact thn (hg pins s1 σ H1 x v _ I1 r1 q1) fun _ s2 q => q
/-- name = value -/
theorem ps_set {i : Nat} {x : Str} {e : Expr} {te : TE} {pos' : Pos} (hN : X.N.Nodup) (hi : X.N[i]? = some x) (hx : Loc X.env.scope x) (he : PE X e te) (hs : swapsWith e (some (.Name x pos')) pos.line X.env = pure false := by rfl) (hf : X.fn x = true ∨ X.env.scope.names.lookup x = some .local := by first | exact .inl rfl | exact .inr rfl | assumption) :
    PS X (.Assign [.Name x pos'] e pos) (tAsg te (gName i)) := by
  intro pins s σ H D I h
  refine wpAny_Assign_Name (thn (he pins s σ H _ I h) fun v s1 ⟨y, H1, I1, r1, q1⟩ => ?_) hs
  exact store_ok I1 hN hi hx r1 (fun s2 I2 => ⟨_, H1, I2, q1⟩) hf
/-- a, b = x, y with plain local names: stored from the right; the pair itself is not tracked (the opening rows as in PyProof/Rows/TupAssign.lean:23) -/
def tPar (i j : Nat) (ta : TA) : TS := fun D σ H => ta σ H fun vs H1 => ∃ v w, vs = [v, w] ∧ D.nx ((σ.set i (some v)).set j (some w)) H1
/-- name op= e -/
def tAug (i : Nat) (te : TE) (ti : TIp) : TS := fun D σ H => ∃ x, σ[i]? = some (some x) ∧ te σ H fun y H1 => ti x y H1 fun z H2 => D.nx (σ.set i (some z)) H2
/-- o[i] op= e -/
def tAugS (to ti te : TE) (tget : V → V → Hp → VK → Prop) (tip : TIp) (tset : TSet) : TS := fun D σ H => to σ H fun o H1 => ti σ H1 fun i H2 => tget o i H2 fun x H3 => te σ H3 fun y H4 => tip x y H4 fun z H5 => tset o i z H5 fun H6 => D.nx σ H6
/-- o[i], by values -/
def PGet (X : Cx) (t : V → V → Hp → VK → Prop) : Prop :=
  ∀ (pins : List (Addr × Obj)) (s : Shared) (σ : St) (H : Hp) (o i : V) (ov iv : Value) (Q : VK), Inv X pins σ H s → RelV o ov → RelV i iv → t o i H Q →
    wpAny (model X.prog X.w) X.A (getItem ov iv) (EP X pins σ Q) X.xe s
/-- ints -/
def ipI (f : Int → Int → Int) : TIp := fun x y H Q => ∃ i j, x = .int i ∧ y = .int j ∧ Q (.int (f i j)) H
end

/-! ### while -/
section
variable {X : Cx} {pos : Pos}
/-- the invariant W with its measure -/
def tWhile (c : TT) (tb : TS) : TS := fun D σ H => ∃ W : Nat → St → Hp → Prop, (∃ m, W m σ H) ∧ ∀ m σ H, W m σ H →
  c σ H fun b H1 => if b = true then ∃ N : St → Hp → Prop, (∀ σ' H', N σ' H' → ∃ m', m' < m ∧ W m' σ' H') ∧ tb { D with nx := N, ct := N, bk := D.nx } σ H1 else D.nx σ H1
theorem ps_while {c : Expr} {body : List Stmt} {tc : TT} {tb : TS} (hp : PassesOwn (model X.prog X.w) X.A X.env X.xe) (hc : PT X c tc) (hb : PSs X body tb) : PS X (.While c body [] pos) (tWhile tc tb) := by
  intro pins s σ H D I h
  obtain ⟨W, ⟨m0, w0⟩, turn⟩ := h
  refine wpAny_While (codeAny_whileLoop (fun n s' => ∃ σ' H', Inv X pins σ' H' s' ∧ W n σ' H') ?_ m0 ⟨σ, H, I, w0⟩)
  rintro n s1 ⟨σ1, H1, I1, w1⟩
  refine wpAny_passesOwn hp (thn (hc pins s1 σ1 H1 _ I1 (turn n σ1 H1 w1)) fun b s2 ⟨H2, I2, q2⟩ => ?_)
  cases b with
  | true =>
    obtain ⟨N, hN, q2⟩ := q2
    rw [if_pos rfl]
    refine wpAny_passesOwn hp (thn (hb pins s2 σ1 H2 _ I2 q2) fun f s3 q3 => ?_)
    cases f with
    | next =>
      obtain ⟨σ3, H3, I3, n3⟩ := q3
      obtain ⟨m', hm, w3⟩ := hN σ3 H3 n3
      exact ⟨m', hm, σ3, H3, I3, w3⟩
    | cont =>
      obtain ⟨σ3, H3, I3, n3⟩ := q3
      obtain ⟨m', hm, w3⟩ := hN σ3 H3 n3
      exact ⟨m', hm, σ3, H3, I3, w3⟩
    | brk => exact q3
    | ret v => exact q3
  | false =>
    rw [if_neg Bool.false_ne_true]
    exact wpAny_execs_nil ⟨σ1, H2, I2, q2⟩
end

/-! ### what a loop or a comprehension walks -/
/-- at turn i: it yields x (the heap may grow), or it stops -/
structure It where
  go : Nat → Hp → Prop
  yld : Nat → Hp → V → Hp → Prop
  stop : Nat → Hp → Prop
/-- the iterator's own objects may turn: they are not the frame's, not pinned, younger than the entry (or a comprehension's own) -/
def FpOk (X : Cx) (pins : List (Addr × Obj)) (H : Hp) (b : Addr) : Prop :=
  H b = none ∧ b ≠ X.env.locals ∧ b ∉ X.fs ∧ (b ∈ X.ex ∨ X.s₀.heap.objs.size ≤ b) ∧ (∀ x c, X.env.cells.lookup x = some c → c ≠ b) ∧ ∀ p ∈ X.pn ++ pins, p.1 ≠ b
theorem Inv.fpOk {X : Cx} {pins : List (Addr × Obj)} {σ : St} {H H' : Hp} {s : Shared} {b : Addr} (I : Inv X pins σ H s) (hb : s.heap.objs.size ≤ b) (hn : H' b = none) : FpOk X pins H' b := by
  refine ⟨hn, Nat.ne_of_gt (Nat.lt_of_lt_of_le I.lt hb), I.nofs hb, .inr (Nat.le_trans I.sz hb), fun x c e z => ?_, fun p hp z => ?_⟩
  · obtain ⟨v, q⟩ := I.cell x c e
    exact absurd (Nat.lt_of_lt_of_le q.lt (by rw [z]; exact hb)) (Nat.lt_irrefl _)
  · exact absurd (Nat.lt_of_lt_of_le (Heap.lt_size (I.pin p hp).1) (by rw [z]; exact hb)) (Nat.lt_irrefl _)
structure Turn (P : Program) (w : World) (K : PySem.W.Frag) (tg : Expr) (J : It) (fp : List Addr) (it : Addr) (tn : Nat → Heap → Prop) : Prop where
  mem : it ∈ fp
  obj : ∀ i h, tn i h → ∀ b ∈ fp, ∃ o, h.get? b = some o ∧ ∀ v, o.data ≠ .cell v
  keep : ∀ i h h', tn i h → (∀ b ∈ fp, ∀ o, h.get? b = some o → h'.get? b = some o) → tn i h'
  item : ∀ (X : Cx), X.prog = P → X.w = w → X.K = K → X.calm = true → ∀ (i : Nat) (pins : List (Addr × Obj)) (s : Shared) (σ : St) (H : Hp) (E : Value → Shared → Prop), Inv X pins σ H s → (∀ b ∈ fp, FpOk X pins H b) → tn i s.heap → J.go i H →
    wpAny (model P w) X.A (pyNext (.ref it)) (fun r s1 => ∃ u, r = some u ∧
      wpAny (model P w) X.A (letOwnedTupleGo tg (.ref it) u) (fun _ s2 => ∃ x H', Inv X pins σ H' s2 ∧ RelV x u ∧ J.yld i H x H' ∧ tn (i + 1) s2.heap ∧ ∀ b ∈ fp, H' b = none) E s1) E s
  done : ∀ (X : Cx), X.prog = P → X.w = w → X.K = K → X.calm = true → ∀ (i : Nat) (pins : List (Addr × Obj)) (s : Shared) (σ : St) (H : Hp) (E : Value → Shared → Prop), Inv X pins σ H s → (∀ b ∈ fp, FpOk X pins H b) → tn i s.heap → J.stop i H →
    wpAny (model P w) X.A (pyNext (.ref it)) (fun r s1 => r = none ∧ Inv X pins σ H s1) E s
  self : ∀ (A : Around) (i : Nat) (s : Shared) (Q : Value → Shared → Prop) (E : Value → Shared → Prop), tn i s.heap → Q (.ref it) s → wpAny (model P w) A (pyIter (.ref it)) Q E s
abbrev TI := St → Hp → (It → Hp → Prop) → Prop
/-- an iterator has come -/
def PIE (X : Cx) (pins : List (Addr × Obj)) (σ : St) (tg : Expr) (R : It → Hp → Prop) (itv : Value) (s2 : Shared) : Prop :=
  ∃ (it : Addr) (fp : List Addr) (tn : Nat → Heap → Prop) (J : It) (H' : Hp), itv = .ref it ∧ Inv X pins σ H' s2 ∧ Turn X.prog X.w X.K tg J fp it tn ∧ tn 0 s2.heap ∧ (∀ b ∈ fp, FpOk X pins H' b) ∧ R J H'
def PI (X : Cx) (tg iter : Expr) (wi : TI) : Prop :=
  ∀ (pins : List (Addr × Obj)) (s : Shared) (σ : St) (H : Hp) (R : It → Hp → Prop), Inv X pins σ H s → wi σ H R →
    wpAny (model X.prog X.w) X.A (eval iter X.env) (fun v s1 => wpAny (model X.prog X.w) X.A (pyIter v) (PIE X pins σ tg R) X.xe s1) X.xe s

/-- the step ahead of the store is nothing for an iterator that keeps no tuple -/
theorem go_of {M : Model} {A : Around} {E : Value → Shared → Prop} {s : Shared} {tg : Expr} {it : Addr} {u : Value} {o : Obj} {n : String} {vs : Array Value} {Q : Unit → Shared → Prop} (ho : s.heap.get? it = some o) (hc : o.cls = .type n) (hd : o.data = .fields vs)
    (hn : ["enumerate", "zip", "dict_itemiterator", "dict_reverseitemiterator", "odict_iterator", "itertools.zip_longest", "itertools.pairwise"].contains n = false) (hQ : Q () s) : wpAny M A (letOwnedTupleGo tg (.ref it) u) Q E s := by
  unfold letOwnedTupleGo
  cases tg <;> first
    | exact wpAny_pure hQ
    | (cases u <;> first
        | exact wpAny_pure hQ
        | (refine wpAny_bind (wpAny_load ho ?_)
           rw [hc, hd]
           show wpAny M A (if (["enumerate", "zip", "dict_itemiterator", "dict_reverseitemiterator", "odict_iterator", "itertools.zip_longest", "itertools.pairwise"].contains n && vs[0]? == some (rawInt _)) = true then _ else _) Q E s
           rw [if_neg (by intro h; rw [hn, Bool.false_and] at h; cases h)]
           exact wpAny_pure hQ))

/-- the list at a, as it stands at each turn (a loop may append to it) -/
def Itl (K : PySem.W.Frag) (a : Addr) : It :=
  ⟨fun i H => ∃ xs x, SqL K H a xs ∧ xs[i]? = some x, fun i H x H' => H' = H ∧ ∀ xs, SqL K H a xs → xs[i]? = some x, fun i H => ∃ xs, SqL K H a xs ∧ xs.length ≤ i⟩
def Itt (K : PySem.W.Frag) (a : Addr) : It :=
  ⟨fun i H => ∃ xs x, SqT K H a xs ∧ xs[i]? = some x, fun i H x H' => H' = H ∧ ∀ xs, SqT K H a xs → xs[i]? = some x, fun i H => ∃ xs, SqT K H a xs ∧ xs.length ≤ i⟩
/-- lo, lo + 1, .. (n of them) -/
def Itr (lo : Int) (n : Nat) : It := ⟨fun i _ => i < n, fun i H x H' => H' = H ∧ x = .int (lo + i), fun i _ => n ≤ i⟩
theorem turn_list {P : Program} {w : World} {K : PySem.W.Frag} {tg : Expr} (a it : Addr) : Turn P w K tg (Itl K a) [it] it (fun i h => h.IsListIter it a i) where
  mem := by simp
  obj := fun i h st b hb => by
    have e : b = it := by simpa using hb
    subst e
    obtain ⟨o, e, c, d⟩ := st
    exact ⟨o, e, fun v z => by rw [d] at z; cases z⟩
  keep := fun i h h' st k => st.at fun o e => k it (by simp) o e
  item := by
    intro X hP hw hK hc i pins s σ H E I hf st hg
    subst hP hw hK
    obtain ⟨xs, x, hq, hx⟩ := hg
    obtain ⟨its, rv, p, hz⟩ := I.list hq
    obtain ⟨u, hu, ru⟩ := rv.get hx
    obtain ⟨f0, f1, f2, f3, f4, f5⟩ := hf it (by simp)
    refine wpAny_pyNext_list_item st p.isList (x := u) (by simpa using hu) fun h' st' sb => ?_
    have I1 : Inv X pins σ H { s with heap := h' } := I.turned (t' := s.toks) (fun b o hb e => (sb.2 b hb).trans e) f0 f1 f3 f4 f5
    obtain ⟨o, e, c, d⟩ := id st'
    exact ⟨u, rfl, go_of (s := { s with heap := h' }) e c d (by decide) ⟨x, H, I1, ru, ⟨rfl, fun ys hy => by rw [I.list_inj hy hq]; exact hx⟩, st', fun b hb => (hf b hb).1⟩⟩
  done := by
    intro X hP hw hK hc i pins s σ H E I hf st hg
    subst hP hw hK
    obtain ⟨xs, hq, hx⟩ := hg
    obtain ⟨its, rv, p, hz⟩ := I.list hq
    obtain ⟨f0, f1, f2, f3, f4, f5⟩ := hf it (by simp)
    have hl := rv.length
    exact wpAny_pyNext_list_end (I.ok.hd hc) st p.isList (by simp; omega) fun h' eb => ⟨rfl, I.turned (t' := s.toks) (fun b o hb e => eb b o hb e) f0 f1 f3 f4 f5⟩
  self := fun _ _ _ _ _ st h => wpAny_pyIter_listiter st h
theorem turn_range {P : Program} {w : World} {K : PySem.W.Frag} {tg : Expr} (it : Addr) (lo : Int) (n : Nat) : Turn P w K tg (Itr lo n) [it] it (fun i h => IsRangeIter h it (lo + (i : Nat) * 1) ((n : Int) - (i : Nat)) 1) where
  mem := by simp
  obj := fun i h st b hb => by
    have e : b = it := by simpa using hb
    subst e
    exact ⟨_, st, fun v z => by
      have z' : Data.fields _ = Data.cell v := z
      cases z'⟩
  keep := fun i h h' st k => k it (by simp) _ st
  item := by
    intro X hP hw hK hc i pins s σ H E I hf st hg
    subst hP hw hK
    obtain ⟨f0, f1, f2, f3, f4, f5⟩ := hf it (by simp)
    have W := Walks.range (prog := X.prog) (w := X.w) (I.ok.hd hc) it lo 1 n
    refine W.item i s _ _ hg st fun v h' tk hv st' kk => ?_
    obtain ⟨t, rfl⟩ := hv
    have I1 : Inv X pins σ H { s with heap := h', toks := tk } := I.turned (fun b o hb e => kk b o (by simpa using hb) e) f0 f1 f3 f4 f5
    refine ⟨_, rfl, go_of (s := { s with heap := h', toks := tk }) (n := "range_iterator") st' rfl rfl (by decide) ⟨.int (lo + i), H, I1, ⟨t, ?_⟩, ⟨rfl, rfl⟩, st', fun b hb => (hf b hb).1⟩⟩
    rw [Int.mul_one]
  done := by
    intro X hP hw hK hc i pins s σ H E I hf st hg
    subst hP hw hK
    obtain ⟨f0, f1, f2, f3, f4, f5⟩ := hf it (by simp)
    exact wpAny_pyNext_range_end (I.ok.hd hc) st (by have : n ≤ i := hg; omega) fun h' eb => ⟨rfl, I.turned (t' := s.toks) (fun b o hb e => eb b o hb e) f0 f1 f3 f4 f5⟩
  self := fun _ _ _ _ _ st h => wpAny_pyIter_rangeiter st h
end L2

namespace L2
open PySem PySem.Spec PyProof.Rows
section
variable {X : Cx} {tg : Expr}
def iList (K : PySem.W.Frag) (tl : TE) : TI := fun σ H R => tl σ H fun x H1 => ∃ a, x = .ref a ∧ (∃ xs, SqL K H1 a xs) ∧ R (Itl K a) H1
def iTup (K : PySem.W.Frag) (tl : TE) : TI := fun σ H R => tl σ H fun x H1 => ∃ a, x = .ref a ∧ (∃ xs, SqT K H1 a xs) ∧ R (Itt K a) H1
theorem pi_list {l : Expr} {tl : TE} (hl : PE X l tl) : PI X tg l (iList X.K tl) := by
  intro pins s σ H R I h
  refine thn (hl pins s σ H _ I h) fun v s1 ⟨x, H1, I1, r1, q1⟩ => ?_
  obtain ⟨a, e, ⟨xs, hq⟩, q⟩ := q1
  subst e
  cases r1
  obtain ⟨its, rv, p, hz⟩ := I1.list hq
  refine wpAny_pyIter_list p.isList ?_
  refine ⟨s1.heap.objs.size, [s1.heap.objs.size], _, _, H1, rfl, I1.kept (t' := s1.toks) fun b o e => Heap.get?_push_of_some _ e, turn_list a _, ⟨_, Heap.get?_push_size _ rfl, rfl, rfl⟩, fun b hb => ?_, q⟩
  have e : b = s1.heap.objs.size := by simpa using hb
  subst e
  exact I1.fpOk (Nat.le_refl _) (I1.hok.fresh (Nat.le_refl _))
/-- a range object just made, walked -/
theorem range_it {pins : List (Addr × Obj)} {σ : St} {H : Hp} {s : Shared} {R : It → Hp → Prop} {E : Value → Shared → Prop} {lo hi : Int} {t u v : Tok} {tk : Nat} (I : Inv X pins σ H s) (h1 : -(2 ^ 62) ≤ lo) (h2 : lo < 2 ^ 62) (h3 : -(2 ^ 62) ≤ hi) (h4 : hi < 2 ^ 62)
    (q : R (Itr lo (hi - lo).toNat) H) : wpAny (model X.prog X.w) X.A (pyIter (.ref s.heap.objs.size)) (PIE X pins σ tg R) E { s with heap := s.heap.push { cls := .type "range", data := .fields #[.int lo t, .int hi u, .int 1 v] }, toks := tk } := by
  refine wpAny_pyIter_range (IsRange.new ..) (small_one h1 h2 h3 h4) ?_
  have I1 : Inv X pins σ H { s with heap := s.heap.push { cls := .type "range", data := .fields #[.int lo t, .int hi u, .int 1 v] }, toks := tk } := I.kept fun b o e => Heap.get?_push_of_some _ e
  refine ⟨(s.heap.push { cls := .type "range", data := .fields #[.int lo t, .int hi u, .int 1 v] }).objs.size, [(s.heap.push { cls := .type "range", data := .fields #[.int lo t, .int hi u, .int 1 v] }).objs.size], _, _, H, rfl,
    I1.kept (t' := tk) fun b o e => Heap.get?_push_of_some _ e, turn_range _ lo (hi - lo).toNat, ?_, fun b hb => ?_, q⟩
  · have e1 : lo + ((0 : Nat) : Int) * 1 = lo := by simp
    have e2 : (((hi - lo).toNat : Nat) : Int) - ((0 : Nat) : Int) = Builtin.Range.rangeSize lo hi 1 := by rw [rangeSize_one]; split <;> omega
    show IsRangeIter _ _ (lo + ((0 : Nat) : Int) * 1) ((((hi - lo).toNat : Nat) : Int) - ((0 : Nat) : Int)) 1
    rw [e1, e2]
    exact Heap.get?_push_size _ rfl
  · have e : b = (s.heap.push { cls := .type "range", data := .fields #[.int lo t, .int hi u, .int 1 v] }).objs.size := by simpa using hb
    subst e
    exact I1.fpOk (Nat.le_refl _) (I1.hok.fresh (Nat.le_refl _))
def iRng1 (ta : TA) : TI := fun σ H R => ta σ H fun vs H1 => ∃ j : Int, vs = [.int j] ∧ -(2 ^ 62) ≤ j ∧ j < 2 ^ 62 ∧ R (Itr 0 j.toNat) H1
def iRng2 (ta : TA) : TI := fun σ H R => ta σ H fun vs H1 => ∃ i j : Int, vs = [.int i, .int j] ∧ (-(2 ^ 62) ≤ i ∧ i < 2 ^ 62 ∧ -(2 ^ 62) ≤ j ∧ j < 2 ^ 62) ∧ R (Itr i (j - i).toNat) H1
theorem pi_range1 {a : Expr} {ta : TA} {p pos : Pos} (hg : Gl X "range") (hm : X.mg "range" = none) (ha : PA X [a] ta) (hs : starEach [a] X.env = [(false, eval a X.env)] := by rfl) : PI X tg (.Call (.Name "range" p) [a] [] pos) (iRng1 ta) := by
  intro pins s σ H R I h
  refine Call_ (ld_blt I hg hm boot_range (PyProof.Rows.callWith_type1 (thn (ha pos pins s σ H _ I h) fun us s1 ⟨vs, H1, I1, r1, q1⟩ => ?_) hs rfl))
  obtain ⟨j, e, q1, q2, q⟩ := q1
  subst e
  cases r1 with
  | cons r rr =>
    cases rr
    obtain ⟨t, rfl⟩ := r
    exact call_range_1 (range_it I1 (by omega) (by omega) q1 q2 (by simpa using q))
theorem pi_range2 {a b : Expr} {ta : TA} {p pos : Pos} (hg : Gl X "range") (hm : X.mg "range" = none) (ha : PA X [a, b] ta) (hs : starEach [a, b] X.env = [(false, eval a X.env), (false, eval b X.env)] := by rfl) (hs2 : starEach [b] X.env = [(false, eval b X.env)] := by rfl) :
    PI X tg (.Call (.Name "range" p) [a, b] [] pos) (iRng2 ta) := by
  intro pins s σ H R I h
  refine Call_ (ld_blt I hg hm boot_range (PyProof.Rows.callWith_type1 (thn (ha pos pins s σ H _ I h) fun us s1 ⟨vs, H1, I1, r1, q1⟩ => ?_) (by rw [hs, hs2]) (by rw [hs2]; rfl)))
  obtain ⟨i, j, e, ⟨q1, q2, q3, q4⟩, q⟩ := q1
  subst e
  cases r1 with
  | cons r rr =>
    cases rr with
    | cons r' rr =>
      cases rr
      obtain ⟨t, rfl⟩ := r
      obtain ⟨t', rfl⟩ := r'
      exact call_range_2 (range_it I1 q1 q2 q3 q4 q)

/-! ### for -/
/-- W: the invariant by the turn and a measure; N: what the body is to reach -/
def tFor (wi : TI) (g : TG) (tb : TS) : TS := fun D σ H => wi σ H fun J H1 => ∃ W : Nat → Nat → St → Hp → Prop, (∃ m, W 0 m σ H1) ∧ ∀ i m σ H, W i m σ H →
  (J.stop i H ∧ D.nx σ H) ∨ (J.go i H ∧ ∃ N : St → Hp → Prop, (∀ σ' H', N σ' H' → ∃ m', m' < m ∧ W (i + 1) m' σ' H') ∧ ∀ x H', J.yld i H x H' → g x σ H' fun σ2 H2 => tb { D with nx := N, ct := N, bk := D.nx } σ2 H2)
/-- the records at fp as they stand -/
def pinsAt (fp : List Addr) (h : Heap) : List (Addr × Obj) := fp.filterMap fun b => (h.get? b).map fun o => (b, o)
theorem mem_pinsAt {fp : List Addr} {h : Heap} {b : Addr} {o : Obj} (hb : b ∈ fp) (e : h.get? b = some o) : (b, o) ∈ pinsAt fp h := List.mem_filterMap.mpr ⟨b, hb, by rw [e]; rfl⟩
theorem of_pinsAt {fp : List Addr} {h : Heap} {p : Addr × Obj} (hp : p ∈ pinsAt fp h) : p.1 ∈ fp ∧ h.get? p.1 = some p.2 := by
  obtain ⟨b, hb, e⟩ := List.mem_filterMap.mp hp
  cases q : h.get? b with
  | none => rw [q] at e; cases e
  | some o =>
    rw [q] at e
    have e' : (b, o) = p := Option.some.inj e
    subst e'
    exact ⟨hb, q⟩
theorem Inv.pinned {pins : List (Addr × Obj)} {σ : St} {H : Hp} {s : Shared} {fp : List Addr} (I : Inv X pins σ H s) (hf : ∀ b ∈ fp, FpOk X pins H b) (ho : ∀ b ∈ fp, ∃ o, s.heap.get? b = some o ∧ ∀ v, o.data ≠ .cell v) : Inv X (pins ++ pinsAt fp s.heap) σ H s :=
  I.pins_of fun p hp => (List.mem_append.mp hp).elim (fun z => I.pin p (List.mem_append_right _ z)) fun z => by
    obtain ⟨hb, e⟩ := of_pinsAt z
    obtain ⟨f0, f1, f2, _⟩ := hf p.1 hb
    obtain ⟨o, e', d⟩ := ho p.1 hb
    rw [e] at e'; cases e'
    exact ⟨e, f0, f1, f2, d⟩
theorem Inv.unpinned {pins pl : List (Addr × Obj)} {σ : St} {H : Hp} {s : Shared} (I : Inv X (pins ++ pl) σ H s) : Inv X pins σ H s := I.pins_of fun p hp => I.pin p (List.mem_append_right _ (List.mem_append_left _ hp))
theorem ps_for {iter : Expr} {body : List Stmt} {wi : TI} {g : TG} {tb : TS} {pos : Pos} (hp : PassesOwn (model X.prog X.w) X.A X.env X.xe) (hc : X.calm = true) (hi : PI X tg iter wi) (hg : PG X tg g) (hb : PSs X body tb)
    (hs : ∀ x, foldedSetIterable iter X.env x = pure x := by intro _; rfl) : PS X (.For tg iter body [] pos) (tFor wi g tb) := by
  intro pins s σ H D I h
  refine wpAny_For (thn (hi pins s σ H _ I h) fun v s1 h1 => thn h1 fun itv s2 h2 => ?_) hs
  obtain ⟨it, fp, tn, J, H2, e, I2, T, st2, f2, W, ⟨m0, w0⟩, turn⟩ := h2
  subst e
  -- what stays true of the iterator's objects through the loop
  have stat : ∀ {H' : Hp}, (∀ b ∈ fp, H' b = none) → ∀ b ∈ fp, FpOk X pins H' b := fun hn b hb => ⟨hn b hb, (f2 b hb).2⟩
  refine codeAny_forLoop_any (fun n s' => ∃ i σ' H', Inv X pins σ' H' s' ∧ tn i s'.heap ∧ (∀ b ∈ fp, H' b = none) ∧ W i n σ' H') ?_ m0 ⟨0, σ, H2, I2, st2, fun b hb => (f2 b hb).1, w0⟩
  rintro n s3 ⟨i, σ3, H3, I3, st3, fr3, w3⟩
  rcases turn i n σ3 H3 w3 with ⟨stop, qn⟩ | ⟨go, N, hN, step⟩
  · refine wpAny_passesOwn hp (thn (T.done X rfl rfl rfl hc i pins s3 σ3 H3 X.xe I3 (stat fr3) st3 stop) fun r s4 ⟨hr, I4⟩ => ?_)
    subst hr
    exact wpAny_execs_nil ⟨σ3, H3, I4, qn⟩
  · refine wpAny_passesOwn hp (thn (T.item X rfl rfl rfl hc i pins s3 σ3 H3 X.xe I3 (stat fr3) st3 go) fun r s4 ⟨u, hr, h4⟩ => ?_)
    subst hr
    refine wpAny_passesOwn hp (thn h4 fun _ s5 ⟨x, H5, I5, r5, y5, st5, fr5⟩ => ?_)
    have I5' := I5.pinned (stat fr5) (T.obj _ _ st5)
    refine wpAny_passesOwn hp (thn (hg _ s5 σ3 H5 x u _ I5' r5 (step x H5 y5)) fun _ s6 ⟨σ6, H6, I6, q6⟩ => ?_)
    refine wpAny_passesOwn hp (thn (hb _ s6 σ6 H6 _ I6 q6) fun f s7 q7 => ?_)
    have again : ∀ {σ7 : St} {H7 : Hp}, Inv X (pins ++ pinsAt fp s5.heap) σ7 H7 s7 → N σ7 H7 → ∃ m, m < n ∧ ∃ i σ' H', Inv X pins σ' H' s7 ∧ tn i s7.heap ∧ (∀ b ∈ fp, H' b = none) ∧ W i m σ' H' := fun {σ7 H7} I7 n7 => by
      obtain ⟨m', hm, w7⟩ := hN σ7 H7 n7
      refine ⟨m', hm, i + 1, σ7, H7, I7.unpinned, T.keep _ _ _ st5 fun b hb o e => (I7.pin (b, o) (List.mem_append_right _ (List.mem_append_right _ (mem_pinsAt hb e)))).1, fun b hb => ?_, w7⟩
      obtain ⟨o, e, d⟩ := T.obj _ _ st5 b hb
      exact (I7.pin (b, o) (List.mem_append_right _ (List.mem_append_right _ (mem_pinsAt hb e)))).2.1
    cases f with
    | next => obtain ⟨σ7, H7, I7, n7⟩ := q7; exact again I7 n7
    | cont => obtain ⟨σ7, H7, I7, n7⟩ := q7; exact again I7 n7
    | brk => obtain ⟨σ7, H7, I7, q7⟩ := q7; exact ⟨σ7, H7, I7.unpinned, q7⟩
    | ret v => obtain ⟨x7, σ7, H7, I7, r7, q7⟩ := q7; exact ⟨x7, σ7, H7, I7.unpinned, r7, q7⟩
end

/-! ### the forms one uses -/
/-- over a list that the body leaves as it is -/
theorem for_list {K : PySem.W.Frag} {a : Addr} {xs : List V} {g : TG} {tb : TS} {D : Ends} {σ : St} {H : Hp} (Pv : Nat → St → Hp → Prop) (h0 : Pv 0 σ H) (hl : ∀ i σ H, i ≤ xs.length → Pv i σ H → SqL K H a xs)
    (hs : ∀ i x σ H, xs[i]? = some x → Pv i σ H → g x σ H fun σ2 H2 => tb { D with nx := Pv (i + 1), ct := Pv (i + 1), bk := D.nx } σ2 H2) (hd : ∀ σ H, Pv xs.length σ H → D.nx σ H) :
    ∃ W : Nat → Nat → St → Hp → Prop, (∃ m, W 0 m σ H) ∧ ∀ i m σ H, W i m σ H →
      ((Itl K a).stop i H ∧ D.nx σ H) ∨ ((Itl K a).go i H ∧ ∃ N : St → Hp → Prop, (∀ σ' H', N σ' H' → ∃ m', m' < m ∧ W (i + 1) m' σ' H') ∧ ∀ x H', (Itl K a).yld i H x H' → g x σ H' fun σ2 H2 => tb { D with nx := N, ct := N, bk := D.nx } σ2 H2) := by
  refine ⟨fun i m σ H => m = xs.length - i ∧ i ≤ xs.length ∧ Pv i σ H, ⟨xs.length, by simp, Nat.zero_le _, h0⟩, ?_⟩
  rintro i m σ H ⟨rfl, hi, p⟩
  have q := hl i σ H hi p
  by_cases hlt : i < xs.length
  · refine .inr ⟨⟨xs, xs[i], q, by simp [hlt]⟩, Pv (i + 1), fun σ' H' p' => ⟨xs.length - (i + 1), by omega, rfl, hlt, p'⟩, fun x H' y => ?_⟩
    obtain ⟨e, y⟩ := y
    subst e
    exact hs i x σ _ (y xs q) p
  · have e : i = xs.length := by omega
    subst e
    exact .inl ⟨⟨xs, q, Nat.le_refl _⟩, hd σ H p⟩
theorem for_range {lo : Int} {n : Nat} {g : TG} {tb : TS} {D : Ends} {σ : St} {H : Hp} (Pv : Nat → St → Hp → Prop) (h0 : Pv 0 σ H)
    (hs : ∀ i σ H, i < n → Pv i σ H → g (.int (lo + i)) σ H fun σ2 H2 => tb { D with nx := Pv (i + 1), ct := Pv (i + 1), bk := D.nx } σ2 H2) (hd : ∀ σ H, Pv n σ H → D.nx σ H) :
    ∃ W : Nat → Nat → St → Hp → Prop, (∃ m, W 0 m σ H) ∧ ∀ i m σ H, W i m σ H →
      ((Itr lo n).stop i H ∧ D.nx σ H) ∨ ((Itr lo n).go i H ∧ ∃ N : St → Hp → Prop, (∀ σ' H', N σ' H' → ∃ m', m' < m ∧ W (i + 1) m' σ' H') ∧ ∀ x H', (Itr lo n).yld i H x H' → g x σ H' fun σ2 H2 => tb { D with nx := N, ct := N, bk := D.nx } σ2 H2) := by
  refine ⟨fun i m σ H => m = n - i ∧ i ≤ n ∧ Pv i σ H, ⟨n, by simp, Nat.zero_le _, h0⟩, ?_⟩
  rintro i m σ H ⟨rfl, hi, p⟩
  by_cases hlt : i < n
  · refine .inr ⟨hlt, Pv (i + 1), fun σ' H' p' => ⟨n - (i + 1), by omega, rfl, hlt, p'⟩, fun x H' y => ?_⟩
    obtain ⟨e, y⟩ := y
    subst e y
    exact hs i σ _ hlt p
  · have e : i = n := by omega
    subst e
    exact .inl ⟨Nat.le_refl _, hd σ H p⟩
end L2

namespace L2
open PySem PySem.Spec PyProof.Rows

abbrev R2 := V → V → Hp → VK → Prop
/-- a two-place operation on values: f is binaryOp op, inplaceOp op or compareOp op -/
def OpR (X : Cx) (f : Value → Value → Sem Value) (r : R2) : Prop :=
  ∀ (pins : List (Addr × Obj)) (s : Shared) (σ : St) (H : Hp) (x y : V) (v u : Value) (Q : VK), Inv X pins σ H s → RelV x v → RelV y u → r x y H Q →
    wpAny (model X.prog X.w) X.A (f v u) (EP X pins σ Q) X.xe s
/-- a one-place operation -/
def UnR (X : Cx) (f : Value → Sem Value) (r : V → Hp → VK → Prop) : Prop :=
  ∀ (pins : List (Addr × Obj)) (s : Shared) (σ : St) (H : Hp) (x : V) (v : Value) (Q : VK), Inv X pins σ H s → RelV x v → r x H Q →
    wpAny (model X.prog X.w) X.A (f v) (EP X pins σ Q) X.xe s
/-- a call of a value that is known (a builtin, a type) with values -/
def CallR (X : Cx) (f : Value) (r : List V → Hp → VK → Prop) : Prop :=
  ∀ (pins : List (Addr × Obj)) (s : Shared) (σ : St) (H : Hp) (xs : List V) (us : List Value) (Q : VK), Inv X pins σ H s → Vals xs us → r xs H Q →
    wpAny (model X.prog X.w) X.A (call f us) (EP X pins σ Q) X.xe s
/-- a value's truth -/
def TruR (X : Cx) (r : V → Hp → (Bool → Hp → Prop) → Prop) : Prop :=
  ∀ (pins : List (Addr × Obj)) (s : Shared) (σ : St) (H : Hp) (x : V) (v : Value) (Q : Bool → Hp → Prop), Inv X pins σ H s → RelV x v → r x H Q →
    wpAny (model X.prog X.w) X.A (truthy v) (TP X pins σ Q) X.xe s

def tOp (r : R2) (ta tb : TE) : TE := fun σ H Q => ta σ H fun x H1 => tb σ H1 fun y H2 => r x y H2 Q
def tUn (r : V → Hp → VK → Prop) (ta : TE) : TE := fun σ H Q => ta σ H fun x H1 => r x H1 Q
/-- ints in, under C, and a value out -/
def rI (C : Int → Int → Prop) (g : Int → Int → V) : R2 := fun x y H Q => ∃ i j, x = .int i ∧ y = .int j ∧ C i j ∧ Q (g i j) H
def rI0 (g : Int → Int → V) : R2 := fun x y H Q => ∃ i j, x = .int i ∧ y = .int j ∧ Q (g i j) H
def rU (g : Int → V) : V → Hp → VK → Prop := fun x H Q => ∃ i, x = .int i ∧ Q (g i) H

section
variable {X : Cx} {a b c : Expr} {ta tb tc : TE} {pos : Pos}

theorem binT (ha : PE X a ta) (hb : PE X b tb) {pins : List (Addr × Obj)} {s : Shared} {σ : St} {H : Hp} {R : V → V → Hp → Prop} (I : Inv X pins σ H s)
    (h : ta σ H fun x H1 => tb σ H1 fun y H2 => R x y H2) {Q : Value → Shared → Prop} {f : Value → Value → Sem Value}
    (hf : ∀ v u s2 x y H2, Inv X pins σ H2 s2 → RelV x v → RelV y u → R x y H2 → wpAny (model X.prog X.w) X.A (f v u) Q X.xe s2) :
    wpAny (model X.prog X.w) X.A (eval a X.env) (fun v s₁ => wpAny (model X.prog X.w) X.A (eval b X.env) (fun u s₂ => wpAny (model X.prog X.w) X.A (f v u) Q X.xe s₂) X.xe s₁) X.xe s := by
  refine thn (ha pins s σ H _ I h) fun v s1 ⟨x, H1, I1, r1, q1⟩ => ?_
  refine thn (hb pins s1 σ H1 _ I1 q1) fun u s2 ⟨y, H2, I2, r2, q2⟩ => ?_
  exact hf v u s2 x y H2 I2 r1 r2 q2

theorem pe_op {op : Operator} {r : R2} (ho : OpR X (binaryOp op) r) (ha : PE X a ta) (hb : PE X b tb) : PE X (.BinOp a op b pos) (tOp r ta tb) := by
  intro pins s σ H Q I h
  exact wpAny_BinOp (binT ha hb I h fun v u s2 x y H2 I2 rx ry q => ho pins s2 σ H2 x y v u Q I2 rx ry q)
theorem pe_un {op : UnaryOp} {r : V → Hp → VK → Prop} (ho : UnR X (unaryOp op) r) (ha : PE X a ta) : PE X (.UnaryOp op a pos) (tUn r ta) := by
  intro pins s σ H Q I h
  exact UnaryOp_ (thn (ha pins s σ H _ I h) fun v s1 ⟨x, H1, I1, r1, q1⟩ => ho pins s1 σ H1 x v Q I1 r1 q1)
/-! ### ints -/
theorem opI {f : Value → Value → Sem Value} {C : Int → Int → Prop} {g : Int → Int → Int}
    (rule : ∀ (i j : Int) (t u : Tok) (s : Shared) (Q : Value → Shared → Prop) (E : Value → Shared → Prop), C i j → Q (.int (g i j) s.toks) { s with toks := s.toks + 1 } → wpAny (model X.prog X.w) X.A (f (.int i t) (.int j u)) Q E s) :
    OpR X f (rI C fun i j => .int (g i j)) := by
  intro pins s σ H x y v u Q I rx ry h
  obtain ⟨i, j, rfl, rfl, hc, q⟩ := h
  obtain ⟨t, rfl⟩ := rx
  obtain ⟨t', rfl⟩ := ry
  exact rule i j t t' s _ _ hc ⟨.int (g i j), H, I.tok _, ⟨_, rfl⟩, q⟩
theorem opI0 {f : Value → Value → Sem Value} {g : Int → Int → Int}
    (rule : ∀ (i j : Int) (t u : Tok) (s : Shared) (Q : Value → Shared → Prop) (E : Value → Shared → Prop), Q (.int (g i j) s.toks) { s with toks := s.toks + 1 } → wpAny (model X.prog X.w) X.A (f (.int i t) (.int j u)) Q E s) :
    OpR X f (rI0 fun i j => .int (g i j)) := by
  intro pins s σ H x y v u Q I rx ry h
  obtain ⟨i, j, rfl, rfl, q⟩ := h
  obtain ⟨t, rfl⟩ := rx
  obtain ⟨t', rfl⟩ := ry
  exact rule i j t t' s _ _ ⟨.int (g i j), H, I.tok _, ⟨_, rfl⟩, q⟩
theorem opB0 {f : Value → Value → Sem Value} {g : Int → Int → Bool}
    (rule : ∀ (i j : Int) (t u : Tok) (s : Shared) (Q : Value → Shared → Prop) (E : Value → Shared → Prop), Q (.bool (g i j)) s → wpAny (model X.prog X.w) X.A (f (.int i t) (.int j u)) Q E s) :
    OpR X f (rI0 fun i j => .bl (g i j)) := by
  intro pins s σ H x y v u Q I rx ry h
  obtain ⟨i, j, rfl, rfl, q⟩ := h
  obtain ⟨t, rfl⟩ := rx
  obtain ⟨t', rfl⟩ := ry
  exact rule i j t t' s _ _ ⟨.bl (g i j), H, I, rfl, q⟩

def CDiv (i j : Int) : Prop := 0 < j ∧ j < 1073741824
def CDivN (i j : Int) : Prop := j ≠ 0 ∧ j.natAbs < 1073741824
def CPow (i j : Int) : Prop := 0 ≤ j ∧ j ≤ 1000000 ∧ i.natAbs < 2 ^ 64
def CMul (i j : Int) : Prop := (-(2 ^ 64) < i ∧ i < 2 ^ 64) ∨ (-(2 ^ 64) < j ∧ j < 2 ^ 64)
theorem CMul.ok {i j : Int} (h : CMul i j) : IntMulOk i j := by
  rcases h with ⟨h1, h2⟩ | ⟨h1, h2⟩
  · exact .of_left (intBits_le_64 h1 h2)
  · exact .of_right (intBits_le_64 h1 h2)
theorem op_add : OpR X (binaryOp .Add) (rI0 fun i j => .int (i + j)) := opI0 fun _ _ _ _ _ _ _ q => add_int q
theorem op_sub : OpR X (binaryOp .Sub) (rI0 fun i j => .int (i - j)) := opI0 fun _ _ _ _ _ _ _ q => sub_int q
theorem op_mul : OpR X (binaryOp .Mult) (rI CMul fun i j => .int (i * j)) := opI fun _ _ _ _ _ _ _ hc q => mul_int q hc.ok
/-- // by a positive divisor -/
theorem op_fdiv : OpR X (binaryOp .FloorDiv) (rI CDiv fun i j => .int (i / j)) := opI fun i j _ _ _ _ _ hc q => by
  have h1 : (0 : Int) < j := hc.1
  have h2 : j < 1073741824 := hc.2
  exact floordiv_int (by omega) (by rw [Int.fdiv_eq_ediv_of_nonneg i (by omega)]; exact q) (.inl (PyProof.noPylong_small (by omega)))
/-- % by a positive divisor of any size -/
theorem op_mod : OpR X (binaryOp .Mod) (rI (fun _ j => 0 < j) fun i j => .int (i % j)) := opI fun i j _ _ _ _ _ hc q => by
  have h1 : (0 : Int) < j := hc
  exact mod_int' (by omega) (by rw [Int.fmod_eq_emod_of_nonneg i (by omega)]; exact q)
theorem unI {f : Value → Sem Value} {g : Int → Int}
    (rule : ∀ (i : Int) (t : Tok) (s : Shared) (Q : Value → Shared → Prop) (E : Value → Shared → Prop), Q (.int (g i) s.toks) { s with toks := s.toks + 1 } → wpAny (model X.prog X.w) X.A (f (.int i t)) Q E s) :
    UnR X f (rU fun i => .int (g i)) := by
  intro pins s σ H x v Q I rx h
  obtain ⟨i, rfl, q⟩ := h
  obtain ⟨t, rfl⟩ := rx
  exact rule i t s _ _ ⟨.int (g i), H, I.tok _, ⟨_, rfl⟩, q⟩
theorem un_neg : UnR X (unaryOp .USub) (rU fun i => .int (-i)) := unI fun _ _ _ _ _ q => neg_int q
/-! ### bools among ints: n += (a < b) -/
end

/-! ### comparisons -/
/-- the scalars that == tells apart as data does -/
def scal : V → V → Bool
  | .non, .non => true | .non, .int _ => true | .int _, .non => true | .non, .bl _ => true | .bl _, .non => true | .non, .str _ => true | .str _, .non => true
  | .int _, .int _ => true | .bl _, .bl _ => true | .str _, .str _ => true | .byt _, .byt _ => true
  | .int _, .str _ => true | .str _, .int _ => true | .bl _, .str _ => true | .str _, .bl _ => true
  | _, _ => false
def rEq : R2 := fun x y H Q => scal x y = true ∧ Q (.bl (decide (x = y))) H
def rNe : R2 := fun x y H Q => scal x y = true ∧ Q (.bl (!decide (x = y))) H

theorem dec_int {i j : Int} : decide (V.int i = V.int j) = (i == j) := by
  rw [Bool.eq_iff_iff]
  simp
theorem dec_bl {i j : Bool} : decide (V.bl i = V.bl j) = (i == j) := by
  rw [Bool.eq_iff_iff]
  simp
theorem dec_str {i j : Str} : decide (V.str i = V.str j) = (i == j) := by
  rw [Bool.eq_iff_iff]
  simp
theorem dec_byt {i j : Array UInt8} : decide (V.byt i = V.byt j) = (i.toList == j.toList) := by
  rw [Bool.eq_iff_iff]
  cases i
  cases j
  simp

section
variable {X : Cx} {a b c : Expr} {ta tb tc : TE} {pos : Pos}
theorem fin_bl {pins : List (Addr × Obj)} {σ : St} {H : Hp} {s : Shared} {Q : VK} {k k' : Bool} (I : Inv X pins σ H s) (q : Q (.bl k) H) (e : k = k') : EP X pins σ Q (.bool k') s := by
  subst e
  exact ⟨.bl k, H, I, rfl, q⟩
theorem op_eq : OpR X (compareOp .Eq) rEq := by
  intro pins s σ H x y v u Q I rx ry h
  obtain ⟨hs, q⟩ := h
  cases x with
  | non =>
    cases rx
    cases y with
    | non => cases ry; exact PySem.EqNone.eq_none_none (fin_bl I q (by simp))
    | bl j => cases ry; exact PySem.EqNone.eq_none_bool (fin_bl I q (by simp))
    | int j => obtain ⟨t', rfl⟩ := ry; exact PySem.EqNone.eq_none_int (fin_bl I q (by simp))
    | str j => obtain ⟨t', rfl⟩ := ry; exact PySem.EqNone.eq_none_str (fin_bl I q (by simp))
    | _ => exact absurd (show false = true from hs) Bool.false_ne_true
  | bl i =>
    cases rx
    cases y with
    | non => cases ry; exact PySem.EqNone.eq_bool_none (fin_bl I q (by simp))
    | bl j => cases ry; exact eq_bool (fin_bl I q dec_bl)
    | str j => obtain ⟨t', rfl⟩ := ry; exact PySem.EqMixed.eq_bool_str (fin_bl I q (by simp))
    | _ => exact absurd (show false = true from hs) Bool.false_ne_true
  | int i =>
    obtain ⟨t, rfl⟩ := rx
    cases y with
    | non => cases ry; exact PySem.EqNone.eq_int_none (fin_bl I q (by simp))
    | int j => obtain ⟨t', rfl⟩ := ry; exact eq_int (fin_bl I q dec_int)
    | str j => obtain ⟨t', rfl⟩ := ry; exact PySem.EqMixed.eq_int_str (fin_bl I q (by simp))
    | _ => exact absurd (show false = true from hs) Bool.false_ne_true
  | str i =>
    obtain ⟨t, rfl⟩ := rx
    cases y with
    | non => cases ry; exact PySem.EqNone.eq_str_none (fin_bl I q (by simp))
    | bl j => cases ry; exact PySem.EqMixed.eq_str_bool (fin_bl I q (by simp))
    | int j => obtain ⟨t', rfl⟩ := ry; exact PySem.EqMixed.eq_str_int (fin_bl I q (by simp))
    | str j => obtain ⟨t', rfl⟩ := ry; exact eq_str (fin_bl I q dec_str)
    | _ => exact absurd (show false = true from hs) Bool.false_ne_true
  | byt i =>
    obtain ⟨t, rfl⟩ := rx
    cases y with
    | byt j => obtain ⟨t', rfl⟩ := ry; exact PySem.W.eq_bytes (fin_bl I q dec_byt)
    | _ => exact absurd (show false = true from hs) Bool.false_ne_true
  | _ => cases y <;> exact absurd (show false = true from hs) Bool.false_ne_true
theorem op_ne : OpR X (compareOp .NotEq) rNe := by
  intro pins s σ H x y v u Q I rx ry h
  obtain ⟨hs, q⟩ := h
  cases x with
  | non =>
    cases rx
    cases y with
    | non => cases ry; exact PySem.EqNone.ne_none_none (fin_bl I q (by simp))
    | bl j => cases ry; exact PySem.EqNone.ne_none_bool (fin_bl I q (by simp))
    | int j => obtain ⟨t', rfl⟩ := ry; exact PySem.EqNone.ne_none_int (fin_bl I q (by simp))
    | str j => obtain ⟨t', rfl⟩ := ry; exact PySem.EqNone.ne_none_str (fin_bl I q (by simp))
    | _ => exact absurd (show false = true from hs) Bool.false_ne_true
  | bl i =>
    cases rx
    cases y with
    | non => cases ry; exact PySem.EqNone.ne_bool_none (fin_bl I q (by simp))
    | bl j => cases ry; exact ne_bool (fin_bl I q (congrArg not dec_bl))
    | str j => obtain ⟨t', rfl⟩ := ry; exact PySem.EqMixed.ne_bool_str (fin_bl I q (by simp))
    | _ => exact absurd (show false = true from hs) Bool.false_ne_true
  | int i =>
    obtain ⟨t, rfl⟩ := rx
    cases y with
    | non => cases ry; exact PySem.EqNone.ne_int_none (fin_bl I q (by simp))
    | int j => obtain ⟨t', rfl⟩ := ry; exact ne_int (fin_bl I q (congrArg not dec_int))
    | str j => obtain ⟨t', rfl⟩ := ry; exact PySem.EqMixed.ne_int_str (fin_bl I q (by simp))
    | _ => exact absurd (show false = true from hs) Bool.false_ne_true
  | str i =>
    obtain ⟨t, rfl⟩ := rx
    cases y with
    | non => cases ry; exact PySem.EqNone.ne_str_none (fin_bl I q (by simp))
    | bl j => cases ry; exact PySem.EqMixed.ne_str_bool (fin_bl I q (by simp))
    | int j => obtain ⟨t', rfl⟩ := ry; exact PySem.EqMixed.ne_str_int (fin_bl I q (by simp))
    | str j => obtain ⟨t', rfl⟩ := ry; exact ne_str (fin_bl I q (congrArg not dec_str))
    | _ => exact absurd (show false = true from hs) Bool.false_ne_true
  | byt i =>
    obtain ⟨t, rfl⟩ := rx
    cases y with
    | byt j => obtain ⟨t', rfl⟩ := ry; exact PySem.W.ne_bytes (fin_bl I q (congrArg not dec_byt))
    | _ => exact absurd (show false = true from hs) Bool.false_ne_true
  | _ => cases y <;> exact absurd (show false = true from hs) Bool.false_ne_true

theorem op_lt : OpR X (compareOp .Lt) (rI0 fun i j => .bl (decide (i < j))) := opB0 fun _ _ _ _ _ _ _ q => lt_int q
theorem op_gt : OpR X (compareOp .Gt) (rI0 fun i j => .bl (decide (j < i))) := opB0 fun _ _ _ _ _ _ _ q => gt_int q
theorem op_ge : OpR X (compareOp .GtE) (rI0 fun i j => .bl (decide (j ≤ i))) := opB0 fun _ _ _ _ _ _ _ q => ge_int q
/-- the one string within the other -/
theorem op_in_str : OpR X (compareOp .In) (fun x y H Q => ∃ i j, x = .str i ∧ y = .str j ∧ Q (.bl (!(Builtin.Str.occurrences j i 0 j.length 1).isEmpty)) H) := by
  intro pins s σ H x y v u Q I rx ry h
  obtain ⟨i, j, rfl, rfl, q⟩ := h
  obtain ⟨t, rfl⟩ := rx
  obtain ⟨t', rfl⟩ := ry
  exact in_str (fin_bl I q rfl)

/-- is None, is not None: the right side a value none -/
theorem op_isN : OpR X (compareOp .Is) (fun x y H Q => y = .non ∧ Q (.bl (decide (x = .non))) H) := by
  intro pins s σ H x y v u Q I rx ry h
  obtain ⟨rfl, q⟩ := h
  cases ry
  refine is_none_gen (fin_bl I q ?_)
  cases x <;> first
    | (cases rx; rfl)
    | (obtain ⟨t, rfl⟩ := rx; rfl)
theorem op_notN : OpR X (compareOp .IsNot) (fun x y H Q => y = .non ∧ Q (.bl (!decide (x = .non))) H) := by
  intro pins s σ H x y v u Q I rx ry h
  obtain ⟨rfl, q⟩ := h
  cases ry
  refine isnot_none_gen (fin_bl I q ?_)
  cases x <;> first
    | (cases rx; rfl)
    | (obtain ⟨t, rfl⟩ := rx; rfl)

/-- is, is not of two objects that are tracked lists or instances -/
def isObj : HO → Bool
  | .lst _ => true
  | .ins _ _ _ => true
  | _ => false
theorem nomark (b : Expr) {op : CmpOp} (h : op ≠ .In := by decide) (h2 : op ≠ .NotIn := by decide) : behindInMarks op b = false := by
  have e1 : (op == CmpOp.In) = false := by cases op <;> first | rfl | exact absurd rfl h
  have e2 : (op == CmpOp.NotIn) = false := by cases op <;> first | rfl | exact absurd rfl h2
  cases b <;> simp [behindInMarks, e1, e2]
/-- a comparison as a value; hm: nomark b, or (for in, not in) by with_unfolding_all rfl -/
theorem pe_cmpR {op : CmpOp} {r : R2} (ho : OpR X (compareOp op) r) (ha : PE X a ta) (hb : PE X b tb) (hm : behindInMarks op b = false) : PE X (.Compare a [op] [b] pos) (tOp r ta tb) := by
  intro pins s σ H Q I h
  exact wpAny_Compare1 (binT ha hb I h fun v u s2 x y H2 I2 rx ry q => ho pins s2 σ H2 x y v u Q I2 rx ry q) hm
/-- a reading of a value as a test -/
def tTest (t : TE) : TT := fun σ H Q => t σ H fun x H' => ∃ k, x = .bl k ∧ Q k H'
theorem pt_cmpR {op : CmpOp} {r : R2} (ho : OpR X (compareOp op) r) (ha : PE X a ta) (hb : PE X b tb) (hm : behindInMarks op b = false) : PT X (.Compare a [op] [b] pos) (tTest (tOp r ta tb)) := by
  intro pins s σ H Q I h
  refine wpAny_isTrue_Compare1 (thn (ha pins s σ H _ I h) fun v s1 ⟨x, H1, I1, r1, q1⟩ => thn (hb pins s1 σ H1 _ I1 q1) fun u s2 ⟨y, H2, I2, r2, q2⟩ =>
    thn (ho pins s2 σ H2 x y v u _ I2 r1 r2 q2) fun c s3 ⟨z, H3, I3, r3, k, e, q3⟩ => ?_) hm
  subst e
  cases r3
  exact wpAny_truthy_bool ⟨H3, I3, q3⟩
/-- a op1 b op2 c -/
def tChain (r r' : R2) (ta tb tc : TE) : TE := fun σ H Q => ta σ H fun x H1 => tb σ H1 fun y H2 => r x y H2 fun z H3 => ∃ k, z = .bl k ∧
  (if k = true then tc σ H3 fun w' H4 => r' y w' H4 Q else Q (.bl false) H3)
/-! ### truth -/
/-- a value's truth by the abstract heap -/
def TruV (K : PySem.W.Frag) (x : V) (H : Hp) (k : Bool) : Prop :=
  match x with
  | .non => k = false
  | .bl b => k = b
  | .int i => k = (i != 0)
  | .str y => y.length ≤ sizeLine ∧ k = ((y.length : Int) != 0)
  | .byt y => y.size ≤ sizeLine ∧ k = ((y.size : Int) != 0)
  | .ref p => (∃ xs, SqL K H p xs ∧ k = !xs.isEmpty) ∨ (∃ xs, SqT K H p xs ∧ k = !xs.isEmpty) ∨ ∃ kvs, H p = some (.dK kvs) ∧ k = !kvs.isEmpty
  | _ => False
theorem line63 : (sizeLine : Nat) < 2 ^ 63 := by rw [sizeLine_eq]; decide
/-! ### strs and bytes -/
theorem op_add_str : OpR X (binaryOp .Add) (fun x y H Q => ∃ i j, x = .str i ∧ y = .str j ∧ i.length + j.length ≤ sizeLine ∧ Q (.str (i ++ j)) H) := by
  intro pins s σ H x y v u Q I rx ry h
  obtain ⟨i, j, rfl, rfl, hz, q⟩ := h
  obtain ⟨t, rfl⟩ := rx
  obtain ⟨t', rfl⟩ := ry
  exact add_str (fun t' tk => ⟨.str (i ++ j), H, I.tok _, ⟨_, rfl⟩, q⟩) hz
def PlainIxT (b : Expr) : Prop := ∀ o i, subscripted b false o i = operate [o, i] (getItem o i)
/-! ### scalar builtins, by CallR -/
theorem vals1 {x : V} {us : List Value} (r : Vals [x] us) : ∃ u, us = [u] ∧ RelV x u := by
  cases r with
  | cons r1 r2 => cases r2; exact ⟨_, rfl, r1⟩
theorem vals2 {x y : V} {us : List Value} (r : Vals [x, y] us) : ∃ u w', us = [u, w'] ∧ RelV x u ∧ RelV y w' := by
  cases r with
  | cons r1 r2 =>
    cases r2 with
    | cons r3 r4 => cases r4; exact ⟨_, _, rfl, r1, r3⟩
theorem call_max2 (hc : X.calm = true) : CallR X (.builtin "max") (fun xs H Q => ∃ i j, xs = [.int i, .int j] ∧ Q (.int (if j > i then j else i)) H) := by
  intro pins s σ H xs us Q I r h
  obtain ⟨i, j, rfl, q⟩ := h
  obtain ⟨u, w', rfl, ⟨t, rfl⟩, ⟨t', rfl⟩⟩ := vals2 r
  refine max_two_ints (I.ok.hd hc) fun h' tk k => ⟨_, H, I.kept k, ?_, q⟩
  by_cases hj : j > i
  · rw [if_pos hj, if_pos hj]; exact ⟨_, rfl⟩
  · rw [if_neg hj, if_neg hj]; exact ⟨_, rfl⟩
theorem call_min2 (hc : X.calm = true) : CallR X (.builtin "min") (fun xs H Q => ∃ i j, xs = [.int i, .int j] ∧ Q (.int (if j < i then j else i)) H) := by
  intro pins s σ H xs us Q I r h
  obtain ⟨i, j, rfl, q⟩ := h
  obtain ⟨u, w', rfl, ⟨t, rfl⟩, ⟨t', rfl⟩⟩ := vals2 r
  refine min_two_ints (I.ok.hd hc) fun h' tk k => ⟨_, H, I.kept k, ?_, q⟩
  by_cases hj : j < i
  · rw [if_pos hj, if_pos hj]; exact ⟨_, rfl⟩
  · rw [if_neg hj, if_neg hj]; exact ⟨_, rfl⟩
theorem call_int1 : CallR X (.type "int") (fun xs H Q => (∃ i, xs = [.int i] ∧ Q (.int i) H) ∨ ∃ k, xs = [.bl k] ∧ Q (.int (if k then 1 else 0)) H) := by
  intro pins s σ H xs us Q I r h
  rcases h with ⟨i, rfl, q⟩ | ⟨k, rfl, q⟩
  · obtain ⟨u, rfl, t, rfl⟩ := vals1 r
    exact call_int_int ⟨.int i, H, I, ⟨_, rfl⟩, q⟩
  · obtain ⟨u, rfl, r1⟩ := vals1 r
    cases r1
    exact call_int_bool ⟨.int (if k then 1 else 0), H, I.tok _, ⟨_, rfl⟩, q⟩
/-- len of a str, a bytes, a list, a tuple -/
def LenV (K : PySem.W.Frag) (x : V) (H : Hp) (n : Nat) : Prop :=
  match x with
  | .str y => y.length ≤ sizeLine ∧ n = y.length
  | .byt y => y.size ≤ sizeLine ∧ n = y.size
  | .ref p => (∃ xs, SqL K H p xs ∧ n = xs.length) ∨ ∃ xs, SqT K H p xs ∧ n = xs.length
  | _ => False
/-- divmod: a new tuple -/
theorem call_divmod : CallR X (.builtin "divmod") (fun xs H Q => ∃ i j, xs = [.int i, .int j] ∧ CDiv i j ∧ ∀ p, H p = none → Q (.ref p) (upd H p (.tup [.int (i / j), .int (i % j)]))) := by
  intro pins s σ H xs us Q I r h
  obtain ⟨i, j, rfl, ⟨h1, h2⟩, q⟩ := h
  obtain ⟨u, w', rfl, ⟨t, rfl⟩, ⟨t', rfl⟩⟩ := vals2 r
  refine divmod_int (by omega) ?_ (.inl (PyProof.noPylong_small (by omega)))
  rw [Int.fdiv_eq_ediv_of_nonneg i (by omega), Int.fmod_eq_emod_of_nonneg i (by omega)]
  have hn : H s.heap.objs.size = none := I.hok.fresh (Nat.le_refl _)
  refine ⟨.ref s.heap.objs.size, _, ?_, rfl, q _ hn⟩
  refine I.laid (fun b o e => Heap.get?_push_of_some _ e) (Nat.le_refl _) ⟨by simp only [List.length_cons, List.length_nil]; rw [sizeLine_eq]; decide, [.int (i / j) s.toks, .int (i % j) (s.toks + 1)], .cons ⟨_, rfl⟩ (.cons ⟨_, rfl⟩ .nil), ?_⟩
  exact ⟨_, Heap.get?_push_size s.heap rfl, rfl, 0, rfl⟩
end
end L2

namespace L2
open PySem PySem.Spec PyProof.Rows

/-! ### an instance, its attributes a map -/
structure ObjM (h : Heap) (x dx C : Addr) (mA : Str → Option Value) : Prop where
  obj : h.get? x = some (PySem.W.instObj C dx)
  ns : h.Ns1 dx mA
  ne : dx ≠ x

theorem lookIn_ns {h : Heap} {dx : Addr} {mA : Str → Option Value} (n : h.Ns1 dx mA) : ∃ od, h.get? dx = some od ∧ ∀ name, PySem.W.lookIn name od = some (mA name) := by
  obtain ⟨o, es, ep, ho, hd, hk, _, hm⟩ := n
  refine ⟨o, ho, fun name => ?_⟩
  have e := hm name
  unfold nsFind findBy at e
  rw [← Array.find?_toList] at e
  unfold PySem.W.lookIn
  rw [hd]
  dsimp only
  split
  · rename_i y q
    rw [q] at e
    exact congrArg some e
  · rename_i q
    rw [q] at e
    have a : es.toList.any (·.refKey) = false := by
      rw [List.any_eq_false]
      intro y hy
      obtain ⟨z, t, hkey⟩ := hk y (Array.mem_toList_iff.mp hy)
      simp [DictEntry.refKey, hkey]
    have a' : ¬ es.toList.any (·.refKey) = true := by rw [a]; exact Bool.false_ne_true
    rw [if_neg a']
    exact congrArg some e

theorem ObjM.look {h : Heap} {x dx C : Addr} {mA : Str → Option Value} (I : ObjM h x dx C mA) : ∃ od, PySem.W.InstAt h x (PySem.W.instObj C dx) C (some od) ∧ ∀ name, PySem.W.lookIn name od = some (mA name) :=
  let ⟨od, ho, hl⟩ := lookIn_ns I.ns
  ⟨od, ⟨I.obj, rfl, rfl, ho⟩, hl⟩

section
variable {prog : Program} {w : World} {A : Around} {E : Value → Shared → Prop} {s : Shared} {K : PySem.W.Frag} {x dx C f : Addr} {mA : Str → Option Value} {name : Str} {v : Value}

end

/-! ### the attributes as a list of pairs -/
def putF (f : Str) (v : V) : List (Str × V) → List (Str × V)
  | [] => [(f, v)]
  | (g, x) :: r => if g = f then (g, v) :: r else (g, x) :: putF f v r
section
variable {P : Program} {w : World} {H H' : Hp} {h h' : Heap} {a C dx : Addr} {fs fs' : List (Str × V)}
theorem ins_get (hok : HOk P w H h) (e : H a = some (.ins C dx fs)) : ∃ mA, ObjM h a dx C mA ∧ (∀ f, RelO (fs.lookup f) (mA f)) ∧ PySem.Within mA (fs.map (·.1)) ∧ fs.length ≤ 1000 ∧ H dx = some (.own a) := by
  obtain ⟨d, z, ne, ob, mA, n, r, q⟩ := (show ObjOk P w H h a (.ins C dx fs) from hok a _ e)
  exact ⟨mA, ⟨ob, n, ne⟩, r, q, z, d⟩
end

/-! ### what of the text a class must have -/
structure Cls (K : PySem.W.Frag) (C : Addr) : Prop where
  pg : PySem.W.plainGet K C Str.empty = true
  hd : PySem.W.hasDictIn K C = true
  po : PySem.W.plainOver K C = true
  sa : PySem.W.findIn K (.ref C) "__setattr__" = some (some (.builtin "object.__setattr__"))
theorem Cls.get {K : PySem.W.Frag} {C : Addr} (c : Cls K C) (f : Str) : PySem.W.plainGet K C f = true := c.pg
/-- no class of it has the name -/
def NoAttr (K : PySem.W.Frag) (C : Addr) (f : Str) : Prop := PySem.W.findIn K (.ref C) f = some none
/-- a constant of the class -/
structure Con (K : PySem.W.Frag) (C : Addr) (f : Str) (v : V) (u : Value) : Prop where
  at_ : PySem.W.findIn K (.ref C) f = some (some u)
  rel : RelV v u
  get : PySem.W.specialIn K u "__get__" = some none
  cp : PySem.W.copiedNames.contains f = false
/-- a method: a plain def of the class or of one above it -/
structure Meth (K : PySem.W.Frag) (C : Addr) (m : Str) (f : Addr) : Prop where
  at_ : PySem.W.findIn K (.ref C) m = some (some (.ref f))
  fn : PySem.W.isFn K (.ref f) = true
  kp : PySem.W.keepIn K (.ref f) = true

section
variable {X : Cx} {pins : List (Addr × Obj)} {σ : St} {H : Hp} {s : Shared} {a C dx : Addr} {fs : List (Str × V)} {f : Str} {v : V} {A : Around} {E : Value → Shared → Prop}

end

/-! ### readings and rules -/
/-- e.f, an attribute of the instance -/
def tFld (K : PySem.W.Frag) (ta : TE) (f : Str) : TE := fun σ H Q => ta σ H fun x H1 => ∃ a C dx fs v, x = .ref a ∧ H1 a = some (.ins C dx fs) ∧ Cls K C ∧ NoAttr K C f ∧ fs.lookup f = some v ∧ Q v H1
/-- e.f, a constant of the class -/
def tCon (K : PySem.W.Frag) (ta : TE) (f : Str) : TE := fun σ H Q => ta σ H fun x H1 => ∃ a C dx fs v u, x = .ref a ∧ H1 a = some (.ins C dx fs) ∧ Cls K C ∧ Con K C f v u ∧ fs.lookup f = none ∧ Q v H1
/-- e.f = value -/
def sFld (K : PySem.W.Frag) (ta tv : TE) (f : Str) : TS := fun D σ H => tv σ H fun y H1 => ta σ H1 fun x H2 => ∃ a C dx fs, x = .ref a ∧ H2 a = some (.ins C dx fs) ∧ Cls K C ∧ NoAttr K C f ∧ fs.length < 1000 ∧
  D.nx σ (upd H2 a (.ins C dx (putF f y fs)))
/-- an augmented operator on two values -/
def InOp (X : Cx) (op : Operator) (rd : V → V → Hp → VK → Prop) : Prop :=
  ∀ (pins : List (Addr × Obj)) (s : Shared) (σ : St) (H : Hp) (x y : V) (u v : Value) (Q : VK), Inv X pins σ H s → RelV x u → RelV y v → rd x y H Q → wpAny (model X.prog X.w) X.A (inplaceOp op u v) (EP X pins σ Q) X.xe s
/-- e.f op= value -/
def sFldAug (K : PySem.W.Frag) (ta tv : TE) (rd : V → V → Hp → VK → Prop) (f : Str) : TS := fun D σ H => ta σ H fun x H1 => ∃ a C dx fs v, x = .ref a ∧ H1 a = some (.ins C dx fs) ∧ Cls K C ∧ NoAttr K C f ∧ fs.lookup f = some v ∧
  tv σ H1 fun y H2 => rd v y H2 fun z H3 => ∃ dx' fs', H3 a = some (.ins C dx' fs') ∧ fs'.length < 1000 ∧ D.nx σ (upd H3 a (.ins C dx' (putF f z fs')))

section
variable {X : Cx} {o e value : Expr} {f : Str} {pos pos' tpos : Pos} {ta tv : TE}
def rAdd : V → V → Hp → VK → Prop := fun x y H Q => ∃ i j, x = .int i ∧ y = .int j ∧ Q (.int (i + j)) H
def rSub : V → V → Hp → VK → Prop := fun x y H Q => ∃ i j, x = .int i ∧ y = .int j ∧ Q (.int (i - j)) H
end

/-! ### isinstance -/
section
variable {X : Cx} {pins : List (Addr × Obj)} {σ : St} {H : Hp} {s : Shared} {A : Around} {E : Value → Shared → Prop} {Q : Value → Shared → Prop} {c : Value} {b : Bool}
/-- the type of a value, as the fragment's deciders take it; for an instance its class -/
inductive TyOf (K : PySem.W.Frag) (H : Hp) : V → Value → Prop where
  | non : TyOf K H .non (.type "NoneType")
  | bl (x : Bool) : TyOf K H (.bl x) (.type "bool")
  | int (i : Int) : TyOf K H (.int i) (.type "int")
  | str (x : Str) : TyOf K H (.str x) (.type "str")
  | flt (x : UInt64) : TyOf K H (.flt x) (.type "float")
  | lst {a : Addr} {xs : List V} (e : H a = some (.lst xs)) : TyOf K H (.ref a) (.type "list")
  | frz {a : Addr} {o : Obj} {xs : List V} (e : H a = some (.frz o (.lst xs))) : TyOf K H (.ref a) (.type "list")
  | tup {a : Addr} {xs : List V} (e : H a = some (.tup xs)) : TyOf K H (.ref a) (.type "tuple")
  | dK {a : Addr} {kvs : List (Key × V)} (e : H a = some (.dK kvs)) : TyOf K H (.ref a) (.type "dict")
  | dT {a : Addr} {kvs : List (List Key × V)} (e : H a = some (.dT kvs)) : TyOf K H (.ref a) (.type "dict")
  | ins {a C dx : Addr} {fs : List (Str × V)} (e : H a = some (.ins C dx fs)) (cl : Cls K C) (ha : PySem.W.findIn K (.ref C) "__class__" = some (some (.builtin "object.__class__")))
      (hn : PySem.W.specialIn K (.builtin "object.__class__") "__get__" = some (some (.builtin "getset_descriptor.__get__"))) (htk : PySem.W.takesIn K (.builtin "object.__class__") = some true)
      (hm : PySem.W.mroIn K C (.type "object") = some true) : TyOf K H (.ref a) (.ref C)
/-- isinstance(x, c) for one class c, a built-in or an own one: kitOne's answer -/
theorem isinst_ok {x : V} {u t : Value} (I : Inv X pins σ H s) (rx : RelV x u) (ty : TyOf X.K H x t) (e : PySem.W.kitOne X.K t c = some b) (h : ∀ tk, Q (.bool b) { s with toks := tk }) :
    wpAny (model X.prog X.w) A (call (.builtin "isinstance") [u, c]) Q E s := by
  cases ty with
  | non => cases (show u = Value.none from rx); exact PySem.W.kia_one PySem.W.kitx_none I.kIn True.intro e (fun z => nomatch z) h
  | bl y => cases (show u = Value.bool y from rx); exact PySem.W.kia_one PySem.W.kitx_bool I.kIn True.intro e (fun z => nomatch z) h
  | int i => obtain ⟨t, q⟩ := (show ∃ t, u = Value.int i t from rx); cases q; exact PySem.W.kia_one PySem.W.kitx_int I.kIn True.intro e (fun z => nomatch z) h
  | str y => obtain ⟨t, q⟩ := (show ∃ t, u = Value.str y t from rx); cases q; exact PySem.W.kia_one PySem.W.kitx_str I.kIn True.intro e (fun z => nomatch z) h
  | flt y => obtain ⟨t, q⟩ := (show ∃ t, u = Value.float y t from rx); cases q; exact PySem.W.kia_one PySem.W.kitx_float I.kIn True.intro e (fun z => nomatch z) h
  | @lst a xs ea =>
    cases (show u = Value.ref a from rx)
    obtain ⟨_, _, n, _, h1⟩ := (show ObjOk X.prog X.w H s.heap a (.lst xs) from I.hok a _ ea)
    exact PySem.W.kia_one PySem.W.kitx_list I.kIn ⟨_, h1, rfl⟩ e (fun z => nomatch z) h
  | @frz a ob xs ea =>
    cases (show u = Value.ref a from rx)
    obtain ⟨_, _, _, n, _, h1⟩ := (show ObjOk X.prog X.w H s.heap a (.frz ob (.lst xs)) from I.hok a _ ea)
    exact PySem.W.kia_one PySem.W.kitx_list I.kIn ⟨_, h1, rfl⟩ e (fun z => nomatch z) h
  | @tup a xs ea =>
    cases (show u = Value.ref a from rx)
    obtain ⟨_, _, _, p⟩ := (show ObjOk X.prog X.w H s.heap a (.tup xs) from I.hok a _ ea)
    obtain ⟨o, h1, h2, _⟩ := p
    exact PySem.W.kia_one PySem.W.kitx_tuple I.kIn ⟨o, h1, h2⟩ e (fun z => nomatch z) h
  | @dK a kvs ea =>
    cases (show u = Value.ref a from rx)
    obtain ⟨_, _, vs, _, p⟩ := (show ObjOk X.prog X.w H s.heap a (.dK kvs) from I.hok a _ ea)
    obtain ⟨o, es, ep, h1, h2, _⟩ := p
    exact PySem.W.kia_one PySem.W.kitx_dict I.kIn ⟨o, h1, h2.1⟩ e (fun z => nomatch z) h
  | @dT a kvs ea =>
    cases (show u = Value.ref a from rx)
    obtain ⟨_, _, xs, _, o, es, ep, h1, h2, _⟩ := (show ObjOk X.prog X.w H s.heap a (.dT kvs) from I.hok a _ ea)
    exact PySem.W.kia_one PySem.W.kitx_dict I.kIn ⟨o, h1, h2.1⟩ e (fun z => nomatch z) h
  | @ins a C dx fs ea cl ha hn htk hm =>
    cases (show u = Value.ref a from rx)
    obtain ⟨mA, O, _⟩ := ins_get I.hok ea
    obtain ⟨od, J, _⟩ := O.look
    exact PySem.W.kia_one (PySem.W.kitx_own (cl.get _) cl.hd ha hn htk hm) I.kIn J e (fun z => nomatch z) h
end
end L2

namespace L2
open PySem PySem.Spec PyProof.Rows

/-! ### room -/
structure Room (k : Nat) (A : Around) : Prop where
  hd : A.handled = none
  dp : A.depth + 3 * k + 5 < recursionLimit
  un : A.units + 16 * k + 200 < cLine
theorem Room.mono {j k : Nat} {A : Around} (r : Room k A) (h : j ≤ k) : Room j A := ⟨r.hd, by have := r.dp; omega, by have := r.un; omega⟩
theorem Room.deeper {k : Nat} {A : Around} (r : Room (k + 1) A) (env : Env) : Room k (A.deeper env) :=
  ⟨r.hd, by have := r.dp; show A.depth + 1 + 3 * k + 5 < _; omega, by have := r.un; show A.units + 3 + 16 * k + 200 < _; omega⟩
theorem Room.depth {k : Nat} {A : Around} (r : Room k A) : A.depth < recursionLimit := by have := r.dp; omega
theorem Room.units0 {k : Nat} {A : Around} (r : Room k A) : A.units < cLine := by have := r.un; omega

/-! ### argument lists and displays -/
def tNil : TA := fun _ H Q => Q [] H
def tCons (ta : TE) (tr : TA) : TA := fun σ H Q => ta σ H fun x H1 => tr σ H1 fun xs H2 => Q (x :: xs) H2
section
variable {X : Cx} {e : Expr} {es : List Expr} {te : TE} {t : TA} {pos : Pos}
theorem pa_nil : PA X [] tNil := fun _ _ _ _ H Q I h => Calls.spliced_nil ⟨[], H, I, .nil, h⟩
theorem pa_cons (ha : PE X e te) (hr : PA X es t) (hs : starEach (e :: es) X.env = (false, eval e X.env) :: starEach es X.env := by rfl) : PA X (e :: es) (tCons te t) := by
  intro pos pins s σ H Q I h
  rw [hs]
  show wpAny _ _ (spliced ((false, eval e X.env) :: backTo pos (starEach es X.env))) _ _ s
  refine Calls.spliced_cons (thn (ha pins s σ H _ I h) fun u s1 ⟨x, H1, I1, r1, q1⟩ => ?_)
  exact thn (hr pos pins s1 σ H1 _ I1 q1) fun us s2 ⟨xs, H2, I2, r2, q2⟩ => ⟨x :: xs, H2, I2, .cons r1 r2, q2⟩

/-- a tuple, a list of written items -/
def tTup (t : TA) : TE := fun σ H Q => t σ H fun xs H1 => xs.length ≤ sizeLine ∧ ∀ p, H1 p = none → Q (.ref p) (upd H1 p (.tup xs))
def tLst (t : TA) : TE := fun σ H Q => t σ H fun xs H1 => xs.length ≤ sizeLine ∧ ∀ p, H1 p = none → Q (.ref p) (upd H1 p (.lst xs))
theorem pe_lst (h : PA X es t) : PE X (.List es pos) (tLst t) := by
  intro pins s σ H Q I hq
  refine wpAny_List_spliced (thn (h pos pins s σ H _ I hq) fun us s1 ⟨xs, H1, I1, r, z, q⟩ => ⟨by rw [← r.length]; exact z, ?_⟩)
  have hf : H1 s1.heap.objs.size = none := I1.hok.fresh (Nat.le_refl _)
  refine ⟨.ref s1.heap.objs.size, upd H1 s1.heap.objs.size (.lst xs), I1.laid (t' := s1.toks) (fun b u e => Heap.get?_push_of_some _ e) (Nat.le_refl _) ?_, rfl, q _ hf⟩
  exact ⟨z, us, 0, r, Heap.get?_push_size _ rfl⟩
end

/-! ### what a def promises -/
/-- a def's promise: the bound arguments in the parameters' order, the heap, the wanted end, the wanted exception -/
abbrev Sp := List V → Hp → VK → XK → Prop
/-- how an exception lies behind a call (file 08 gives it): the callers' frames, abstract heap and state ahead of the call, the wish, the exception, the state -/
abbrev CXT := List Env → Hp → Shared → XK → Value → Shared → Prop

/-- the state at a call -/
structure Env0 (P : Program) (w : World) (K : PySem.W.Frag) (mg : Str → Option Value) (base : Heap) (A : Around) (outer : List Env) (s : Shared) (H : Hp) : Prop where
  frames : A.frames = some outer
  mod : Mod K mg base
  bs : ∀ b o, base.get? b = some o → s.heap.get? b = some o ∧ H b = none
  bsz : base.objs.size ≤ s.heap.objs.size
  funs : s.heap.FunFrames base outer
  frf : ∀ b ∈ frs outer, H b = none
  hok : HOk P w H s.heap
  bare : AllBare s.gens
/-- a call's end -/
def CE (outer : List Env) (P : Program) (w : World) (H : Hp) (s : Shared) (Q : VK) (u : Value) (s' : Shared) : Prop :=
  ∃ v H', s'.os = s.os ∧ AllBare s'.gens ∧ Un (frs outer) [] H H' s.heap s'.heap ∧ HOk P w H' s'.heap ∧ RelV v u ∧ Q v H'
def CR (CX : CXT) (outer : List Env) (P : Program) (w : World) (H : Hp) (s : Shared) (Q : VK) (E : XK) (r : Result) (s' : Shared) : Prop :=
  match r with
  | .ok (.ret u) => CE outer P w H s Q u s'
  | .ok _ => False
  | .error e => CX outer H s E e s'
structure FnOk (P : Program) (w : World) (K : PySem.W.Frag) (mg : Str → Option Value) (base : Heap) (CX : CXT) (k : Nat) (f : Addr) (fd : FuncData) (ps : List Str) (sp : Sp) : Prop where
  len : ∀ vs H Q E, sp vs H Q E → vs.length = ps.length
  run : ∀ (A : Around) (outer : List Env) (s : Shared) (H : Hp) (args : Args) (us : List Value) (vs : List V) (Q : VK) (E : XK), Room k A → Env0 P w K mg base A outer s H → BindsTo s fd args (ps.zip us) → Vals vs us → sp vs H Q E →
    codeAny (model P w) A (.call (.ref f) args) (CR CX outer P w H s Q E) s
theorem FnOk.mono {P : Program} {w : World} {K : PySem.W.Frag} {mg : Str → Option Value} {base : Heap} {CX : CXT} {j k : Nat} {f : Addr} {fd : FuncData} {ps : List Str} {sp : Sp} (F : FnOk P w K mg base CX j f fd ps sp) (h : j ≤ k) :
    FnOk P w K mg base CX k f fd ps sp := ⟨F.len, fun A outer s H args us vs Q E hr => F.run A outer s H args us vs Q E (hr.mono h)⟩
section
variable {X : Cx} {pins : List (Addr × Obj)} {σ : St} {H : Hp} {s s' : Shared}
/-- from a body: what a callee wants -/
theorem Inv.env0 (I : Inv X pins σ H s) : Env0 X.prog X.w X.K X.mg X.base X.A X.stack s H :=
  ⟨I.ok.frames, I.ok.mod, I.bs, Nat.le_trans I.ok.bsz I.sz, I.stack, I.stkFree, I.hok, I.bare⟩
/-- behind a call -/
theorem Inv.after {Q : VK} {u : Value} (I : Inv X pins σ H s) (h : CE X.stack X.prog X.w H s Q u s') : EP X pins σ Q u s' := by
  obtain ⟨v, H', os, bare, un, hok, r, q⟩ := h
  obtain ⟨hh, g, d, t, os'⟩ := s'
  obtain rfl : os' = s.os := os
  exact ⟨v, H', I.call (h' := hh) (g' := g) (d' := d) (t' := t) (ch := []) un hok bare (fun b z => absurd z (by simp)), r, q⟩
end

/-! ### calls -/
/-- f(..): the written arguments, then the defaults dvs; E: what is wanted of an exception -/
def tCall (sp : Sp) (dvs : List V) (E : XK) (t : TA) : TE := fun σ H Q => t σ H fun vs H1 => sp (vs ++ dvs) H1 Q E
/-- o.m(..) of an instance of the class at C -/
def tMeth (C : Addr) (m : Str) (sp : Sp) (dvs : List V) (E : XK) (ta : TE) (t : TA) : TE := fun σ H Q => ta σ H fun x H1 => ∃ a dx fs, x = .ref a ∧ H1 a = some (.ins C dx fs) ∧ fs.lookup m = none ∧
  t σ H1 fun vs H2 => sp (x :: (vs ++ dvs)) H2 Q E
/-- C(..): a new instance and its dict, then __init__ -/
def tMake (C : Addr) (sp : Sp) (dvs : List V) (E : XK) (t : TA) : TE := fun σ H Q => t σ H fun vs H1 => ∀ x dx, H1 x = none → H1 dx = none → dx ≠ x →
  sp (.ref x :: (vs ++ dvs)) (upd (upd H1 dx (.own x)) x (.ins C dx [])) (fun v H2 => v = .non ∧ Q (.ref x) H2) E

/-- how the parameters are bound: us the positional arguments, kw the keywords' values by name, ds the defaults that fill up -/
def Binds (K : PySem.W.Frag) (fd : FuncData) (ps : List Str) (ds : List Value) : Prop :=
  ∀ (s : Shared) (us : List Value), K.In s.heap → (us ++ ds).length = ps.length → BindsTo s fd ⟨us, []⟩ (ps.zip (us ++ ds))
/-- every parameter is given -/
theorem Binds.all {K : PySem.W.Frag} {fd : FuncData} {ps : List Str} (h : ∀ us : List Value, us.length = ps.length → bindArgs fd ⟨us, []⟩ = pure (ps.zip us)) : Binds K fd ps [] := fun s us _ hl => by
  rw [List.append_nil] at hl ⊢
  exact .of_eq (h us hl)

/-- an exception of a callee reaches what this body wants of exceptions -/
def Passes (CX : CXT) (X : Cx) (E : XK) : Prop := ∀ (pins : List (Addr × Obj)) (σ : St) (H : Hp) (s : Shared) (e : Value) (s' : Shared), Inv X pins σ H s → CX X.stack H s E e s' → X.xe e s'

section
variable {X : Cx} {CX : CXT} {k : Nat} {f C : Addr} {fd : FuncData} {ps : List Str} {sp : Sp} {dvs : List V} {ds : List Value} {E : XK} {x m : Str} {p pos apos : Pos} {e o : Expr} {es : List Expr} {ta : TE} {t : TA}

/-- the callee runs -/
theorem run_fn {pins : List (Addr × Obj)} {σ : St} {H : Hp} {s : Shared} {Q : VK} {us : List Value} {vs : List V} (F : FnOk X.prog X.w X.K X.mg X.base CX k f fd ps sp) (hr : Room k X.A) (hb : Binds X.K fd ps ds) (hd : Vals dvs ds) (hx : Passes CX X E)
    (I : Inv X pins σ H s) (r : Vals vs us) (h : sp (vs ++ dvs) H Q E) : wpAny (model X.prog X.w) X.A (call (.ref f) us) (EP X pins σ Q) X.xe s := by
  have r2 : Vals (vs ++ dvs) (us ++ ds) := r.append hd
  have hl : (us ++ ds).length = ps.length := by rw [← r2.length]; exact F.len _ _ _ _ h
  refine wpAny_call (codeAny_mono (F.run X.A X.stack s H ⟨us, []⟩ (us ++ ds) (vs ++ dvs) Q E hr I.env0 (hb s us I.kIn hl) r2 h) fun r s' hq => ?_)
  cases r with
  | error e => exact hx pins σ H s e s' I hq
  | ok fl =>
    cases fl with
    | ret u => exact I.after hq
    | next => exact False.elim hq
    | brk => exact False.elim hq
    | cont => exact False.elim hq

theorem pe_call (F : FnOk X.prog X.w X.K X.mg X.base CX k f fd ps sp) (hr : Room k X.A) (hg : Gl X x) (hm : X.mg x = some (.ref f)) (hk : PySem.W.keepIn X.K (.ref f) = true) (hb : Binds X.K fd ps ds) (hd : Vals dvs ds) (hx : Passes CX X E)
    (ha : PA X (e :: es) t) (hdb : (x == ("__debug__" : Str)) = false := by decide) (he : starEach (e :: es) X.env = (false, eval e X.env) :: starEach es X.env := by rfl) (hpl : (backTo pos (starEach es X.env)).any (·.1) = false := by rfl) :
    PE X (.Call (.Name x p) (e :: es) [] pos) (tCall sp dvs E t) := by
  intro pins s σ H Q I h
  refine wpAny_Call_Name_kw (ld_glob I hg hm ?_ hdb)
  refine PySem.W.callWith_K (h₀ := X.base) I.ok.mod.kin hk (thn (ha pos pins s σ H _ I h) fun us s1 ⟨vs, H1, I1, r, q⟩ => ⟨I1.kIn, ?_⟩) he hpl
  exact run_fn F hr hb hd hx I1 r q
/-- what a class must have to be made -/
structure Mk (K : PySem.W.Frag) (C f : Addr) : Prop where
  makes : PySem.W.makesIn K C = true
  init : PySem.W.findIn K (.ref C) "__init__" = some (some (.ref f))
  fn : PySem.W.isFn K (.ref f) = true
  kp : PySem.W.keepIn K (.ref C) = true

end

/-! ### keywords -/
/-- the values of the keywords, from the left -/
def PK (X : Cx) (kws : List Keyword) (t : TA) : Prop :=
  ∀ (pos : Pos) (pins : List (Addr × Obj)) (s : Shared) (σ : St) (H : Hp) (Q : List V → Hp → Prop), Inv X pins σ H s → t σ H Q → wpAny (model X.prog X.w) X.A (evalAll ((backToKw pos (keywordEach kws X.env)).map (·.2))) (AP X pins σ Q) X.xe s
section
variable {X : Cx} {CX : CXT} {k : Nat} {f C : Addr} {fd : FuncData} {ps ks : List Str} {sp : Sp} {E : XK} {x m : Str} {p pos apos kpos : Pos} {e o : Expr} {es : List Expr} {kws : List Keyword} {te ta : TE} {t tk : TA} {nm : Option Str}
/-- how a call with keywords binds: g puts the positional values us and the keywords' values ws (names ks) in the parameters' order, defaults among them -/
structure KBinds (K : PySem.W.Frag) (fd : FuncData) (ps ks : List Str) (g : List Value → List Value → List Value) (gV : List V → List V → List V) : Prop where
  to : ∀ (s : Shared) (us ws : List Value), K.In s.heap → (g us ws).length = ps.length → BindsTo s fd ⟨us, ks.zip ws⟩ (ps.zip (g us ws))
  rel : ∀ {vs : List V} {us : List Value} {zs : List V} {ws : List Value}, Vals vs us → Vals zs ws → Vals (gV vs zs) (g us ws)
def tCallK (sp : Sp) (gV : List V → List V → List V) (E : XK) (t tk : TA) : TE := fun σ H Q => t σ H fun vs H1 => tk σ H1 fun zs H2 => sp (gV vs zs) H2 Q E
variable {g : List Value → List Value → List Value} {gV : List V → List V → List V}
end

/-! ### a def's body keeps its promise -/
/-- names: the parameters first -/
structure FnScope (N P : List Str) (sc : Scope) : Prop where
  kind : sc.kind = .function
  co : sc.isCoroutine = false
  gen : sc.isGenerator = false
  nd : N.Nodup
  pre : N.take P.length = P
  par : ∀ x ∈ P, sc.names.lookup x = some .local ∨ sc.names.lookup x = some .cell
  nofree : ∀ y ∈ sc.names, y.2 ≠ .free

theorem bindL_out {kindOf : Str → Option NameKind} {x : Str} : ∀ {binds : List (Str × Value)} {m : Str → Option Value}, (∀ v, (x, v) ∉ binds) → bindL kindOf binds m x = m x
  | [], _, _ => rfl
  | (n, v) :: r, m, h => by
    unfold bindL
    rw [bindL_out fun w hw => h w (List.mem_cons_of_mem _ hw)]
    split
    · have : x ≠ n := by rintro rfl; exact h v List.mem_cons_self
      simp [this]
    · rfl
theorem bindC_out {kindOf : Str → Option NameKind} {x : Str} : ∀ {binds : List (Str × Value)} {m : Str → Option Value}, (∀ v, (x, v) ∉ binds) → bindC kindOf binds m x = m x
  | [], _, _ => rfl
  | (n, v) :: r, m, h => by
    unfold bindC
    rw [bindC_out fun w hw => h w (List.mem_cons_of_mem _ hw)]
    split
    · rfl
    · have : x ≠ n := by rintro rfl; exact h v List.mem_cons_self
      simp [this]
theorem bindL_get {kindOf : Str → Option NameKind} {x : Str} {v : Value} : ∀ {P : List Str} {vs : List Value} {i : Nat} {m : Str → Option Value}, P.Nodup → P[i]? = some x → vs[i]? = some v → kindOf x = some .local →
    bindL kindOf (P.zip vs) m x = some v
  | [], _, _, _, _, h, _, _ => by simp at h
  | _ :: _, [], _, _, _, _, h, _ => by simp at h
  | p :: P, w :: vs, 0, m, nd, h1, h2, hk => by
    simp at h1 h2; subst h1; subst h2
    show bindL kindOf ((p, w) :: P.zip vs) m p = _
    unfold bindL
    rw [bindL_out fun v hv => (List.nodup_cons.mp nd).1 (List.of_mem_zip hv).1, if_pos hk]
    simp
  | p :: P, w :: vs, i + 1, m, nd, h1, h2, hk => by
    show bindL kindOf ((p, w) :: P.zip vs) m x = _
    unfold bindL
    exact bindL_get (i := i) (List.nodup_cons.mp nd).2 (by simpa using h1) (by simpa using h2) hk
theorem bindC_get {kindOf : Str → Option NameKind} {x : Str} {v : Value} : ∀ {P : List Str} {vs : List Value} {i : Nat} {m : Str → Option Value}, P.Nodup → P[i]? = some x → vs[i]? = some v → kindOf x ≠ some .local →
    bindC kindOf (P.zip vs) m x = some v
  | [], _, _, _, _, h, _, _ => by simp at h
  | _ :: _, [], _, _, _, _, h, _ => by simp at h
  | p :: P, w :: vs, 0, m, nd, h1, h2, hk => by
    simp at h1 h2; subst h1; subst h2
    show bindC kindOf ((p, w) :: P.zip vs) m p = _
    unfold bindC
    rw [bindC_out fun v hv => (List.nodup_cons.mp nd).1 (List.of_mem_zip hv).1, if_neg hk]
    simp
  | p :: P, w :: vs, i + 1, m, nd, h1, h2, hk => by
    show bindC kindOf ((p, w) :: P.zip vs) m x = _
    unfold bindC
    exact bindC_get (i := i) (List.nodup_cons.mp nd).2 (by simpa using h1) (by simpa using h2) hk

/-- the names' values at the entry -/
def start (N : List Str) (vs : List V) : St := vs.map some ++ List.replicate (N.length - vs.length) none

/-- the context of a def's body, at its entry; an exception leaves the frame, then lies as CX says -/
def cxOf (CX : CXT) (P : Program) (w : World) (K : PySem.W.Frag) (mg : Str → Option Value) (base : Heap) (N : List Str) (qual : Str) (scope : Scope) (f : Addr) (cd : Value) (A : Around) (outer : List Env) (s : Shared) (H : Hp) (E : XK) : Cx where
  prog := P
  w := w
  K := K
  mg := mg
  base := base
  A := A.deeper (envOfC qual scope s.heap.objs.size f cd)
  N := N
  s₀ := s
  H₀ := H
  env := envOfC qual scope s.heap.objs.size f cd
  outer := outer
  stack := envOfC qual scope s.heap.objs.size f cd :: outer
  ex := []
  calm := true
  fn := fun _ => true
  pn := []
  xe := fun e s' => wpAny (model P w) (A.deeper (envOfC qual scope s.heap.objs.size f cd)) (leaving (envOfC qual scope s.heap.objs.size f cd) e) (fun _ s'' => CX outer H s E e s'') (fun e' s'' => CX outer H s E e' s'') s'

theorem cell_has {sc : Scope} {n : Nat} {x : Str} (h : sc.names.lookup x = some .cell) : ∃ c, (cellsFrom n sc.names []).lookup x = some c := by
  have q := PySem.W.cellsFrom_some sc.names n [] (.inl h)
  exact Option.isSome_iff_exists.mp q

theorem inv_start {CX : CXT} {P : Program} {w : World} {K : PySem.W.Frag} {mg : Str → Option Value} {base : Heap} {N ps : List Str} {qual : Str} {scope : Scope} {f : Addr} {cd : Value} {A : Around} {outer : List Env} {s s1 : Shared} {H : Hp} {E : XK} {us : List Value} {vs : List V}
    (S : FnScope N ps scope) (hd : A.handled = none) (e0 : Env0 P w K mg base A outer s H) (hl : vs.length = ps.length) (r : Vals vs us)
    (x : InCallC s s.heap.objs.size (bindL (envOfC qual scope s.heap.objs.size f cd).kindOf (ps.zip us) fun _ => none) (cellsFrom (s.heap.objs.size + 1) scope.names []) (bindC (envOfC qual scope s.heap.objs.size f cd).kindOf (ps.zip us) fun _ => none) s1) :
    Inv (cxOf CX P w K mg base N qual scope f cd A outer s H E) [] (start N vs) H s1 := by
  have hpl : ps.length ≤ N.length := by have := congrArg List.length S.pre; rw [List.length_take] at this; omega
  obtain ⟨h1, tk, rfl, hk⟩ := x.done
  have noA : ∀ b : Addr, b ∉ (cxOf CX P w K mg base N qual scope f cd A outer s H E).ex := fun b z => absurd (show b ∈ ([] : List Addr) from z) (by simp)
  refine ⟨⟨e0.mod, S.kind, rfl, rfl, Nat.le_refl _, fun y z c h1 h2 => ?_, fun y hy => ?_, fun y c _ h => ?_, fun _ => hd, Around.frames_deeper e0.frames, .inr ⟨rfl, rfl⟩, fun b z => absurd z (noA b), e0.bs, e0.bsz, fun b _ _ => noA b, fun b z => absurd z (noA b), e0.funs, e0.frf⟩,
    rfl, e0.bare, Un.kept hk, ⟨_, x.toInCall.ns, fun i y v h1 h2 h3 => ?_⟩, fun y c h => ⟨_, x.cell y c h⟩, e0.hok.fresh (Nat.le_refl _), fun y c h => ?_, fun p hp => absurd (show p ∈ ([] : List (Addr × Obj)) from hp) (by simp), e0.hok.kept hk, ?_⟩
  · exact name_of_addr x.apart (PySem.mem_of_lookup h1) (PySem.mem_of_lookup h2)
  · have hy : scope.names.lookup y = some .cell ∨ scope.names.lookup y = some .free := hy
    rcases hy with hy | hy
    · exact cell_has hy
    · exact absurd rfl (S.nofree _ (PySem.mem_of_lookup hy))
  · exact Nat.le_of_lt (x.above y c (PySem.mem_of_lookup h))
  · have hi : i < vs.length := by
      unfold start at h2
      by_cases hi : i < vs.length
      · exact hi
      · rw [List.getElem?_append_right (by simpa using hi)] at h2
        rw [List.getElem?_replicate] at h2
        split at h2 <;> cases h2
    have ha : vs[i]? = some v := by
      unfold start at h2
      rw [List.getElem?_append_left (by simpa using hi), List.getElem?_map] at h2
      cases e : vs[i]? with
      | none => rw [e] at h2; cases h2
      | some a => rw [e] at h2; cases h2; rfl
    obtain ⟨u, hu, rv⟩ := r.get ha
    have hp : ps[i]? = some y := by
      rw [← S.pre, List.getElem?_take_of_lt (by omega)]; exact h1
    have ndP : ps.Nodup := by rw [← S.pre]; exact S.nd.sublist (List.take_sublist _ _)
    refine ⟨u, rv, ?_⟩
    rcases S.par y (List.mem_of_getElem? hp) with k | k
    · exact .inl ⟨k, bindL_get ndP hp hu k⟩
    · obtain ⟨c, e⟩ := cell_has (n := s.heap.objs.size + 1) k
      refine .inr ⟨.inl k, c, e, ?_⟩
      have q := x.cell y c e
      rw [bindC_get ndP hp hu (by show scope.names.lookup y ≠ _; rw [k]; decide)] at q
      exact q
  · exact e0.hok.fresh (Nat.le_of_lt (x.above y c (PySem.mem_of_lookup h)))
  · unfold start
    show _ = N.length
    rw [List.length_append, List.length_map, List.length_replicate]
    omega

/-- THE RULE: a def (or a method) of the text, by its body. The body's reading t is chosen for each entry; it is run at the parameters' values -/
theorem fn_of {CX : CXT} {P : Program} {w : World} {K : PySem.W.Frag} {mg : Str → Option Value} {base : Heap} {k : Nat} {f : Addr} {name qual : Str} {params : Arguments} {body : List Stmt} {scope : Scope} {dV kV doc pm cdv ct oc : Value} {an od : Option Addr}
    {osl : Array (Option Value)} {N ps : List Str} {sp : Sp} (lk : K.lookup f = some ⟨oc, od, .func (PySem.W.fnOf name qual params body scope dV kV doc pm an cdv ct), osl⟩) (hcd : PySem.W.codeIn K cdv qual = true) (S : FnScope N ps scope)
    (len : ∀ vs H Q E, sp vs H Q E → vs.length = ps.length)
    (hbody : ∀ (A : Around) (outer : List Env) (s : Shared) (H : Hp) (vs : List V) (Q : VK) (E : XK), Room k (A.deeper (envOfC qual scope s.heap.objs.size f cdv)) → sp vs H Q E →
      ∃ t, PSs (cxOf CX P w K mg base N qual scope f cdv A outer s H E) body t ∧ t { nx := fun _ H' => Q .non H', rt := Q } (start N vs) H) :
    FnOk P w K mg base CX (k + 1) f (PySem.W.fnOf name qual params body scope dV kV doc pm an cdv ct) ps sp := by
  refine ⟨len, fun A outer s H args us vs Q E hr e0 hb r hsp => ?_⟩
  have hl := len _ _ _ _ hsp
  have KX : K.In s.heap := e0.mod.kin.keeps fun b o e => (e0.bs b o e).1
  have lim : s.heap.NoLimit := e0.mod.nolimit.keeps fun b o e => (e0.bs b o e).1
  have hkind : ∀ y ∈ ps.zip us, scope.names.lookup y.1 = some .local ∨ (scope.names.lookup y.1 = some .cell ∧ ((cellsFrom (s.heap.objs.size + 1) scope.names []).lookup y.1).isSome = true) := fun ⟨n, v⟩ hy => by
    rcases S.par n (List.of_mem_zip hy).1 with q | q
    · exact .inl q
    · exact .inr ⟨q, PySem.W.cellsFrom_some _ _ _ (.inl q)⟩
  refine codeAny_call_function hr.depth (KX _ _ lk) rfl S.co S.gen rfl (PySem.W.codeRec_of KX hcd) (hb _ _ _ _ ?_)
  refine wpAny_newFunctionEnv_cells S.kind hkind fun env he s1 x => ?_
  subst he
  refine ⟨lim.keeps x.toInCall.keep, codeAny_func ?_⟩
  obtain ⟨t, ht, hq⟩ := hbody A outer s H vs Q E (hr.deeper _) hsp
  have I : Inv (cxOf CX P w K mg base N qual scope f cdv A outer s H E) [] (start N vs) H s1 := inv_start S hr.hd e0 hl r x
  refine wpAny_mono (ht [] s1 (start N vs) H _ I hq) (fun fl s' hs => ?_) fun e s' hs => hs
  have fin : ∀ {σ' : St} {H' : Hp} {v : V} {u : Value}, Inv (cxOf CX P w K mg base N qual scope f cdv A outer s H E) [] σ' H' s' → RelV v u → Q v H' → CE outer P w H s Q u s' :=
    fun {σ' H' v u} J rv q => ⟨v, H', J.os, J.bare, J.base, J.hok, rv, q⟩
  cases fl with
  | ret u =>
    obtain ⟨v, σ', H', J, rv, q⟩ := hs
    exact fin J rv q
  | next =>
    obtain ⟨σ', H', J, q⟩ := hs
    exact fin (v := V.non) (u := Value.none) J rfl q
  | brk =>
    obtain ⟨_, _, _, q⟩ := hs
    exact False.elim q
  | cont =>
    obtain ⟨_, _, _, q⟩ := hs
    exact False.elim q
end L2

namespace L2
open PySem PySem.Spec PyProof.Rows
section
variable {X : Cx} {x : Str} {p pos : Pos} {e : Expr} {es : List Expr} {t : TA} {id T : String} {r : List V → Hp → VK → Prop}

def tCB (r : List V → Hp → VK → Prop) (t : TA) : TE := fun σ H Q => t σ H fun vs H1 => r vs H1 Q
/-- f(e, ..), f a built-in function -/
theorem pe_callB (hc : CallR X (.builtin id) r) (hg : Gl X x) (hm : X.mg x = none) (hv : bootBuiltins x = some (.builtin id)) (ha : PA X (e :: es) t) (hn : x ≠ "__name__" := by decide) (hdb : (x == ("__debug__" : Str)) = false := by decide)
    (he : starEach (e :: es) X.env = (false, eval e X.env) :: starEach es X.env := by rfl) (hpl : (backTo pos (starEach es X.env)).any (·.1) = false := by rfl) : PE X (.Call (.Name x p) (e :: es) [] pos) (tCB r t) := by
  intro pins s σ H Q I h
  refine wpAny_Call_Name_kw (ld_blt I hg hm hv ?_ hn hdb)
  exact PyProof.Rows.callWith_builtin1 (thn (ha pos pins s σ H _ I h) fun us s1 ⟨vs, H1, I1, r1, q1⟩ => hc pins s1 σ H1 vs us Q I1 r1 q1) he hpl
/-- T(e, ..), T a built-in type -/
theorem pe_callTy (hc : CallR X (.type T) r) (hg : Gl X x) (hm : X.mg x = none) (hv : bootBuiltins x = some (.type T)) (ha : PA X (e :: es) t) (hn : x ≠ "__name__" := by decide) (hdb : (x == ("__debug__" : Str)) = false := by decide)
    (he : starEach (e :: es) X.env = (false, eval e X.env) :: starEach es X.env := by rfl) (hpl : (backTo pos (starEach es X.env)).any (·.1) = false := by rfl) : PE X (.Call (.Name x p) (e :: es) [] pos) (tCB r t) := by
  intro pins s σ H Q I h
  refine wpAny_Call_Name_kw (ld_blt I hg hm hv ?_ hn hdb)
  exact PyProof.Rows.callWith_type1 (thn (ha pos pins s σ H _ I h) fun us s1 ⟨vs, H1, I1, r1, q1⟩ => hc pins s1 σ H1 vs us Q I1 r1 q1) he hpl
end
end L2

namespace HT
open PySem PyProof.Rows

/-- t < u of tuples of ints -/
def lexLt : List Int → List Int → Bool
  | [], [] => false
  | [], _ :: _ => true
  | _ :: _, [] => false
  | x :: xs, y :: ys => if x = y then lexLt xs ys else decide (x < y)
section
open PySem.SeqAt
open PySem.AutoSeq1 (wpAny_loadPart')
open PySem.MeetsSeq PySem.MeetsSeq2 PySem.MeetsSeq3

end

section
variable {prog : Program} {w : World} {A : Around} {E : Value → Shared → Prop} {s : Shared}

/-! ### t[a:b], not the whole -/
/-- a slice's bound as a place among n (d where it is left out) -/
def sIx (n d : Nat) : Option Int → Nat
  | none => d
  | some v => if v < 0 then (v + (n : Int)).toNat else min v.toNat n
theorem sIx_none (n d : Nat) : sIx n d none = d := rfl
theorem sIx_nat (n d k : Nat) : sIx n d (some (k : Int)) = min k n := by
  show (if (k : Int) < 0 then ((k : Int) + (n : Int)).toNat else min (k : Int).toNat n) = min k n
  rw [if_neg (by omega), Int.toNat_natCast]
theorem sIx_le (n d : Nat) (hd : d ≤ n) (o : Option Int) : sIx n d o ≤ n := by
  cases o with
  | none => exact hd
  | some v =>
    show (if v < 0 then (v + (n : Int)).toNat else min v.toNat n) ≤ n
    by_cases hv : v < 0
    · rw [if_pos hv]; omega
    · rw [if_neg hv]; exact Nat.min_le_right _ _
theorem clip_eq (v : Int) (n d : Nat) : (if v < 0 then max (v + (n : Int)) 0 else min v (n : Int)) = ((sIx n d (some v) : Nat) : Int) := by
  show (if v < 0 then max (v + (n : Int)) 0 else min v (n : Int)) = (((if v < 0 then (v + (n : Int)).toNat else min v.toNat n) : Nat) : Int)
  by_cases hv : v < 0
  · simp only [if_pos hv]; omega
  · simp only [if_neg hv]; omega
end
end HT

namespace L2
open PySem PySem.Spec PyProof.Rows

/-! ### the parts of a slice -/
abbrev TO := St → Hp → (Option Int → Hp → Prop) → Prop
/-- a slice's part (left out, or an int) -/
def PO (X : Cx) (e : Option Expr) (t : TO) : Prop :=
  ∀ (pins : List (Addr × Obj)) (s : Shared) (σ : St) (H : Hp) (Q : Option Int → Hp → Prop), Inv X pins σ H s → t σ H Q →
    wpAny (model X.prog X.w) X.A (evalPart e X.env) (fun u s' => ∃ o H', Inv X pins σ H' s' ∧ IsPart u o ∧ Q o H') X.xe s
def tNoPart : TO := fun _ H Q => Q none H
def tPart (t : TE) : TO := fun σ H Q => t σ H fun x H1 => ∃ i, x = .int i ∧ Q (some i) H1

theorem intsAre_of {ns : List Int} : ∀ {us : List Value}, Vals (ns.map V.int) us → IntsAre us ns := by
  induction ns with
  | nil => intro us r; rw [List.map_nil] at r; cases r; exact .nil
  | cons n ns ih =>
    intro us r
    rw [List.map_cons] at r
    cases r with
    | cons r1 r2 =>
      obtain ⟨t, e⟩ := r1
      subst e
      exact .cons n t (ih r2)

section
variable {X : Cx} {e : Expr} {te : TE} {lo hi : Option Expr} {tl th : TO} {pos p2 : Pos}

theorem po_none : PO X none tNoPart := by
  intro pins s σ H Q I h
  rw [evalPart_none]
  exact wpAny_pure ⟨none, H, I, .none, h⟩
theorem po_some (h : PE X e te) : PO X (some e) (tPart te) := by
  intro pins s σ H Q I hw
  rw [evalPart_some]
  refine thn (h pins s σ H _ I hw) fun u s1 ⟨x, H1, I1, r1, q1⟩ => ?_
  obtain ⟨i, rfl, q⟩ := q1
  obtain ⟨t, rfl⟩ := r1
  exact ⟨some i, H1, I1, .int i t, q⟩

/-- what a slice of a value is, by values: the slice object stands at sl -/
def SlR (X : Cx) (r : V → Option Int → Option Int → Hp → VK → Prop) : Prop :=
  ∀ (pins : List (Addr × Obj)) (s : Shared) (σ : St) (H : Hp) (x : V) (v vl vu : Value) (lo hi : Option Int) (sl : Addr) (Q : VK), Inv X pins σ H s → RelV x v → s.heap.IsSliceOf sl vl vu .none → IsPart vl lo → IsPart vu hi → r x lo hi H Q →
    ∃ T id, typeLookup (.type T) "__getitem__" = pure (some (.builtin id)) ∧ s.TypeIs v T ∧ wpAny (model X.prog X.w) X.A (getItem v (.ref sl)) (EP X pins σ Q) X.xe s
def tSl (r : V → Option Int → Option Int → Hp → VK → Prop) (te : TE) (tl th : TO) : TE := fun σ H Q => te σ H fun x H1 => tl σ H1 fun l H2 => th σ H2 fun u H3 => r x l u H3 Q
/-- a[lo:hi], any a -/
theorem pe_slice {r : V → Option Int → Option Int → Hp → VK → Prop} (hr : SlR X r) (he : PE X e te) (hl : PO X lo tl) (hu : PO X hi th) : PE X (.Subscript e (.Slice lo hi none p2) pos) (tSl r te tl th) := by
  intro pins s σ H Q I h
  refine Subscript_ (thn (he pins s σ H _ I h) fun v s1 ⟨x, H1, I1, r1, q1⟩ => ?_)
  refine wpAny_Slice (thn (hl pins s1 σ H1 _ I1 q1) fun vl s2 ⟨l, H2, I2, pl, q2⟩ => thn (hu pins s2 σ H2 _ I2 q2) fun vu s3 ⟨u, H3, I3, pu, q3⟩ => ?_)
  rw [evalPart_none]
  refine wpAny_pure ?_
  have I4 : Inv X pins σ H3 { s3 with heap := s3.heap.push { cls := .type "slice", data := .fields #[vl, vu, .none] } } := I3.kept (t' := s3.toks) fun b ob q => Heap.get?_push_of_some _ q
  obtain ⟨T, id, hT, ht, hg⟩ := hr pins { s3 with heap := s3.heap.push { cls := .type "slice", data := .fields #[vl, vu, .none] } } σ H3 x v vl vu l u s3.heap.objs.size Q I4 r1 (Heap.IsSliceOf.new ..) pl pu q3
  show wpAny (model X.prog X.w) X.A (subscriptTail e (.Slice lo hi none p2) v (.ref s3.heap.objs.size)) (EP X pins σ Q) X.xe { s3 with heap := s3.heap.push { cls := .type "slice", data := .fields #[vl, vu, .none] } }
  exact tail_any (ops := [.ref s3.heap.objs.size, v]) ht hT hg (by with_unfolding_all rfl)

/-- the items of xs[lo:hi] -/
def cutV (xs : List V) (lo hi : Option Int) : List V := (xs.drop (HT.sIx xs.length 0 lo)).take (HT.sIx xs.length xs.length hi - HT.sIx xs.length 0 lo)
/-- t[lo:hi], not the whole of it (the whole would be t itself) -/
def rSlT (K : PySem.W.Frag) : V → Option Int → Option Int → Hp → VK → Prop := fun x lo hi H Q => ∃ a xs, x = .ref a ∧ SqT K H a xs ∧
  ¬ (HT.sIx xs.length 0 lo = 0 ∧ HT.sIx xs.length xs.length hi = xs.length) ∧ ∀ p, H p = none → Q (.ref p) (upd H p (.tup (cutV xs lo hi)))
/-! ### t < u, t + u -/
def rLtT (K : PySem.W.Frag) : R2 := fun x y H Q => ∃ a b ns ms, x = .ref a ∧ y = .ref b ∧ SqT K H a (ns.map V.int) ∧ SqT K H b (ms.map V.int) ∧ Q (.bl (HT.lexLt ns ms)) H
/-- t + u, t not empty: u empty gives t itself -/
def rCatT (K : PySem.W.Frag) : R2 := fun x y H Q => ∃ a b xs ys, x = .ref a ∧ y = .ref b ∧ SqT K H a xs ∧ SqT K H b ys ∧ xs ≠ [] ∧ xs.length + ys.length ≤ sizeLine ∧
  (ys = [] → Q (.ref a) H) ∧ (ys ≠ [] → ∀ p, H p = none → Q (.ref p) (upd H p (.tup (xs ++ ys))))
end
end L2

namespace L2
open PySem PySem.Spec PyProof.Rows

/-! ### places -/
/-- the place that an index of any sign means -/
def ixN (n : Nat) (i : Int) : Option Nat := if 0 ≤ i then (if i < n then some i.toNat else none) else if -(n : Int) ≤ i then some (i + n).toNat else none
def atI {α : Type} (xs : List α) (i : Int) : Option α := (ixN xs.length i).bind fun j => xs[j]?
theorem ixN_seq {n : Nat} {i : Int} {j : Nat} (h : ixN n i = some j) : seqIndex? i n = some j ∧ j < n ∧ -(n : Int) ≤ i ∧ i < n := by
  unfold ixN at h
  by_cases h0 : 0 ≤ i
  · rw [if_pos h0] at h
    by_cases h1 : i < n
    · rw [if_pos h1] at h
      have e : i.toNat = j := Option.some.inj h
      exact ⟨by rw [seqIndex_of h0 h1, e], by omega, by omega, h1⟩
    · rw [if_neg h1] at h; cases h
  · rw [if_neg h0] at h
    by_cases h1 : -(n : Int) ≤ i
    · rw [if_pos h1] at h
      have e : (i + n).toNat = j := Option.some.inj h
      exact ⟨by rw [seqIndex_neg (by omega) h1, e], by omega, h1, by omega⟩
    · rw [if_neg h1] at h; cases h
theorem atI_get {α : Type} {xs : List α} {i : Int} {v : α} (h : atI xs i = some v) : ∃ j, seqIndex? i xs.length = some j ∧ xs[j]? = some v ∧ j < xs.length ∧ -(xs.length : Int) ≤ i ∧ i < xs.length := by
  unfold atI at h
  cases e : ixN xs.length i with
  | none => rw [e] at h; cases h
  | some j =>
    rw [e] at h
    obtain ⟨h1, h2, h3, h4⟩ := ixN_seq e
    exact ⟨j, h1, h, h2, h3, h4⟩
theorem atI_nat {α : Type} {xs : List α} {j : Nat} {v : α} (h : xs[j]? = some v) : atI xs (j : Int) = some v := by
  have hj : j < xs.length := (List.getElem?_eq_some_iff.mp h).1
  have e : ixN xs.length (j : Int) = some j := by
    unfold ixN
    rw [if_pos (by omega), if_pos (by omega)]; simp
  unfold atI; rw [e]; exact h
theorem atI_last {α : Type} (xs : List α) (v : α) : atI (xs ++ [v]) (-1) = some v := by
  have hl : (xs ++ [v]).length = xs.length + 1 := by simp
  have e : ixN (xs ++ [v]).length (-1) = some xs.length := by
    unfold ixN
    rw [hl, if_neg (by decide), if_pos (by omega)]
    congr 1
    omega
  unfold atI
  rw [e]
  show (xs ++ [v])[xs.length]? = some v
  simp

/-! ### what may be subscripted -/
/-- what stands as an index of a plain subscript -/
def PlainIx (b : Expr) : Prop := ∀ o i, subscripted b false o i = operate [o, i] (getItem o i)
/-- a subscript by values -/
def IxR (X : Cx) (r : R2) : Prop :=
  ∀ (value slice : Expr) (pins : List (Addr × Obj)) (s : Shared) (σ : St) (H : Hp) (x y : V) (v u : Value) (Q : VK), Inv X pins σ H s → RelV x v → RelV y u → r x y H Q →
    subscripted slice false v u = operate [v, u] (getItem v u) → wpAny (model X.prog X.w) X.A (subscriptTail value slice v u) (EP X pins σ Q) X.xe s
/-- a call of a builtin's method by values: the receiver, the arguments -/
def MtR (X : Cx) (id : String) (r : V → List V → Hp → VK → Prop) : Prop :=
  ∀ (pins : List (Addr × Obj)) (s : Shared) (σ : St) (H : Hp) (x : V) (xs : List V) (v : Value) (us : List Value) (Q : VK), Inv X pins σ H s → RelV x v → Vals xs us → r x xs H Q →
    wpAny (model X.prog X.w) X.A (call (.builtin id) (v :: us)) (EP X pins σ Q) X.xe s
section
variable {X : Cx} {a b : Expr} {ta tb : TE} {pos : Pos}
/-- a[b] -/
theorem pe_ix {r : R2} (hr : IxR X r) (ha : PE X a ta) (hb : PE X b tb) (hs : PlainIx b) : PE X (.Subscript a b pos) (tOp r ta tb) := by
  intro pins s σ H Q I h
  exact Subscript_ (binT ha hb I h fun v u s2 x y H2 I2 rx ry q => hr a b pins s2 σ H2 x y v u Q I2 rx ry q (hs _ _))

def rIxL (K : PySem.W.Frag) : R2 := fun x y H Q => ∃ p xs i v, x = .ref p ∧ y = .int i ∧ SqL K H p xs ∧ atI xs i = some v ∧ Q v H
def rIxT (K : PySem.W.Frag) : R2 := fun x y H Q => ∃ p xs i v, x = .ref p ∧ y = .int i ∧ SqT K H p xs ∧ atI xs i = some v ∧ Q v H
def rIxS : R2 := fun x y H Q => ∃ z i c, x = .str z ∧ y = .int i ∧ z.length ≤ sizeLine ∧ atI z.cps.toList i = some c ∧ Q (.str ⟨#[c]⟩) H
theorem ix_list : IxR X (rIxL X.K) := by
  intro value slice pins s σ H x y v u Q I rx ry h hs
  obtain ⟨p, xs, i, z, rfl, rfl, hq, he, q⟩ := h
  cases rx
  obtain ⟨t, rfl⟩ := ry
  obtain ⟨its, r, pl, hz⟩ := I.list hq
  obtain ⟨j, h1, h2, h3, h4, h5⟩ := atI_get he
  obtain ⟨w, ew, rw'⟩ := r.get h2
  have hl := r.length
  have hn := line63
  have fin : EP X pins σ Q w s := ⟨z, H, I, rw', q⟩
  by_cases h0 : 0 ≤ i
  · have hj : i.toNat = j := by
      rw [seqIndex_of h0 h5] at h1
      exact Option.some.inj h1
    exact item_listR pl.isList h0 (by omega) (by rw [hj]; simpa using ew) fin hs
  · have hj : (i + (its.toArray.size : Int)).toNat = j := by
      rw [seqIndex_neg (by omega) h4] at h1
      rw [List.size_toArray, ← hl]
      exact Option.some.inj h1
    exact subscriptTail_builtinR (x := w) pl.isList.typeIs slot_list_getitem.lookup
      (wpAny_getItem_list_neg (Q := fun r s' => r = w ∧ EP X pins σ Q r s') pl.isList (by omega) (by rw [List.size_toArray] <;> omega) (by omega) (by rw [hj]; simpa using ew) ⟨rfl, fin⟩) hs
theorem ix_str : IxR X rIxS := by
  intro value slice pins s σ H x y v u Q I rx ry h hs
  obtain ⟨z, i, c, rfl, rfl, hz, he, q⟩ := h
  obtain ⟨t, rfl⟩ := rx
  obtain ⟨t', rfl⟩ := ry
  obtain ⟨j, h1, h2, h3, h4, h5⟩ := atI_get he
  have hl : z.cps.toList.length = z.length := by simp [Str.length]
  rw [hl] at h1 h4 h5
  have hn := line63
  exact tail_any (typeIs_str s z t) slot_str_getitem.lookup (getItem_str (c := c) (by
    have e1 : decide (i < -(2 ^ 63 : Int)) = false := decide_eq_false (by omega)
    have e2 : decide (i ≥ 2 ^ 63) = false := decide_eq_false (by omega)
    rw [e1, e2, Bool.or_false]) (by rw [h1]; simpa using h2) ⟨.str ⟨#[c]⟩, H, I.tok _, ⟨_, rfl⟩, q⟩) hs
/-- list, tuple or str -/
def rIx (K : PySem.W.Frag) : R2 := fun x y H Q => rIxL K x y H Q ∨ rIxT K x y H Q ∨ rIxS x y H Q
/-! ### xs[i] = v, any sign -/
/-- the list's object behind a store -/
theorem mapSeq_set (its : List Value) (n j : Nat) (u : Value) : Obj.mapSeq (·.setIfInBounds j u) { cls := .type "list", data := .seq its.toArray n } = { cls := .type "list", data := .seq (its.set j u).toArray n } := by
  simp [Obj.mapSeq]
theorem Inv.lst {pins : List (Addr × Obj)} {σ : St} {H : Hp} {s : Shared} {p : Addr} {xs : List V} (I : Inv X pins σ H s) (h : H p = some (.lst xs)) :
    ∃ (its : List Value) (n : Nat), Vals xs its ∧ s.heap.get? p = some { cls := .type "list", data := .seq its.toArray n } ∧ xs.length ≤ sizeLine := by
  obtain ⟨z, its, n, r, e⟩ := I.hok p _ h
  exact ⟨its, n, r, e, z⟩
/-- the list at p is written by an update of its object -/
theorem Inv.lstUpd {pins : List (Addr × Obj)} {σ : St} {H : Hp} {s : Shared} {p : Addr} {xs ys : List V} {its its' : List Value} {n n' : Nat} {f : Obj → Obj} (I : Inv X pins σ H s) (h : H p = some (.lst xs))
    (ho : s.heap.get? p = some { cls := .type "list", data := .seq its.toArray n }) (hf : f { cls := .type "list", data := .seq its.toArray n } = { cls := .type "list", data := .seq its'.toArray n' }) (r : Vals ys its') (hz : ys.length ≤ sizeLine) (t : Nat) :
    Inv X pins σ (upd H p (.lst ys)) { s with heap := s.heap.update p f, toks := t } := by
  have e : (s.heap.update p f).get? p = some { cls := .type "list", data := .seq its'.toArray n' } := by
    rw [Heap.get?_update_self f ho (by rw [hf] <;> rfl), hf]
  refine I.write (x := p) (e := p) (by rw [h]; trivial) (.inl rfl) (fun b u hb q => (Heap.get?_update_other _ _ (Ne.symm hb)).trans q) ⟨_, e⟩ ?_
  exact ⟨hz, its', n', r, e⟩
def rSetL : V → V → V → Hp → (Hp → Prop) → Prop := fun o i v H Q => ∃ p xs k j, o = .ref p ∧ i = .int k ∧ H p = some (.lst xs) ∧ ixN xs.length k = some j ∧ Q (upd H p (.lst (xs.set j v)))
theorem set_list : PSet X rSetL := by
  intro pins s σ H o i v ov iv u Q I ro ri rv h
  obtain ⟨p, xs, k, j, rfl, rfl, hp, hj, q⟩ := h
  cases ro
  obtain ⟨t, rfl⟩ := ri
  obtain ⟨its, n, r, ho, hz⟩ := I.lst hp
  obtain ⟨h1, h2, h3, h4⟩ := ixN_seq hj
  have hl := r.length
  have hn := line63
  have I' : Inv X pins σ (upd H p (.lst (xs.set j v))) { s with heap := s.heap.update p (Obj.mapSeq (·.setIfInBounds j u)) } :=
    I.lstUpd hp ho (mapSeq_set its n j u) (r.set rv j) (by rw [List.length_set]; exact hz) s.toks
  by_cases h0 : 0 ≤ k
  · have hk : k.toNat = j := by
      rw [seqIndex_of h0 h4] at h1
      exact Option.some.inj h1
    exact PySem.W.ki_setAt ho h0 (by omega) (by rw [List.size_toArray, ← hl]; exact h4) (by rw [hk]; exact ⟨_, I', q⟩)
  · have hk : (k + (its.toArray.size : Int)).toNat = j := by
      rw [seqIndex_neg (by omega) h3] at h1
      rw [List.size_toArray, ← hl]
      exact Option.some.inj h1
    exact PySem.W.ki_setBack ho (by omega) (by rw [List.size_toArray, ← hl]; exact h3) (by omega) (by rw [hk]; exact ⟨_, I', q⟩)

/-! ### slices -/
/-- xs[lo:hi] of a list: a new list -/
def rSlL (K : PySem.W.Frag) : V → Option Int → Option Int → Hp → VK → Prop := fun x lo hi H Q => ∃ a xs, x = .ref a ∧ SqL K H a xs ∧ ∀ p, H p = none → Q (.ref p) (upd H p (.lst (cutV xs lo hi)))
/-! ### in, not in: flat items -/
def flatV : V → Bool
  | .non => true
  | .bl _ => true
  | .int _ => true
  | .str _ => true
  | _ => false
/-- == of flat values -/
def eqV : V → V → Bool
  | .non, .non => true
  | .bl a, .bl b => a == b
  | .bl a, .int b => (if a then 1 else 0) == b
  | .int a, .bl b => a == (if b then 1 else 0)
  | .int a, .int b => a == b
  | .str a, .str b => a == b
  | _, _ => false
theorem eqAt_V {A : Around} {s : Shared} {y x : V} {u v : Value} (ry : RelV y u) (rx : RelV x v) (fy : flatV y = true) (fx : flatV x = true) : SeqAt.EqAt A s u v (eqV y x) := by
  cases y with
  | non =>
    cases ry
    cases x with
    | non => cases rx; exact SeqAt.EqAt.same _
    | bl b => cases rx; exact SeqAt.EqAt.none_bool b
    | int b => obtain ⟨t, rfl⟩ := rx; exact SeqAt.EqAt.none_int b t
    | str b => obtain ⟨t, rfl⟩ := rx; exact SeqAt.EqAt.none_str b t
    | _ => exact absurd (show false = true from fx) Bool.false_ne_true
  | bl a =>
    cases ry
    cases x with
    | non => cases rx; exact SeqAt.EqAt.bool_none a
    | bl b => cases rx; exact SeqAt.EqAt.bool_bool a b
    | int b => obtain ⟨t, rfl⟩ := rx; exact SeqAt.EqAt.bool_int a b t
    | str b => obtain ⟨t, rfl⟩ := rx; exact SeqAt.EqAt.bool_str a b t
    | _ => exact absurd (show false = true from fx) Bool.false_ne_true
  | int a =>
    obtain ⟨t', rfl⟩ := ry
    cases x with
    | non => cases rx; exact SeqAt.EqAt.int_none a t'
    | bl b => cases rx; exact SeqAt.EqAt.int_bool a t' b
    | int b => obtain ⟨t, rfl⟩ := rx; exact SeqAt.EqAt.int_int a t' b t
    | str b => obtain ⟨t, rfl⟩ := rx; exact SeqAt.EqAt.int_str a t' b t
    | _ => exact absurd (show false = true from fx) Bool.false_ne_true
  | str a =>
    obtain ⟨t', rfl⟩ := ry
    cases x with
    | non => cases rx; exact SeqAt.EqAt.str_none a t'
    | bl b => cases rx; exact SeqAt.EqAt.str_bool a t' b
    | int b => obtain ⟨t, rfl⟩ := rx; exact SeqAt.EqAt.str_int a t' b t
    | str b => obtain ⟨t, rfl⟩ := rx; exact SeqAt.EqAt.str_str a t' b t
    | _ => exact absurd (show false = true from fx) Bool.false_ne_true
  | _ => exact absurd (show false = true from fy) Bool.false_ne_true
/-- the items' answers, read off the values (a value's own answer does not lean on its token) -/
def eqU (x : V) (u : Value) : Bool := match u with
  | .none => eqV .non x
  | .bool b => eqV (.bl b) x
  | .int i _ => eqV (.int i) x
  | .str z _ => eqV (.str z) x
  | _ => false
theorem eqU_of {x y : V} {u : Value} (r : RelV y u) (f : flatV y = true) : eqU x u = eqV y x := by
  cases y with
  | non => cases r; rfl
  | bl b => cases r; rfl
  | int i => obtain ⟨t, rfl⟩ := r; rfl
  | str z => obtain ⟨t, rfl⟩ := r; rfl
  | _ => exact absurd (show false = true from f) Bool.false_ne_true
theorem any_eqU {x : V} : ∀ {xs : List V} {us : List Value}, Vals xs us → xs.all flatV = true → us.any (eqU x) = xs.any fun y => eqV y x
  | _, _, .nil, _ => rfl
  | y :: xs, u :: us, .cons r t, f => by
    rw [List.all_cons, Bool.and_eq_true] at f
    rw [List.any_cons, List.any_cons, eqU_of r f.1, any_eqU t f.2]
theorem mem_eqAt {A : Around} {s : Shared} {x : V} {v : Value} (rx : RelV x v) (fx : flatV x = true) : ∀ {xs : List V} {us : List Value}, Vals xs us → xs.all flatV = true → ∀ u ∈ us, SeqAt.EqAt A s u v (eqU x u)
  | _, _, .nil, _ => fun u hu => by cases hu
  | y :: xs, u :: us, .cons r t, f => fun u' hu => by
    rw [List.all_cons, Bool.and_eq_true] at f
    rcases List.mem_cons.mp hu with rfl | hu
    · rw [eqU_of r f.1]; exact eqAt_V r rx f.1 fx
    · exact mem_eqAt rx fx t f.2 u' hu
def inV (x : V) (xs : List V) : Bool := xs.any fun y => eqV y x
/-- x in a list or tuple of flat items -/
def rIn (K : PySem.W.Frag) (neg : Bool) : R2 := fun x y H Q => ∃ p xs, y = .ref p ∧ (SqL K H p xs ∨ SqT K H p xs) ∧ flatV x = true ∧ xs.all flatV = true ∧ Q (.bl (if neg then !inV x xs else inV x xs)) H
theorem op_in_seq : OpR X (compareOp .In) (rIn X.K false) := by
  intro pins s σ H x y v u Q I rx ry h
  obtain ⟨p, xs, rfl, hq, fx, fs, q⟩ := h
  cases ry
  rcases hq with hq | hq
  · obtain ⟨its, r, pl, hz⟩ := I.list hq
    refine SeqAt.in_listAt (eqU x) pl.isList (fun w hw => mem_eqAt rx fx r fs w (by simpa using hw)) ⟨.bl _, H, I, rfl, ?_⟩
    rw [show its.toArray.any (eqU x) = its.any (eqU x) by simp, any_eqU r fs]
    exact q
  · obtain ⟨its, r, pl, hz⟩ := I.tuple hq
    refine SeqAt.in_tupleAt (eqU x) pl (fun w hw => mem_eqAt rx fx r fs w (by simpa using hw)) ⟨.bl _, H, I, rfl, ?_⟩
    rw [show its.toArray.any (eqU x) = its.any (eqU x) by simp, any_eqU r fs]
    exact q
theorem op_notIn_seq : OpR X (compareOp .NotIn) (rIn X.K true) := by
  intro pins s σ H x y v u Q I rx ry h
  obtain ⟨p, xs, rfl, hq, fx, fs, q⟩ := h
  cases ry
  rcases hq with hq | hq
  · obtain ⟨its, r, pl, hz⟩ := I.list hq
    refine SeqAt.notIn_listAt (eqU x) pl.isList (fun w hw => mem_eqAt rx fx r fs w (by simpa using hw)) ⟨.bl _, H, I, rfl, ?_⟩
    rw [show its.toArray.any (eqU x) = its.any (eqU x) by simp, any_eqU r fs]
    exact q
  · obtain ⟨its, r, pl, hz⟩ := I.tuple hq
    refine SeqAt.notIn_tupleAt (eqU x) pl (fun w hw => mem_eqAt rx fx r fs w (by simpa using hw)) ⟨.bl _, H, I, rfl, ?_⟩
    rw [show its.toArray.any (eqU x) = its.any (eqU x) by simp, any_eqU r fs]
    exact q
/-! ### len, list(x), tuple(x) of any list or tuple that is read -/
theorem call_len_seq : CallR X (.builtin "len") (fun xs H Q => ∃ p ys, xs = [.ref p] ∧ (SqL X.K H p ys ∨ SqT X.K H p ys) ∧ Q (.int ys.length) H) := by
  intro pins s σ H xs us Q I r h
  obtain ⟨p, ys, rfl, hq, q⟩ := h
  obtain ⟨u, rfl, rx⟩ := vals1 r
  cases rx
  have hn := line63
  rcases hq with hq | hq
  · obtain ⟨its, r', pl, hz⟩ := I.list hq
    have hlen := r'.length
    exact Calls.call_len_list pl.isList (by simp only [List.size_toArray] <;> omega) ⟨.int ys.length, H, I.tok _, ⟨s.toks + 1, by rw [List.size_toArray, hlen]⟩, q⟩
  · obtain ⟨its, r', pl, hz⟩ := I.tuple hq
    have hlen := r'.length
    exact len_tuple pl (by simp only [List.size_toArray] <;> omega) ⟨.int ys.length, H, I.tok _, ⟨s.toks + 1, by rw [List.size_toArray, hlen]⟩, q⟩
theorem call_len_str : CallR X (.builtin "len") (fun xs H Q => ∃ z, xs = [.str z] ∧ z.length ≤ sizeLine ∧ Q (.int z.length) H) := by
  intro pins s σ H xs us Q I r h
  obtain ⟨z, rfl, hz, q⟩ := h
  obtain ⟨u, rfl, t, rfl⟩ := vals1 r
  have hn := line63
  exact len_str (by omega) ⟨.int z.length, H, I.tok _, ⟨_, rfl⟩, q⟩
/-! ### the call of a builtin's method: o.m(..) -/
/-- the value is of that builtin type -/
def tyV (K : PySem.W.Frag) (T : String) (x : V) (H : Hp) : Prop := match x with
  | .str _ => T = "str"
  | .int _ => T = "int"
  | .ref p => (T = "list" ∧ ∃ xs, SqL K H p xs) ∨ (T = "tuple" ∧ ∃ o, K.lookup p = some o ∧ o.cls = .type "tuple" ∧ o.dict = none) ∨
      (T = "dict" ∧ ((∃ kvs, H p = some (.dK kvs)) ∨ ∃ kvs, H p = some (.dT kvs))) ∨ (T = "set" ∧ ∃ S n, H p = some (.set S n))
  | _ => False
theorem tyV_is {pins : List (Addr × Obj)} {σ : St} {H : Hp} {s : Shared} {T : String} {x : V} {v : Value} (I : Inv X pins σ H s) (r : RelV x v) (ty : tyV X.K T x H) :
    s.TypeIs v T ∧ ∀ a, v = .ref a → ∃ ob, s.heap.get? a = some ob ∧ ob.dict = none := by
  cases x with
  | str z =>
    obtain ⟨t, rfl⟩ := r
    cases (show T = "str" from ty)
    exact ⟨typeIs_str s z t, fun _ e => nomatch e⟩
  | int i =>
    obtain ⟨t, rfl⟩ := r
    cases (show T = "int" from ty)
    exact ⟨typeIs_int s i t, fun _ e => nomatch e⟩
  | ref p =>
    cases r
    rcases ty with ⟨rfl, xs, hq⟩ | ⟨rfl, o, hk, hc, hd⟩ | ⟨rfl, hk⟩ | ⟨rfl, S, n, hk⟩
    · obtain ⟨its, _, pl, _⟩ := I.list hq
      refine ⟨pl.isList.typeIs, fun a e => ?_⟩
      cases e
      obtain ⟨o, n, e, c, hd, _⟩ := pl
      exact ⟨o, e, hd⟩
    · refine ⟨⟨o, I.kIn p o hk, hc⟩, fun a e => ?_⟩
      cases e
      exact ⟨o, I.kIn _ o hk, hd⟩
    · have z : ∃ o, s.heap.get? p = some o ∧ o.ExactDict := by
        rcases hk with ⟨kvs, hk⟩ | ⟨kvs, hk⟩
        · obtain ⟨_, _, _, _, o, _, _, e, ex, _⟩ := I.hok p _ hk
          exact ⟨o, e, ex⟩
        · obtain ⟨_, _, _, _, o, _, _, e, ex, _⟩ := I.hok p _ hk
          exact ⟨o, e, ex⟩
      obtain ⟨o, e, ex⟩ := z
      refine ⟨⟨o, e, ex.1⟩, fun a e2 => ?_⟩
      cases e2
      exact ⟨o, e, ex.2.1⟩
    · obtain ⟨o, _, _, _, e, ex, _⟩ := I.hok p _ hk
      refine ⟨⟨o, e, ex.1⟩, fun a e2 => ?_⟩
      cases e2
      exact ⟨o, e, ex.2.1⟩
  | _ => exact False.elim ty
def tBM0 (K : PySem.W.Frag) (T : String) (r : V → List V → Hp → VK → Prop) (to : TE) : TE := fun σ H Q => to σ H fun x H1 => tyV K T x H1 ∧ r x [] H1 Q
def tBM (K : PySem.W.Frag) (T : String) (r : V → List V → Hp → VK → Prop) (to : TE) (t : TA) : TE := fun σ H Q => to σ H fun x H1 => tyV K T x H1 ∧ t σ H1 fun xs H2 => r x xs H2 Q
variable {o e : Expr} {es : List Expr} {to : TE} {t : TA} {name : Str} {apos cpos : Pos} {T id : String} {r : V → List V → Hp → VK → Prop}
theorem pe_bm (pa : PlainAttrs T) (slot : Slot T name id) (hty : typeOf (.builtin id) = pure (.type "method_descriptor")) (hm : MtR X id r) (ho : PE X o to) (ha : PA X (e :: es) t)
    (hbase : attributeBase o name X.env (eval o X.env) = eval o X.env := by rfl)
    (hfew : ((backTo cpos (starEach (e :: es) X.env)).all (fun x => !x.1) && (backToKw cpos (keywordEach [] X.env)).all (fun x => x.1.isSome)
      && decide ((e :: es).length + ([] : List Keyword).length + (if ([] : List Keyword).isEmpty then 0 else 1) < 30)) = true := by rfl)
    (hline : (apos.endLine == cpos.line) = true := by rfl) (hs : starEach (e :: es) X.env = (false, eval e X.env) :: starEach es X.env := by rfl) (hplain : (backTo cpos (starEach es X.env)).any (·.1) = false := by rfl) :
    PE X (.Call (.Attribute o name apos) (e :: es) [] cpos) (tBM X.K T r to t) := by
  intro pins s σ H Q I h
  refine wpAny_Call_method_late hbase hfew hline rfl (thn (ho pins s σ H _ I h) fun v s1 ⟨x, H1, I1, r1, ty, q1⟩ => ?_)
  obtain ⟨h1, h2⟩ := tyV_is I1 r1 ty
  refine ⟨T, id, pa, slot, hty, h1, h2, ?_⟩
  have hA := ha cpos pins s1 σ H1 _ I1 q1
  rw [hs] at hA ⊢
  refine Calls.callWith_builtin (by show (false || (backTo cpos (starEach es X.env)).any (·.1)) = false; rw [hplain] <;> rfl) (Calls.evalArgs_plain ?_)
  exact thn hA fun us s2 ⟨vs, H2, I2, r2, q2⟩ => hm pins s2 σ H2 x vs v us Q I2 r1 r2 q2
/- xs.append(e), list.index on a module's tuple .. are MtR facts of 06m -/
end
end L2

namespace L2
open PySem PySem.Spec PyProof.Rows

def MtM (X : Cx) (id : String) (r : V → List V → Hp → VK → Prop) : Prop :=
  ∀ (pins : List (Addr × Obj)) (s : Shared) (σ : St) (H : Hp) (x : V) (xs : List V) (v : Value) (us : List Value) (Q : VK), Inv X pins σ H s → RelV x v → Vals xs us → r x xs H Q →
    wpAny (model X.prog X.w) X.A (call (.builtin id) (v :: us)) (EP X pins σ Q) X.xe s

/-! ### lists of values -/
theorem Vals.one : ∀ {x : V} {us : List Value}, Vals [x] us → ∃ u, us = [u] ∧ RelV x u
  | _, _, .cons r .nil => ⟨_, rfl, r⟩
section
variable {X : Cx} {pins : List (Addr × Obj)} {σ : St} {H : Hp} {s : Shared} {l b : Addr} {xs ys zs : List V}

/-! ### the two steps: a tracked list is rewritten, a new list is laid -/
theorem Inv.lset {its its' : List Value} {n : Nat} {f : Array Value → Array Value} {t' : Nat} (I : Inv X pins σ H s) (hH : H l = some (.lst xs))
    (e : s.heap.get? l = some { cls := .type "list", data := .seq its.toArray n }) (hf : f its.toArray = its'.toArray) (hv : Vals ys its') (hz : ys.length ≤ sizeLine) :
    Inv X pins σ (upd H l (.lst ys)) { s with heap := s.heap.update l (Obj.mapSeq f), toks := t' } := by
  have q := PySem.IsL.update e f
  rw [hf] at q
  refine I.write (x := l) (e := l) (by rw [hH]; exact trivial) (.inl rfl) (fun b' u hb hu => (Heap.get?_update_other s.heap (Obj.mapSeq f) (Ne.symm hb)).trans hu) ⟨_, q⟩ ?_
  exact ⟨hz, its', _, hv, q⟩
theorem Inv.lstM (I : Inv X pins σ H s) (hH : H l = some (.lst xs)) : xs.length ≤ sizeLine ∧ ∃ (its : List Value) (n : Nat), Vals xs its ∧ xs.length = its.length ∧ s.heap.get? l = some { cls := .type "list", data := .seq its.toArray n } := by
  obtain ⟨z, its, n, r, e⟩ := I.hok l _ hH
  exact ⟨z, its, n, r, r.length, e⟩

theorem notLongL {n : Nat} (h : n ≤ sizeLine) : Builtin.List.listTooLong n = false := by
  unfold Builtin.List.listTooLong
  exact decide_eq_false (by omega)
end

section
variable {X : Cx}

/-! ### methods -/
def rAppend : V → List V → Hp → VK → Prop := fun x vs H Q => ∃ l xs y, x = .ref l ∧ vs = [y] ∧ H l = some (.lst xs) ∧ xs.length < sizeLine ∧ Q .non (upd H l (.lst (xs ++ [y])))
theorem mt_append : MtM X "list.append" rAppend := by
  intro pins s σ H x vs v us Q I rx rv h
  obtain ⟨l, xs, y, rfl, rfl, hH, hz, q⟩ := h
  cases rx
  obtain ⟨u, rfl, ru⟩ := rv.one
  obtain ⟨z, its, n, r, hl, e⟩ := I.lstM hH
  refine call_meets F.slot_list_append ⟨_, e, rfl⟩ F.entry_list_append (F.args_list_append_2 _ _) (PySem.list_append l its.toArray n u (by rw [List.size_toArray]; omega)) ⟨e, ?_⟩
  refine ⟨.non, _, I.lset (its' := its ++ [u]) hH e (by simp) (r.append (.cons ru .nil)) ?_, rfl, q⟩
  rw [List.length_append, List.length_singleton]
  omega

def rExtend : V → List V → Hp → VK → Prop := fun x vs H Q => ∃ l b xs zs, x = .ref l ∧ vs = [.ref b] ∧ H l = some (.lst xs) ∧ H b = some (.lst zs) ∧ xs.length + zs.length ≤ sizeLine ∧ Q .non (upd H l (.lst (xs ++ zs)))
def rPop : V → List V → Hp → VK → Prop := fun x vs H Q => ∃ l xs y, x = .ref l ∧ vs = [] ∧ H l = some (.lst xs) ∧ xs[xs.length - 1]? = some y ∧ Q y (upd H l (.lst xs.dropLast))
def rPopAt : V → List V → Hp → VK → Prop := fun x vs H Q => ∃ l xs i k y, x = .ref l ∧ vs = [.int i] ∧ H l = some (.lst xs) ∧ -(2 ^ 63) ≤ i ∧ i < 2 ^ 63 ∧ seqIndex? i xs.length = some k ∧ xs[k]? = some y ∧ Q y (upd H l (.lst (xs.eraseIdx k)))
def rReverse : V → List V → Hp → VK → Prop := fun x vs H Q => ∃ l xs, x = .ref l ∧ vs = [] ∧ H l = some (.lst xs) ∧ Q .non (upd H l (.lst xs.reverse))
def rClear : V → List V → Hp → VK → Prop := fun x vs H Q => ∃ l xs, x = .ref l ∧ vs = [] ∧ H l = some (.lst xs) ∧ Q .non (upd H l (.lst []))
/-! ### list + list, list += list, list * int -/
def rCat : R2 := fun x y H Q => ∃ l b xs zs, x = .ref l ∧ y = .ref b ∧ H l = some (.lst xs) ∧ H b = some (.lst zs) ∧ xs.length + zs.length ≤ sizeLine ∧ ∀ p, H p = none → Q (.ref p) (upd H p (.lst (xs ++ zs)))
/-- a list times an int (a negative one is nothing) -/
def rRep : R2 := fun x y H Q => ∃ l k xs, x = .ref l ∧ y = .int k ∧ H l = some (.lst xs) ∧ -(2 ^ 63) ≤ k ∧ k < 2 ^ 63 ∧ xs.length * k.toNat ≤ sizeLine ∧
  ∀ p, H p = none → Q (.ref p) (upd H p (.lst (List.replicate k.toNat xs).flatten))
/-! ### del xs[i] -/
end

/-! ### xs[a:b] = ys -/
section
variable {prog : Program} {w : World} {A : Around} {E : Value → Shared → Prop} {s : Shared}
end

section
variable {X : Cx}
end
end L2

namespace Att
open PySem PySem.W PySem.Calls PyProof.Rows

/-! ### the script -/
theorem ints_of_wellAll {P : Params} {h : Heap} : ∀ (ns : List Int) (vs : List Value), WellAll P h vs (ns.map WData.int) → IntsAre vs ns := by
  intro ns
  induction ns with
  | nil =>
    intro vs w
    rw [List.map_nil] at w
    cases w
    exact .nil
  | cons n ns ih =>
    intro vs w
    rw [List.map_cons] at w
    cases w with
    | cons a b =>
      cases a
      exact .cons _ _ (ih _ b)

theorem script_of {l : OpenLaw} {n : Nat} (hn : l.most = some n) {P : Params} {h : Heap} {args : List WData} {vals : List Value}
    (hpre : l.row.toRowW.claim.pre args = true) (hwl : WellAll P h vals args) :
    ∃ a vs ns, vals = [Value.ref a] ∧ args = [WData.list (ns.map WData.int)] ∧ h.get? a = some { cls := .type "list", data := .seq vs.toArray } ∧ IntsAre vs ns ∧ ns.length ≤ n := by
  have hsh : WShape.hasAll [] args [.list .int] = true := (pre_splitW hpre).1
  have hc : l.pre.holds [] { args := args } = true := (pre_splitW hpre).2
  obtain ⟨d, r, rfl, h1, h2⟩ := hasAllW_cons hsh
  obtain rfl := hasAllW_nil h2
  obtain ⟨xs, rfl, h3⟩ := hasW_list h1
  obtain ⟨ns, rfl⟩ := items_int h3
  have hlen : ns.length ≤ n := by
    unfold OpenLaw.pre at hc
    have h4 : (WTm.not (.lt (.lit (.int (n : Int))) (.len (.arg 0)))).holds [] { args := [.list (ns.map .int)] } = true := by
      have h4 := (holds_andW hc).1
      rw [hn] at h4
      exact h4
    have h5 := condW_of h4 (w_not (w_lt w_lit (w_len_list (w_arg rfl))))
    rw [List.length_map] at h5
    refine Nat.le_of_not_lt fun q => ?_
    have q' : (n : Int) < ((ns.length : Nat) : Int) := by omega
    first
      | (rw [decide_eq_true q'] at h5; exact absurd h5 (by decide))
      | (simp at h5; omega)
  cases hwl with
  | cons w1 w2 =>
    cases w2
    cases w1 with
    | list ho hall => exact ⟨_, _, ns, rfl, rfl, ho, ints_of_wellAll ns _ hall, hlen⟩

theorem post_true (l : OpenLaw) (args : List WData) : l.row.toRowW.claim.post args (.bool true) args = true :=
  postW_of (r := l.row.toRowW) (X := (true == true))
    (show WShape.has [] (.bool true) .bool = true by first | rfl | decide | simp [WShape.has, WShape.arms, WShape.armsAll])
    (show (WTm.eq .res (.lit (.bool true))).value [] { args := args, res := some (.bool true), after := args } = some (.bool (true == true)) from w_eq_bool (w_res rfl) w_lit) rfl

/-! ### the attachment: holds_open's last premise (the goal 'hc' behind k_head) from a wpAny of the law's body -/
/-- the same from a codeAny of the CALL (for a layer whose function contracts speak of calls) -/
theorem attach_call {l : OpenLaw} {n : Nat} {q : Program} {loose : List Str} {XP : (Str → Option Value) → Heap → Prop} {YP : World → Heap → Prop} {d : DefRec}
    (hn : l.most = some n) (hdf : d.params.defaults = [])
    (call : ∀ (w : World) (s₀ s₁ : Shared) (mg mb : Str → Option Value) (fa : Addr) (o : Obj) (pm cd doc : Value) (a : Addr) (vs : List Value) (ns : List Int),
      Ground q loose [] XP w s₀ mg mb s₁.heap → YP w s₁.heap →
      s₁.heap.get? fa = some o → o.data = .func (docDef d.name d.params d.body d.scope pm cd doc) → s₁.heap.CodeRec cd d.name → mg d.name = some (.ref fa) →
      s₁.heap.get? a = some { cls := .type "list", data := .seq vs.toArray } → IntsAre vs ns → ns.length ≤ n → s₁.gens = #[] →
      codeAny (model l.prog w) callerA (.call (.ref fa) ⟨[.ref a], []⟩) (fun r s' => r = .ok (.ret (.bool true)) ∧ OldK s₁.heap s'.heap ∧ s'.os = s₁.os ∧ AllBare s'.gens) s₁) :
    WalkO q loose XP YP l.row.toRowW d [] (fun f vs => PySem.call f vs) := by
  intro w s₀ s₁ mg mb G Y fa o pm cd doc dV kV ho hd hcd hD hmg hg args vals as hpre hlay hrd hwl hlo
  obtain rfl : dV = .none := Dflts.none hD hdf
  obtain rfl : kV = .none := Dflts.noKw hD
  obtain ⟨a, vs, ns, rfl, rfl, hobj, hints, hlen⟩ := script_of hn hpre hwl
  refine enter_call (codeAny_mono (call w s₀ s₁ mg mb fa o pm cd doc a vs ns G Y ho (fd_plain hd) hcd hmg hobj hints hlen hg) fun r s' hq => ?_)
  obtain ⟨rfl, h2, h3, h4⟩ := hq
  exact ⟨.inl ⟨.bool true, .bool true, [], rfl, fun _ => rfl, .bool true, post_true l _, fun _ => ⟨List.Pairwise.nil, fun _ hm => (nomatch hm)⟩⟩, h2, h3, h4⟩

/-! ### rules over ANY heap (no ledger) from facts about the written part K: the library's own take a ledger (News) for what they write -/
section
variable {prog : Program} {w : World} {A : Around} {E : Value → Shared → Prop} {s : Shared} {K : Frag}

/-! the whole heap as the ledger: makes every rule that writes through a ledger a rule over any heap -/
def noObjs (h : Heap) : Heap := { h with objs := #[] }
def ledger (h : Heap) (L d : Addr) : List (Addr × Obj) := (List.range h.objs.size).filterMap fun a => if a = L ∨ a = d then none else (h.get? a).map fun o => (a, o)
end
end Att

namespace L2
open PySem PySem.Spec PyProof.Rows

theorem vals_ints : ∀ {vs : List Value} {ns : List Int}, IntsAre vs ns → Vals (ns.map V.int) vs
  | _, _, .nil => .nil
  | _, _, .cons n t h => .cons ⟨t, rfl⟩ (vals_ints h)

/-- nothing is tracked but the script, known to the object (or it is an object of the module) -/
def Only (H : Hp) : Prop := ∀ b, H b = none ∨ ∃ o xs, H b = some (.frz o (.lst xs))

/-- THE HEAD: the law's promise, at the heap behind the top. F, the promise of the law's def, may use that base is part of the heap (so K.In base, base.Ns mainGlobals mg stand in Mod) -/
theorem law_call {P : Program} {w : World} {K : PySem.W.Frag} {mg mb : Str → Option Value} {CX : CXT} {k : Nat} {fa a : Addr} {fd : FuncData} {x : Str} {sp : Sp} {s₁ : Shared} {vs : List Value} {ns : List Int}
    (KX : K.In s₁.heap) (hns : s₁.heap.Ns mainGlobals mg) (hb : s₁.heap.Ns builtinsNs mb) (hbb : ∀ x : Str, x ≠ "__name__" → mb x = bootBuiltins x) (hlim : s₁.heap.NoLimit) (hg : s₁.gens = #[])
    (ha : s₁.heap.get? a = some { cls := .type "list", data := .seq vs.toArray }) (hi : IntsAre vs ns) (hl : ns.length ≤ sizeLine) (hr : Room k callerA)
    (F : ∀ base : Heap, K.In base → base.Ns mainGlobals mg → FnOk P w K mg base CX k fa fd [x] sp) (hbind : ∀ (s : Shared) (u : Value), BindsTo s fd ⟨[u], []⟩ [(x, u)])
    (hsp : ∀ H : Hp, Only H → SqL K H a (ns.map V.int) → sp [.ref a] H (fun v _ => v = .bl true) fun _ _ _ => False)
    (hCX : ∀ H e s', CX [] H s₁ (fun _ _ _ => False) e s' → False) :
    codeAny (model P w) callerA (.call (.ref fa) ⟨[.ref a], []⟩) (fun r s' => r = .ok (.ret (.bool true)) ∧ OldK s₁.heap s'.heap ∧ s'.os = s₁.os ∧ AllBare s'.gens) s₁ := by
  have rv := vals_ints hi
  have lenV := hi.length
  -- from an abstract heap in which nothing but the script may be tracked
  have core : ∀ H : Hp, Only H → SqL K H a (ns.map V.int) → HOk P w H s₁.heap → (∀ b, H b ≠ none → b = a) → (H a ≠ none → K.lookup a = none) →
      codeAny (model P w) callerA (.call (.ref fa) ⟨[.ref a], []⟩) (fun r s' => r = .ok (.ret (.bool true)) ∧ OldK s₁.heap s'.heap ∧ s'.os = s₁.os ∧ AllBare s'.gens) s₁ := by
    intro H hO hS hok hA hK
    have base_of : ∀ {b : Addr} {o : Obj}, s₁.heap.get? b = some o → H b = none → (hidT s₁.heap H).get? b = some o := fun e n => hidT_get e n
    have noA : ∀ {b : Addr} {o : Obj} {es : Array DictEntry} {ep : Nat}, s₁.heap.get? b = some o → o.data = .dict es ep → H b = none := fun {b o es ep} e d => by
      cases q : H b with
      | none => rfl
      | some u =>
        have e' : b = a := hA b (by rw [q]; simp)
        subst e'
        rw [ha] at e; cases e
        have d' : Data.seq vs.toArray _ = Data.dict es ep := d
        cases d'
    have nsK : ∀ {b : Addr} {m : Str → Option Value}, s₁.heap.Ns b m → (hidT s₁.heap H).Ns b m := fun {b m} ⟨o, es, ep, e, d, r⟩ => ⟨o, es, ep, base_of e (noA e d), d, r⟩
    have hKb : K.In (hidT s₁.heap H) := fun b o e => base_of (KX b o e) (by
      cases q : H b with
      | none => rfl
      | some u =>
        have e' : b = a := hA b (by rw [q]; simp)
        subst e'
        rw [hK (by rw [q]; simp)] at e; cases e)
    have hM : Mod K mg (hidT s₁.heap H) := ⟨hKb, nsK hns, ⟨mb, nsK hb, hbb⟩, let ⟨mc, h1, h2⟩ := hlim; ⟨mc, nsK h1, h2⟩⟩
    have e0 : Env0 P w K mg (hidT s₁.heap H) callerA [] s₁ H := ⟨rfl, hM, fun b o e => of_hidT e, Nat.le_of_eq (hidT_size _ _), trivial, fun b hb => absurd (show b ∈ ([] : List Addr) from hb) (by simp), hok, .of_eq hg⟩
    refine codeAny_mono ((F _ hKb (nsK hns)).run callerA [] s₁ H ⟨[.ref a], []⟩ [.ref a] [.ref a] _ _ hr e0 (hbind s₁ (.ref a)) (.cons rfl .nil) (hsp H hO hS)) fun r s' h => ?_
    cases r with
    | error e => exact (hCX H e s' h).elim
    | ok fl =>
      cases fl with
      | next => exact False.elim h
      | brk => exact False.elim h
      | cont => exact False.elim h
      | ret u =>
        obtain ⟨v, H', os, bare, un, hok', r', q⟩ := h
        have q' : v = .bl true := q
        subst q'
        obtain rfl : u = Value.bool true := r'
        refine ⟨rfl, OldK.of_keep fun b o e => ?_, os, bare⟩
        cases q : H b with
        | none => exact un.keep b o e q (by intro z; exact absurd (show b ∈ ([] : List Addr) from z) (by simp)) (by simp)
        | some u =>
          rcases hO b with z | ⟨ob, xs, z⟩
          · rw [q] at z; cases z
          · have z2 := un.frzs b ob _ z
            obtain ⟨e1, _⟩ := hok b _ z
            obtain ⟨e2, _⟩ := hok' b _ z2
            rw [e] at e1; cases e1
            exact e2
  cases hk : K.lookup a with
  | some o =>
    -- the script is one of the module's own objects
    have e := KX a o hk
    rw [ha] at e
    cases e
    refine core (fun _ => none) (fun _ => .inl rfl) (.inr ⟨_, vs.toArray, _, hk, rfl, rfl, rfl, by rw [List.size_toArray, lenV]; exact hl, by simpa using rv⟩) (fun b u z => by have z' : (none : Option HO) = some u := z; cases z') (fun b z => absurd rfl z) fun z => absurd rfl z
  | none =>
    refine core (fun b => if b = a then some (.frz { cls := .type "list", data := .seq vs.toArray } (.lst (ns.map V.int))) else none) (fun b => ?_) (.inl (.inr ⟨{ cls := .type "list", data := .seq vs.toArray }, if_pos rfl⟩)) (fun b u z => ?_) (fun b z => ?_) fun _ => hk
    · by_cases hb : b = a
      · exact .inr ⟨_, _, if_pos hb⟩
      · exact .inl (if_neg hb)
    · by_cases hb : b = a
      · have z' := (if_pos hb).symm.trans z
        cases z'
        subst hb
        exact ⟨ha, by rw [List.length_map]; exact hl, vs, _, rv, ha⟩
      · have z' := (if_neg hb).symm.trans z
        cases z'
    · by_cases hb : b = a
      · exact hb
      · exact absurd (if_neg hb) z
end L2

namespace L2
open PySem PySem.Spec PyProof.Rows

abbrev KOf {K : PySem.W.Frag} {h : Heap} (_ : K.In h) : PySem.W.Frag := K

/-- the goal that k_head leaves (case hc), from the law's promise. F gives the function object fd (K's own) once, then the promise over every base -/
theorem walk_of {l : PySem.W.OpenLaw} {n k : Nat} {q : Program} {loose : List Str} {XP : (Str → Option Value) → Heap → Prop} {YP : World → Heap → Prop} {d : DefRec} {K : Params → PySem.W.Frag} {CX : World → CXT} {sp : World → Sp} {x : Str}
    (hn : l.most = some n) (hn2 : n ≤ sizeLine) (hdf : d.params.defaults = []) (hr : Room k callerA)
    (hY : ∀ (w : World) (h : Heap), YP w h → (K w.params).In h)
    (F : ∀ (w : World) (mg : Str → Option Value) (fa : Addr) (h : Heap), (K w.params).In h → h.Ns mainGlobals mg → mg d.name = some (.ref fa) →
      ∃ fd : FuncData, (∀ (s : Shared) (u : Value), BindsTo s fd ⟨[u], []⟩ [(x, u)]) ∧
        ∀ base : Heap, (K w.params).In base → base.Ns mainGlobals mg → FnOk l.prog w (K w.params) mg base (CX w) k fa fd [x] (sp w))
    (hsp : ∀ (w : World) (H : Hp) (a : Addr) (ns : List Int), ns.length ≤ n → Only H → SqL (K w.params) H a (ns.map V.int) → sp w [.ref a] H (fun v _ => v = .bl true) fun _ _ _ => False)
    (hCX : ∀ (w : World) (H : Hp) (s : Shared) (e : Value) (s' : Shared), CX w [] H s (fun _ _ _ => False) e s' → False) :
    PySem.W.WalkO q loose XP YP l.row.toRowW d [] (fun f vs => PySem.call f vs) := by
  refine Att.attach_call hn hdf fun w s₀ s₁ mg mb fa o pm cd doc a vs ns G Y ho hd hcd hmg hobj hints hlen hg => ?_
  have KX := hY w _ Y
  obtain ⟨fd, hb, hF⟩ := F w mg fa _ KX G.T.g hmg
  exact law_call KX G.T.g G.T.b G.T.builtins G.T.nolimit hg hobj hints (Nat.le_trans hlen hn2) hr hF hb (fun H hO hS => hsp w H a ns hlen hO hS) fun H e s' => hCX w H s₁ e s'
end L2

/- THE LAST THEOREM (shape; LID, My.* are yours):
   My.Adr: a structure of the addresses that your layer names (classes, functions); My.Txt K t: a structure (Prop) of the equations over K;
   My.txt_mk : {K} {implicit addresses ..} (e1 : nsIn K mainGlobals "law" = some (some (.ref f))) (e2 : K.lookup f = some ⟨oc, od, .func (fnOf "law" "law" params body scope dV kV doc pm an cdv ct), sl⟩) (e3 : codeIn K cdv "law" = true) .. : ∃ t, My.Txt K t

set_option maxRecDepth 100000 in
set_option maxHeartbeats 0 in
theorem PySem.Challenge.cw_LID_holds : PySem.Challenge.rw_LID.Holds := by
  w_on; o_law; k_head; (case hw => w_witness2)
  k_fill
  refine L2.walk_of (l := PySem.Challenge.rw_LID) (n := 63) (k := 40) (x := "script") (CX := fun w => ..) (sp := fun _ => My.sp_law) rfl (by decide) rfl ⟨rfl, by decide, by decide⟩ (fun w h Y => PySem.W.kIn_of Y) ?F ?S ?C
  case F =>
    intro w mg fa h KX G hmg
    have T : ∃ t, My.Txt (L2.KOf KX) t := by
      dsimp only [L2.KOf]                          -- K must stand as «<heap const> w.params» for k_is
      refine' My.txt_mk ?e1 ?e2 ?e3 ..
      (case e1 => PySem.W.k_is)                    -- in the order: a name -> its address -> its object -> its parts
      (case e2 => PySem.W.k_is)
      ..
    obtain ⟨t, T⟩ := T
    have e0 := hmg.symm.trans (PySem.W.mg_of KX G T.law)
    cases e0                                       -- fa is the law's own address
    exact ⟨_, fun s u => .of_eq rfl, fun base kb nb => My.law_fn T kb nb⟩     -- if «.of_eq rfl» comes too early: refine' ⟨_, ?b, fun base kb nb => My.law_fn T kb nb⟩; exact fun s u => .of_eq rfl
  case S => exact fun w H a ns hl hO hS => ..
  case C => exact ..
(the tactic k_is has no namespace: write k_is) -/

/-! SHORT WORDS over the layer: a def of the text, its body, what a loop and a test want. -/
namespace L2
open PySem PySem.Spec PyProof.Rows

/-! ### the text by places -/
/-- the j-th statement of a class's body -/
def inClass (s : Stmt) (j : Nat) : Stmt := match s with
  | .ClassDef _ _ _ body _ _ _ _ _ _ _ => body.getD j (.Pass ⟨0, 0, 0, 0⟩)
  | _ => .Pass ⟨0, 0, 0, 0⟩
def defArgs (s : Stmt) : Arguments := match s with
  | .FunctionDef _ a _ _ _ _ _ _ _ _ => a
  | _ => { posonlyargs := [], args := [], vararg := none, kwonlyargs := [], kw_defaults := [], kwarg := none, defaults := [] }
def defBody (s : Stmt) : List Stmt := match s with
  | .FunctionDef _ _ b _ _ _ _ _ _ _ => b
  | _ => []
def defScope (s : Stmt) : Scope := match s with
  | .FunctionDef _ _ _ _ _ _ sc _ _ _ => sc
  | _ => { kind := .function, names := [], isGenerator := false, isCoroutine := false }

/-! ### no exception leaves a def -/
abbrev CX0 : CXT := fun _ _ _ _ _ _ => False
abbrev E0 : XK := fun _ _ _ => False
theorem pass0 {X : Cx} : Passes CX0 X E0 := fun _ _ _ _ _ _ _ h => h.elim

/-! ### a def (or method) of the text as it stands behind the top -/
structure Fun (K : PySem.W.Frag) (x qual : Str) (st : Stmt) (f : Addr) (fd : FuncData) : Prop where
  ex : ∃ (oc : Value) (od : Option Addr) (kV doc pm : Value) (an : Option Addr) (cdv ct : Value) (osl : Array (Option Value)),
    fd = PySem.W.fnOf x qual (defArgs st) (defBody st) (defScope st) .none kV doc pm an cdv ct ∧ K.lookup f = some ⟨oc, od, .func fd, osl⟩ ∧ PySem.W.codeIn K cdv qual = true
  kp : PySem.W.keepIn K (.ref f) = true
section
variable {P : Program} {w : World} {K : PySem.W.Frag} {mg : Str → Option Value} {base : Heap}
/-- THE RULE for a def: its body as a term of rules, and the reading of that term -/
theorem Fun.ok {x qual : Str} {st : Stmt} {f : Addr} {fd : FuncData} {N ps : List Str} {k : Nat} {sp : Sp} (F : Fun K x qual st f fd) (S : FnScope N ps (defScope st)) (len : ∀ vs H Q E, sp vs H Q E → vs.length = ps.length)
    (hbody : ∀ (cdv : Value) (A : Around) (outer : List Env) (s : Shared) (H : Hp) (vs : List V) (Q : VK) (E : XK), Room k (A.deeper (envOfC qual (defScope st) s.heap.objs.size f cdv)) → sp vs H Q E →
      ∃ t, PSs (cxOf CX0 P w K mg base N qual (defScope st) f cdv A outer s H E).nox (defBody st) t ∧ t { nx := fun _ H' => Q .non H', rt := Q } (start N vs) H) : FnOk P w K mg base CX0 (k + 1) f fd ps sp := by
  obtain ⟨oc, od, kV, doc, pm, an, cdv, ct, osl, rfl, lk, hcd⟩ := F.ex
  refine fn_of lk hcd S len fun A outer s H vs Q E hr hsp => ?_
  obtain ⟨t, h, q⟩ := hbody cdv A outer s H vs Q E hr hsp
  exact ⟨t, h.nox, q⟩
theorem fun_mk {x qual : Str} {st : Stmt} {f : Addr} {oc : Value} {od an : Option Addr} {osl : Array (Option Value)} {kV doc pm cdv ct : Value} (l : K.lookup f = some ⟨oc, od, .func (PySem.W.fnOf x qual (defArgs st) (defBody st) (defScope st) .none kV doc pm an cdv ct), osl⟩)
    (c : PySem.W.codeIn K cdv qual = true) (k : PySem.W.keepIn K (.ref f) = true) : Fun K x qual st f (PySem.W.fnOf x qual (defArgs st) (defBody st) (defScope st) .none kV doc pm an cdv ct) := ⟨⟨oc, od, kV, doc, pm, an, cdv, ct, osl, rfl, l, c⟩, k⟩
end
/-! ### expressions in short: the name that stands in the i-th slot -/
section
variable {X : Cx}
theorem pv (i : Nat) {x : Str} {pos : Pos} (hN : X.N[i]? = some x := by rfl) (hv : Vis X.env.scope x := by first | exact Or.inl rfl | exact Or.inr (Or.inl rfl) | exact Or.inr (Or.inr rfl)) (hd : (x == ("__debug__" : Str)) = false := by decide)
    (hcd : (x == ("__classdict__" : Str)) = false := by decide) : PE X (.Name x pos) (tVar i) := pe_var hN hv hd hcd
end

/-! ### tests -/
theorem iteF {A B : Prop} (h : B) : if false = true then A else B := by
  rw [if_neg Bool.false_ne_true]
  exact h
theorem iteT {A B : Prop} (h : A) : if true = true then A else B := by
  rw [if_pos rfl]
  exact h
theorem ite2 {c A B : Prop} [Decidable c] (h1 : c → A) (h2 : ¬ c → B) : if c then A else B := by
  by_cases h : c
  · rw [if_pos h]
    exact h1 h
  · rw [if_neg h]
    exact h2 h
/-! ### heaps -/
/-- all that was tracked is as it was -/
def Same (H H' : Hp) : Prop := ∀ b o, H b = some o → H' b = some o
theorem Same.refl (H : Hp) : Same H H := fun _ _ h => h
theorem Same.trans {H H1 H2 : Hp} (a : Same H H1) (b : Same H1 H2) : Same H H2 := fun c o h => b c o (a c o h)
theorem Same.free {H H' : Hp} (e : Same H H') {l : Addr} (h : H' l = Option.none) : H l = Option.none := by
  cases q : H l with
  | none => rfl
  | some o =>
    rw [e l o q] at h
    cases h
theorem Same.seq {K : PySem.W.Frag} {H H' : Hp} {a : Addr} {xs : List V} (e : Same H H') (h : SqL K H a xs) : SqL K H' a xs := by
  rcases h with (h | ⟨o, h⟩) | h
  · exact .inl (.inl (e _ _ h))
  · exact .inl (.inr ⟨o, e _ _ h⟩)
  · exact .inr h

end L2

namespace L2
open PySem PySem.Spec PyProof.Rows

/-! ### lists of pairs as tables -/
section
variable {κ : Type} [DecidableEq κ]
def valV (kvs : List (κ × V)) (k : κ) : Option V := (kvs.find? fun kv => decide (kv.1 = k)).map (·.2)
/-- in its place, or at the end -/
def putK (kvs : List (κ × V)) (k : κ) (v : V) : List (κ × V) :=
  if (kvs.any fun kv => decide (kv.1 = k)) = true then kvs.map (fun kv => if kv.1 = k then (kv.1, v) else kv) else kvs ++ [(k, v)]
def dropK (kvs : List (κ × V)) (k : κ) : List (κ × V) := kvs.filter fun kv => decide (kv.1 ≠ k)

theorem valV_nil {k : κ} : valV ([] : List (κ × V)) k = none := rfl
end


/-! ### a tracked dict, its keys ints and texts or tuples of these -/
/-- raw entries of a dict with tuple keys -/
abbrev KT (H : Hp) : List (List Key × V) → List (List Key × Addr × Value) → Prop := Paired fun p q => p.1 = q.1 ∧ H q.2.1 = some (.tup (p.1.map kV)) ∧ RelV p.2 q.2.2
section
variable {P : Program} {w : World} {H : Hp} {h : Heap} {a : Addr}
end

/-- what the dict at a holds at the key y -/
def DGet (H : Hp) (a : Addr) (y : V) (r : Option V) : Prop :=
  (∃ kvs k, Rd H a (.dK kvs) ∧ y = kV k ∧ r = valV kvs k) ∨ ∃ kvs k b, Rd H a (.dT kvs) ∧ y = .ref b ∧ H b = some (.tup (k.map kV)) ∧ r = valV kvs k
/-- the heap behind a[y] = v -/
def DPut (H : Hp) (a : Addr) (y v : V) (H' : Hp) : Prop :=
  (∃ kvs k, H a = some (.dK kvs) ∧ y = kV k ∧ kvs.length < sizeLine ∧ H' = upd H a (.dK (putK kvs k v))) ∨
  ∃ kvs k b, H a = some (.dT kvs) ∧ y = .ref b ∧ H b = some (.tup (k.map kV)) ∧ kvs.length < sizeLine ∧ H' = upd H a (.dT (putK kvs k v))
section
variable {X : Cx} {pins : List (Addr × Obj)} {σ : St} {H : Hp} {s : Shared} {a : Addr} {y v : V} {u r : Value} {o : Option V} {A : Around} {E : Value → Shared → Prop}

end

section
variable {X : Cx} {pins : List (Addr × Obj)} {σ : St} {H : Hp} {s : Shared} {a : Addr} {kvs : List (Key × V)} {k : Key} {u : Value} {A : Around} {E : Value → Shared → Prop}
end


/-! ### readings and rules -/
/-- the element of a subscription, not a slice -/
def NoSl (i : Expr) : Prop := ∀ ov iv, subscripted i false ov iv = operate [ov, iv] (getItem ov iv)
/-- d[y] -/
def tDGet (td ty : TE) : TE := fun σ H Q => td σ H fun x H1 => ty σ H1 fun y H2 => ∃ a v, x = .ref a ∧ DGet H2 a y (some v) ∧ Q v H2
/-- y in d, y not in d -/
def tDIn (ty td : TE) : TE := fun σ H Q => ty σ H fun y H1 => td σ H1 fun x H2 => ∃ a o, x = .ref a ∧ DGet H2 a y o ∧ Q (.bl o.isSome) H2
def tDNotIn (ty td : TE) : TE := fun σ H Q => ty σ H fun y H1 => td σ H1 fun x H2 => ∃ a o, x = .ref a ∧ DGet H2 a y o ∧ Q (.bl (!o.isSome)) H2
/-- d[y] = v -/
def sDPut (td ty tv : TE) : TS := fun D σ H => tv σ H fun v H1 => td σ H1 fun x H2 => ty σ H2 fun y H3 => ∃ a H4, x = .ref a ∧ DPut H3 a y v H4 ∧ D.nx σ H4
/-- d[y] op= v -/
def sDAug (td ty tv : TE) (rd : V → V → Hp → VK → Prop) : TS := fun D σ H => td σ H fun x H1 => ty σ H1 fun y H2 => ∃ a v, x = .ref a ∧ DGet H2 a y (some v) ∧
  tv σ H2 fun y2 H3 => rd v y2 H3 fun z H4 => ∃ H5, DPut H4 a y z H5 ∧ D.nx σ H5
/-- del d[y] -/
def sDDel (td ty : TE) : TS := fun D σ H => td σ H fun x H1 => ty σ H1 fun y H2 => ∃ a kvs k, x = .ref a ∧ H2 a = some (.dK kvs) ∧ y = kV k ∧ (valV kvs k).isSome = true ∧ D.nx σ (upd H2 a (.dK (dropK kvs k)))

section
variable {X : Cx} {o i e value : Expr} {pos pos' tpos : Pos} {td ty tv : TE}
end


/-! ### displays -/
/-- {}, to be a dict of the kind that is wanted -/
def tDNewK : TE := fun _ H Q => ∀ p, H p = none → Q (.ref p) (upd H p (.dK []))
def tDNewT : TE := fun _ H Q => ∀ p, H p = none → Q (.ref p) (upd H p (.dT []))
section
variable {X : Cx} {pos : Pos}
end

/-- the pairs of a display, from the left -/
def tPairs : List (TE × TE) → St → Hp → (List (V × V) → Hp → Prop) → Prop
  | [], _, H, Q => Q [] H
  | (tk, tv) :: r, σ, H, Q => tk σ H fun x H1 => tv σ H1 fun y H2 => tPairs r σ H2 fun ps H3 => Q ((x, y) :: ps) H3
abbrev VV : List (V × V) → List (Value × Value) → Prop := Paired fun p q => RelV p.1 q.1 ∧ RelV p.2 q.2
def PPs (X : Cx) (pos : Pos) (keys : List (Option Expr)) (values : List Expr) (trs : List (TE × TE)) : Prop :=
  ∀ (pins : List (Addr × Obj)) (s : Shared) (σ : St) (H : Hp) (Q : List (V × V) → Hp → Prop), Inv X pins σ H s → tPairs trs σ H Q →
    wpAny (model X.prog X.w) X.A (evalPairs (pairTrees keys values X.env pos)) (fun vs s' => ∃ ps H', Inv X pins σ H' s' ∧ VV ps vs ∧ Q ps H') X.xe s
def mergeK (kvs more : List (Key × V)) : List (Key × V) := more.foldl (fun acc kv => putK acc kv.1 kv.2) kvs
/-- {k: v, ..} with keys ints and texts; the new dict stands empty while the pairs are made -/
def tDisp (trs : List (TE × TE)) : TE := fun σ H Q => ∀ p, H p = none → tPairs trs σ (upd H p (.dK [])) fun ps H2 => H2 p = some (.dK []) ∧ ∃ kvs : List (Key × V), ps = kvs.map (fun kv => (kV kv.1, kv.2)) ∧ kvs.length ≤ 15 ∧ Q (.ref p) (upd H2 p (.dK (mergeK [] kvs)))
/-! ### methods -/
/-- a method call o.m(e) of a built-in, with one argument: what must be seen of the text -/
structure M1 (X : Cx) (o : Expr) (m : Str) (apos : Pos) (e : Expr) (cpos : Pos) : Prop where
  base : attributeBase o m X.env (eval o X.env) = eval o X.env
  few : ((backTo cpos (starEach [e] X.env)).all (fun x => !x.1) && (backToKw cpos (keywordEach [] X.env)).all (fun x => x.1.isSome)
    && decide (([e] : List Expr).length + ([] : List Keyword).length + (if ([] : List Keyword).isEmpty then 0 else 1) < 30)) = true
  line : (apos.endLine == cpos.line) = true
  trees : backTo cpos (starEach [e] X.env) = [(false, eval e X.env)]
structure M2 (X : Cx) (o : Expr) (m : Str) (apos : Pos) (e f : Expr) (cpos : Pos) : Prop where
  base : attributeBase o m X.env (eval o X.env) = eval o X.env
  few : ((backTo cpos (starEach [e, f] X.env)).all (fun x => !x.1) && (backToKw cpos (keywordEach [] X.env)).all (fun x => x.1.isSome)
    && decide (([e, f] : List Expr).length + ([] : List Keyword).length + (if ([] : List Keyword).isEmpty then 0 else 1) < 30)) = true
  line : (apos.endLine == cpos.line) = true
  trees : backTo cpos (starEach [e, f] X.env) = [(false, eval e X.env), (false, eval f X.env)]

/-- a is a dict, whatever its keys -/
def IsD (H : Hp) (a : Addr) : Prop := (∃ kvs, Rd H a (.dK kvs)) ∨ ∃ kvs, Rd H a (.dT kvs)
section
variable {X : Cx} {pins : List (Addr × Obj)} {σ : St} {H : Hp} {s : Shared} {a : Addr} {y d : V} {u r : Value} {o : Option V} {A : Around} {E : Value → Shared → Prop}
end

def tDGet1 (td ty : TE) : TE := fun σ H Q => td σ H fun x H1 => ∃ a, x = .ref a ∧ IsD H1 a ∧ ty σ H1 fun y H2 => ∃ o, DGet H2 a y o ∧ Q (o.getD .non) H2
def tDGet2 (td ty tx : TE) : TE := fun σ H Q => td σ H fun x H1 => ∃ a, x = .ref a ∧ IsD H1 a ∧ ty σ H1 fun y H2 => tx σ H2 fun z H3 => ∃ o, DGet H3 a y o ∧ Q (o.getD z) H3
/-- d.pop(k): there; d.pop(k, x): there or not -/
def tDPop1 (td ty : TE) : TE := fun σ H Q => td σ H fun x H1 => ∃ a, x = .ref a ∧ IsD H1 a ∧ ty σ H1 fun y H2 => ∃ kvs k v, H2 a = some (.dK kvs) ∧ y = kV k ∧ valV kvs k = some v ∧ Q v (upd H2 a (.dK (dropK kvs k)))
def tDPop2 (td ty tx : TE) : TE := fun σ H Q => td σ H fun x H1 => ∃ a, x = .ref a ∧ IsD H1 a ∧ ty σ H1 fun y H2 => tx σ H2 fun z H3 => ∃ kvs k, H3 a = some (.dK kvs) ∧ y = kV k ∧
  (∀ v, valV kvs k = some v → Q v (upd H3 a (.dK (dropK kvs k)))) ∧ (valV kvs k = none → Q z H3)
section
variable {X : Cx} {o e f : Expr} {apos cpos : Pos} {td ty tx : TE}
end

/-! ### dict(d): a copy -/
section
variable {X : Cx} {pins : List (Addr × Obj)} {σ : St} {H : Hp} {s : Shared} {a : Addr} {kvs : List (Key × V)} {A : Around} {E : Value → Shared → Prop}
end


section
variable {X : Cx} {pins : List (Addr × Obj)} {σ : St} {H : Hp} {s : Shared} {a : Addr} {y : V} {u : Value} {A : Around} {E : Value → Shared → Prop}
end
end L2
namespace L2
open PySem PySem.Spec PyProof.Rows

/-! ### comprehensions -/
theorem nof {α : Type} {M : Model} {A : Around} {t : Sem α} {Q : α → Shared → Prop} {E : Value → Shared → Prop} {s : Shared} (h : wpAny M A t Q (fun _ _ => False) s) : wpAny M A t Q E s :=
  wpAny_mono h (fun _ _ x => x) fun _ _ f => f.elim

/-- the tests of a clause -/
def PTs (X : Cx) (ifs : List Expr) (t : TT) : Prop :=
  ∀ (pins : List (Addr × Obj)) (s : Shared) (σ : St) (H : Hp) (Q : Bool → Hp → Prop), Inv X pins σ H s → t σ H Q →
    wpAny (model X.prog X.w) X.A (forIn ifs true fun c r => if r = true then do let ok ← isTrue c X.env (eval c X.env); pure (ForInStep.yield ok) else pure (ForInStep.yield r)) (TP X pins σ Q) X.xe s
def tYes : TT := fun _ H Q => Q true H
theorem pts_nil {X : Cx} : PTs X [] tYes := fun _ _ _ H _ I h => wpAny_tests_nil ⟨H, I, h⟩
theorem pts_one {X : Cx} {c : Expr} {t : TT} (h : PT X c t) : PTs X [c] t := fun pins s σ H Q I hq => wpAny_tests_one (h pins s σ H Q I hq)

/-- the block's names at its start: its own one, then those of the frame around -/
def cst (ix : List Nat) (σ : St) : St := none :: ix.map fun j => (σ[j]?).getD none

/-- the context of a comprehension's block -/
def cmpCx (X : Cx) (Nc : List Str) (scope : Scope) (cl : List (Str × Addr)) (C : Addr) (fp : List Addr) (s : Shared) (H : Hp) : Cx where
  prog := X.prog
  w := X.w
  K := X.K
  mg := X.mg
  base := X.base
  A := X.A
  N := Nc
  s₀ := s
  H₀ := H
  env := compEnvC scope cl C X.env
  outer := X.stack
  stack := X.stack
  ex := fp
  fn := fun _ => false
  calm := X.calm
  pn := []
  xe := fun _ _ => False

/-- each name of the frame around that the block reads -/
def FreeOk (X : Cx) (scope : Scope) (cl : List (Str × Addr)) : List Str → List Nat → Prop
  | [], [] => True
  | y :: ys, i :: ix => (X.N[i]? = some y ∧ X.env.kindOf y = some .cell ∧ cl.lookup y = X.env.cells.lookup y ∧ (relabel scope X.env).names.lookup y = some .cell) ∧ FreeOk X scope cl ys ix
  | _, _ => False
theorem FreeOk.len {X : Cx} {scope : Scope} {cl : List (Str × Addr)} : ∀ {ys : List Str} {ix : List Nat}, FreeOk X scope cl ys ix → ix.length = ys.length
  | [], [], _ => rfl
  | _ :: _, _ :: _, h => by simp [FreeOk.len h.2]
  | [], _ :: _, h => h.elim
  | _ :: _, [], h => h.elim
theorem FreeOk.at {X : Cx} {scope : Scope} {cl : List (Str × Addr)} : ∀ {ys : List Str} {ix : List Nat}, FreeOk X scope cl ys ix → ∀ (j : Nat) (y : Str), ys[j]? = some y →
    ∃ i, ix[j]? = some i ∧ X.N[i]? = some y ∧ X.env.kindOf y = some .cell ∧ cl.lookup y = X.env.cells.lookup y ∧ (relabel scope X.env).names.lookup y = some .cell
  | [], [], _, j, y, e => by simp at e
  | z :: _, i :: _, h, 0, y, e => by
    simp at e
    subst e
    exact ⟨i, rfl, h.1⟩
  | _ :: _, _ :: _, h, j + 1, y, e => by
    obtain ⟨i, e1, e2⟩ := FreeOk.at h.2 j y (by simpa using e)
    exact ⟨i, by simpa using e1, e2⟩
  | [], _ :: _, h, _, _, _ => h.elim
  | _ :: _, [], h, _, _, _ => h.elim

def SubOk (X : Cx) : List (Str × Addr) → Prop
  | [] => True
  | p :: r => X.env.cells.lookup p.1 = some p.2 ∧ SubOk X r
theorem SubOk.mem {X : Cx} : ∀ {cl : List (Str × Addr)}, SubOk X cl → ∀ p ∈ cl, X.env.cells.lookup p.1 = some p.2
  | [], _, p, hp => absurd hp (by simp)
  | _ :: _, h, p, hp => by
    rcases List.mem_cons.mp hp with e | e
    · subst e; exact h.1
    · exact SubOk.mem h.2 p e
structure CompNames (X : Cx) (scope : Scope) (cl : List (Str × Addr)) (x : Str) (ys : List Str) (ix : List Nat) : Prop where
  clos : closureFor scope X.env = pure cl
  cell : (scope.names.all fun y => !(y.2 == NameKind.cell)) = true
  kind : scope.kind = .function
  names : (scope.names.all fun y => !(y.2 == NameKind.local) || scope.names.lookup y.1 == some NameKind.local) = true
  hx : scope.names.lookup x = some .local
  nd : (x :: ys).Nodup
  sub : SubOk X cl
  has : ((relabel scope X.env).names.all fun p => !(p.2 == NameKind.cell || p.2 == NameKind.free) || (cl.lookup p.1).isSome) = true
  free : FreeOk X scope cl ys ix

theorem lookup_mem {α β : Type} [BEq α] [LawfulBEq α] {k : α} {v : β} : ∀ {l : List (α × β)}, l.lookup k = some v → (k, v) ∈ l
  | [], h => by simp at h
  | (a, b) :: r, h => by
    rw [List.lookup_cons] at h
    cases q : k == a with
    | true =>
      rw [q] at h
      have e := eq_of_beq q
      subst e
      cases h
      exact List.mem_cons_self
    | false =>
      rw [q] at h
      exact List.mem_cons_of_mem _ (lookup_mem h)

section
variable {X : Cx} {scope : Scope} {cl : List (Str × Addr)} {x : Str} {ys : List Str} {ix : List Nat}
theorem CompNames.sub' (n : CompNames X scope cl x ys ix) : ∀ y c, cl.lookup y = some c → X.env.cells.lookup y = some c := fun y c e => by
  exact n.sub.mem (y, c) (lookup_mem e)
theorem CompNames.has' (n : CompNames X scope cl x ys ix) : ∀ y, ((relabel scope X.env).names.lookup y = some .cell ∨ (relabel scope X.env).names.lookup y = some .free) → ∃ c, cl.lookup y = some c := fun y h => by
  have : ∃ k : NameKind, (y, k) ∈ (relabel scope X.env).names ∧ (k = .cell ∨ k = .free) := by
    rcases h with h | h
    · exact ⟨_, lookup_mem h, .inl rfl⟩
    · exact ⟨_, lookup_mem h, .inr rfl⟩
  obtain ⟨k, hm, hk⟩ := this
  have q := List.all_eq_true.mp n.has (y, k) hm
  have : (k == NameKind.cell || k == NameKind.free) = true := by
    rcases hk with rfl | rfl <;> decide
  simp only [this, Bool.not_true, Bool.false_or] at q
  exact Option.isSome_iff_exists.mp q
theorem CompNames.cell' (n : CompNames X scope cl x ys ix) : ∀ y ∈ scope.names, y.2 ≠ .cell := fun y hy e => by
  have q := List.all_eq_true.mp n.cell y hy
  rw [e] at q
  exact absurd q (by decide)
theorem CompNames.names' (n : CompNames X scope cl x ys ix) : ∀ y ∈ scope.names, y.2 = .local → scope.names.lookup y.1 = some .local := fun y hy e => by
  have q := List.all_eq_true.mp n.names y hy
  rw [e] at q
  have z : (NameKind.local == NameKind.local) = true := by decide
  simp only [z, Bool.not_true, Bool.false_or] at q
  exact eq_of_beq q
end

/-- [te for x in wi if tt]: W the turn, a measure, what is gathered, the heap -/
def tComp (wi : TI) (ix : List Nat) (tt : TT) (te : TE) : TE := fun σ H Q => wi σ H fun J H1 => ∃ W : Nat → Nat → List V → Hp → Prop, (∃ m, W 0 m [] H1) ∧ ∀ i m ys H2, W i m ys H2 →
  (J.stop i H2 ∧ ys.length ≤ sizeLine ∧ ∀ p, H2 p = none → Q (.ref p) (upd H2 p (.lst ys))) ∨
  (J.go i H2 ∧ ys.length ≤ sizeLine ∧ ∀ x H3, J.yld i H2 x H3 → tt ((cst ix σ).set 0 (some x)) H3 fun b H4 =>
    if b = true then te ((cst ix σ).set 0 (some x)) H4 fun v H5 => ∃ m', m' < m ∧ W (i + 1) m' (ys ++ [v]) H5 else ∃ m', m' < m ∧ W (i + 1) m' ys H4)

section
variable {X : Cx} {scope : Scope} {cl : List (Str × Addr)} {x : Str} {ys : List Str} {ix : List Nat}

theorem cmp_start {pins : List (Addr × Obj)} {σ : St} {H : Hp} {s : Shared} {fp : List Addr} {D C : Addr} {h₁ : Heap} {tk : Nat} {ob : Obj} {m : Str → Option Value} (n : CompNames X scope cl x ys ix) (I : Inv X pins σ H s)
    (f : ∀ b ∈ fp, FpOk X pins H b) (fo : ∀ b ∈ fp, b < s.heap.objs.size) (hD : s.heap.objs.size ≤ D) (hC : s.heap.objs.size ≤ C) (hDC : D ≠ C) (old : ∀ b o, s.heap.get? b = some o → h₁.get? b = some o) (hns : h₁.Ns C m) (hob : h₁.get? D = some ob)
    (hcell : ∀ v, ob.data ≠ .cell v) : Inv (cmpCx X (x :: ys) scope cl C fp s H) [(D, ob)] (cst ix σ) H { s with heap := h₁, toks := tk } := by
  have nst : ∀ b, s.heap.objs.size ≤ b → b ∉ frs X.stack := fun b hb z => by
    rcases List.mem_cons.mp (I.stkSub b z) with e | e
    · exact absurd (Nat.lt_of_lt_of_le I.lt (by rw [← e]; exact hb)) (Nat.lt_irrefl _)
    · exact I.nofs hb e
  have lt_cell : ∀ y c, cl.lookup y = some c → c < s.heap.objs.size := fun y c e => by
    obtain ⟨v, q⟩ := I.cell y c (n.sub' y c e)
    exact q.lt
  refine ⟨⟨I.ok.mod, n.kind, I.ok.glob, I.ok.blt, hC, fun y z c h1 h2 => I.ok.inj y z c (n.sub' y c h1) (n.sub' z c h2), n.has', (fun y c h => absurd (show false = true from h) (by decide)), I.ok.hd, I.ok.frames, .inl rfl, fun b hb => ⟨?_, fun y c e => ?_⟩, I.bs,
    Nat.le_trans I.ok.bsz I.sz, fun b o e hb => ?_, fun b hb z => ?_, I.stack, I.stkFree⟩, rfl, I.bare, Un.kept old, ⟨m, hns, fun i y v h1 h2 h3 => ?_⟩, fun y c e => ?_, I.hok.fresh hC, fun y c e => I.freeC y c (n.sub' y c e), fun p hp => ?_, I.hok.kept old, ?_⟩
  · exact Nat.ne_of_lt (Nat.lt_of_lt_of_le (fo b hb) hC)
  · exact (f b hb).2.2.2.2.1 y c (n.sub' y c e)
  · rcases (f b hb).2.2.2.1 with z | z
    · exact I.ok.noex b o e z
    · exact absurd (Nat.lt_of_lt_of_le (Heap.lt_size e) (Nat.le_trans I.ok.bsz z)) (Nat.lt_irrefl _)
  · rcases List.mem_cons.mp (I.stkSub b z) with e | e
    · exact (f b hb).2.1 e
    · exact (f b hb).2.2.1 e
  · cases i with
    | zero =>
      have h2' : (none : Option V) = some v := Option.some.inj h2
      cases h2'
    | succ j =>
      have h1' : ys[j]? = some y := h1
      obtain ⟨i, e1, e2, e3, e4, e5⟩ := n.free.at j y h1'
      have h2' : (ix.map fun j => (σ[j]?).getD none)[j]? = some (some v) := by simpa [cst] using h2
      rw [List.getElem?_map, e1] at h2'
      have h2'' : (σ[i]?).getD none = some v := Option.some.inj h2'
      have h4 : σ[i]? = some (some v) := by
        cases q : σ[i]? with
        | none => rw [q] at h2''; cases h2''
        | some o => rw [q] at h2''; exact congrArg some h2''
      obtain ⟨m', hn', hl⟩ := I.loc
      obtain ⟨u, r, look⟩ := hl i y v e2 h4 (.inr (.inl e3))
      refine ⟨u, r, .inr ⟨.inl e5, ?_⟩⟩
      rcases look with ⟨k, _⟩ | ⟨_, c, e, z⟩
      · rw [e3] at k; cases k
      · refine ⟨c, e4.trans e, ?_⟩
        obtain ⟨o, ho, hd⟩ := z
        exact ⟨o, old _ _ ho, hd⟩
  · obtain ⟨v, o, ho, hd⟩ := I.cell y c (n.sub' y c e)
    exact ⟨v, o, old _ _ ho, hd⟩
  · have hp' : p ∈ [(D, ob)] := hp
    have e := List.mem_singleton.mp hp'
    subst e
    exact ⟨hob, I.hok.fresh hD, hDC, nst D hD, hcell⟩
  · show (none :: ix.map _).length = (x :: ys).length
    simp [n.free.len]

/-- a comprehension's block, whatever is done with the list behind it -/
theorem comp_block {elt iter : Expr} {ifs : List Expr} {px pos : Pos} {tt : TT} {te : TE} {pins : List (Addr × Obj)} {σ : St} {H2 : Hp} {s2 : Shared} {it : Addr} {fp : List Addr} {tn : Nat → Heap → Prop} {J : It} {W : Nat → Nat → List V → Hp → Prop} {m0 : Nat} {Z : List V → Hp → Prop} {RR : Value → Addr → Result → Shared → Prop}
    {E : Value → Shared → Prop} (n : CompNames X scope cl x ys ix) (hc : X.calm = true)
    (ht : ∀ C fp s H, PTs (cmpCx X (x :: ys) scope cl C fp s H) ifs tt) (he : ∀ C fp s H, PE (cmpCx X (x :: ys) scope cl C fp s H) elt te)
    (I2 : Inv X pins σ H2 s2) (T : Turn X.prog X.w X.K (.Name x px) J fp it tn) (st2 : tn 0 s2.heap) (f2 : ∀ b ∈ fp, FpOk X pins H2 b) (w0 : W 0 m0 [] H2)
    (turn : ∀ i m ys H2, W i m ys H2 → (J.stop i H2 ∧ ys.length ≤ sizeLine ∧ Z ys H2) ∨ (J.go i H2 ∧ ys.length ≤ sizeLine ∧ ∀ x H3, J.yld i H2 x H3 → tt ((cst ix σ).set 0 (some x)) H3 fun b H4 =>
      if b = true then te ((cst ix σ).set 0 (some x)) H4 fun v H5 => ∃ m', m' < m ∧ W (i + 1) m' (ys ++ [v]) H5 else ∃ m', m' < m ∧ W (i + 1) m' ys H4))
    (hRR : ∀ (D C : Addr) (s4 : Shared) (H3 : Hp) (zs : List V) (m : Str → Option Value), Inv X pins σ (upd H3 D (.lst zs)) s4 → s4.heap.Ns C m → FpOk X pins (upd H3 D (.lst zs)) C → H3 D = none → Z zs H3 → RR (.ref D) C (.ok .next) s4) :
    wpAny (model X.prog X.w) X.A (newList []) (fun acc s₃ => wpAny (model X.prog X.w) X.A (newFunctionEnv scope X.env.globals cl [] X.env.qual none .none (some X.env)) (fun cenv s₄ =>
      codeAny (model X.prog X.w) X.A (.compStart (.ListComp elt [⟨.Name x px, iter, ifs, 0⟩] scope pos) 0 (.ref it) acc { cenv with scope := relabel scope X.env }) (RR acc cenv.locals) s₄) E s₃) E s2 := by
  have fo : ∀ b ∈ fp, b < s2.heap.objs.size := fun b hb => let ⟨_, e, _⟩ := T.obj _ _ st2 b hb; Heap.lt_size e
  refine wpAny_newObj_type (wpAny_newFunctionEnv n.cell' (by intro y hy; simp at hy) (fun h₁ hns₁ hsb₁ => ?_) n.kind)
  dsimp only at hns₁ hsb₁ ⊢
  generalize hH3 : s2.heap.push { cls := .type "list", dict := none, data := .seq ([] : List Value).toArray } = G at hns₁ hsb₁ ⊢
  have hC : G.objs.size = s2.heap.objs.size + 1 := by rw [← hH3, Heap.size_push]
  have hDC : s2.heap.objs.size ≠ G.objs.size := by rw [hC]; exact Nat.ne_of_lt (Nat.lt_succ_self _)
  have hCle : s2.heap.objs.size ≤ G.objs.size := by rw [hC]; exact Nat.le_succ _
  have below : ∀ b, b < s2.heap.objs.size → b ≠ G.objs.size ∧ b ≠ s2.heap.objs.size := fun b hb => ⟨by rw [hC]; exact Nat.ne_of_lt (Nat.lt_succ_of_lt hb), Nat.ne_of_lt hb⟩
  have old : ∀ b o, s2.heap.get? b = some o → h₁.get? b = some o := fun b o e => hsb₁.extBut b o (below b (Heap.lt_size e)).1 (Heap.get?_push_of_some _ (hH3 ▸ Heap.get?_push_of_some _ e))
  have hacc : h₁.get? s2.heap.objs.size = some { cls := .type "list", data := .seq ([] : List Value).toArray 0 } := hsb₁.extBut _ _ hDC (Heap.get?_push_of_some _ (hH3 ▸ Heap.get?_push_size _ rfl))
  have st1 : tn 0 h₁ := T.keep _ _ _ st2 fun b _ o e => old b o e
  have stat : ∀ {H' : Hp} {ob : Obj}, (∀ b ∈ fp, H' b = none) → ∀ b ∈ fp, FpOk (cmpCx X (x :: ys) scope cl G.objs.size fp s2 H2) [(s2.heap.objs.size, ob)] H' b := fun {H' ob} hn b hb =>
    ⟨hn b hb, (below b (fo b hb)).1, fun z => by
      rcases List.mem_cons.mp (I2.stkSub b z) with e | e
      · exact (f2 b hb).2.1 e
      · exact (f2 b hb).2.2.1 e, .inl hb, fun y c e => (f2 b hb).2.2.2.2.1 y c (n.sub' y c e), fun p hp => by
      have hp' : p ∈ [(s2.heap.objs.size, ob)] := hp
      have e := List.mem_singleton.mp hp'
      subst e
      exact Ne.symm (below b (fo b hb)).2⟩
  have hfin : ∀ (s4 : Shared) (H3 : Hp) (zs : List V) (its : List Value) (k : Nat) (m' : Str → Option Value), Inv (cmpCx X (x :: ys) scope cl G.objs.size fp s2 H2) [(s2.heap.objs.size, { cls := .type "list", data := .seq its.toArray k })] (cst ix σ) H3 s4 → Vals zs its →
      zs.length ≤ sizeLine → Z zs H3 → RR (.ref s2.heap.objs.size) G.objs.size (.ok .next) s4 := by
    intro s4 H3 zs its k m' I4 rv hz q
    obtain ⟨m4, hn4, _⟩ := I4.loc
    obtain ⟨eD, nD, _, _, _⟩ := I4.pin (s2.heap.objs.size, { cls := .type "list", data := .seq its.toArray k }) (by show _ ∈ [] ++ [_]; simp)
    have nC : H3 G.objs.size = none := I4.free
    have hok : HOk X.prog X.w (upd H3 s2.heap.objs.size (.lst zs)) s4.heap := fun b u e => by
      by_cases hb : b = s2.heap.objs.size
      · subst hb
        rw [upd_same] at e
        cases e
        exact ⟨hz, its, k, rv, eD⟩
      · rw [upd_ne hb] at e
        exact (I4.hok b u e).stay (fun c w hc qq => qq) (fun c qq => by rw [upd_ne (ne_of_none qq nD)]; exact qq) fun c xs qq => by rw [upd_ne (ne_of_none qq nD)]; exact qq
    have un : Un (frs X.stack) fp H2 (upd H3 s2.heap.objs.size (.lst zs)) s2.heap s4.heap := by
      have u4 : Un (frs X.stack) fp H2 H3 s2.heap s4.heap := I4.base
      refine ⟨u4.keep, u4.slot, fun b o e nn hx => ?_, u4.there, fun b xs e => ?_, fun b o u e => ?_, fun b ps e => ?_⟩
      · rw [upd_ne (below b (Heap.lt_size e)).2]
        exact u4.free b o e nn hx
      · have z := u4.tups b xs e
        rw [upd_ne (ne_of_none z nD)]
        exact z
      · have z := u4.frzs b o u e
        rw [upd_ne (ne_of_none z nD)]
        exact z
      · obtain ⟨more, z⟩ := u4.tbls b ps e
        exact ⟨more, by rw [upd_ne (ne_of_none z nD)]; exact z⟩
    have I5 : Inv X pins σ (upd H3 s2.heap.objs.size (.lst zs)) s4 := I2.call' (ch := fp) I4.os un hok I4.bare (fun b hb => ⟨(f2 b hb).2.2.2.1, (f2 b hb).2.1, (f2 b hb).2.2.2.2.1, (f2 b hb).2.2.2.2.2⟩)
    exact hRR _ _ s4 H3 zs m4 I5 hn4 (I2.fpOk hCle (by rw [upd_ne (Ne.symm hDC)]; exact nC)) nD q
  have loop : ∀ s₃ : Shared, s₃ = { s2 with heap := h₁, toks := s2.toks + ([] : List (Str × Value)).length } →
      codeAny (model X.prog X.w) X.A (.compLoop (.ListComp elt [⟨.Name x px, iter, ifs, 0⟩] scope pos) 0 (.ref it) (.ref s2.heap.objs.size) (compEnvC scope cl G.objs.size X.env))
        (RR (.ref s2.heap.objs.size) G.objs.size) s₃ := by
    rintro s₃ rfl
    refine codeAny_compLoop_tests (fun m s' => ∃ (i : Nat) (zs : List V) (its : List Value) (k : Nat) (H' : Hp),
        Inv (cmpCx X (x :: ys) scope cl G.objs.size fp s2 H2) [(s2.heap.objs.size, { cls := .type "list", data := .seq its.toArray k })] (cst ix σ) H' s' ∧ Vals zs its ∧ tn i s'.heap ∧ (∀ b ∈ fp, H' b = none) ∧ W i m zs H') ?_ m0
      ⟨0, [], [], 0, H2, cmp_start n I2 f2 fo (Nat.le_refl _) hCle hDC old hns₁ hacc (fun v z => by cases z), .nil, st1, fun b hb => (f2 b hb).1, w0⟩
    rintro m s3 ⟨i, zs, its, k, H3, I3, rv, st3, fr3, w3⟩
    rcases turn i m zs H3 w3 with ⟨stop, hz, qn⟩ | ⟨go, hz, step⟩
    · refine nof (thn (T.done (cmpCx X (x :: ys) scope cl G.objs.size fp s2 H2) rfl rfl rfl hc i _ s3 _ H3 _ I3 (stat fr3) st3 stop) fun r s4 ⟨hr, I4⟩ => ?_)
      subst hr
      exact hfin s4 H3 zs its k (fun _ => none) I4 rv hz qn
    · refine nof (thn (T.item (cmpCx X (x :: ys) scope cl G.objs.size fp s2 H2) rfl rfl rfl hc i _ s3 _ H3 _ I3 (stat fr3) st3 go) fun r s4 ⟨u, hr, h4⟩ => ?_)
      subst hr
      have go_on : ∀ {s5 s7 : Shared} {y : V} {H5 H7 : Hp}, (∀ b ∈ fp, H5 b = none) → tn (i + 1) s5.heap → Inv (cmpCx X (x :: ys) scope cl G.objs.size fp s2 H2) ([(s2.heap.objs.size, { cls := .type "list", data := .seq its.toArray k })] ++ pinsAt fp s5.heap) ((cst ix σ).set 0 (some y)) H7 s7 →
          Inv (cmpCx X (x :: ys) scope cl G.objs.size fp s2 H2) [(s2.heap.objs.size, { cls := .type "list", data := .seq its.toArray k })] (cst ix σ) H7 s7 ∧ tn (i + 1) s7.heap ∧ (∀ b ∈ fp, H7 b = none) := by
        intro s5 s7 y H5 H7 fr5 st5 I7
        have pn : ∀ b o, b ∈ fp → s5.heap.get? b = some o → s7.heap.get? b = some o ∧ H7 b = none := fun b o hb e => by
          have z := I7.pin (b, o) (List.mem_append_right _ (List.mem_append_right _ (mem_pinsAt hb e)))
          exact ⟨z.1, z.2.1⟩
        refine ⟨(I7.weak (σ' := cst ix σ) (by simp) fun j v e => ?_).unpinned, T.keep _ _ _ st5 fun b hb o e => (pn b o hb e).1, fun b hb => ?_⟩
        · cases j with
          | zero =>
            have e' : (none : Option V) = some v := Option.some.inj e
            cases e'
          | succ j => simpa [cst] using e
        · obtain ⟨o, e, _⟩ := T.obj _ _ st5 b hb
          exact (pn b o hb e).2
      have e0 : (letOwnedTupleGo (.Name x px) (.ref it) u >>= fun _ => assign (.Name x px) (compEnvC scope cl G.objs.size X.env) u) = assign (.Name x px) (compEnvC scope cl G.objs.size X.env) u := rfl
      show wpAny _ _ (assign (.Name x px) (compEnvC scope cl G.objs.size X.env) u) _ _ s4
      rw [← e0]
      refine nof (wpAny_bind (thn h4 fun _ s5 ⟨y, H5, I5, r5, y5, st5, fr5⟩ => ?_))
      have I5' := I5.pinned (stat fr5) (T.obj _ _ st5)
      have lx : (relabel scope X.env).names.lookup x = some .local := lookup_relabel_local n.hx
      have pg : PG (cmpCx X (x :: ys) scope cl G.objs.size fp s2 H2) (.Name x px) (gName 0) := pg_name n.nd rfl (.inl lx) (.inr lx)
      refine thn (pg _ s5 _ H5 y u (fun σ' H' => σ' = (cst ix σ).set 0 (some y) ∧ H' = H5) I5' r5 ⟨rfl, rfl⟩) fun _ s6 ⟨σ6, H6, I6, e6, e6'⟩ => ?_
      subst e6 e6'
      refine nof (thn (ht _ _ _ _ _ s6 _ _ _ I6 (step y _ y5)) fun b s7 ⟨H7, I7, q7⟩ => ?_)
      cases b with
      | false =>
        rw [if_neg (by decide)] at q7 ⊢
        obtain ⟨m', hm, w7⟩ := q7
        obtain ⟨I8, st8, fr8⟩ := go_on fr5 st5 I7
        exact ⟨m', hm, i + 1, zs, its, k, H7, I8, rv, st8, fr8, w7⟩
      | true =>
        rw [if_pos rfl] at q7 ⊢
        refine nof (thn (he _ _ _ _ _ s7 _ _ _ I7 q7) fun v8 s8 ⟨z8, H8, I8, r8, m', hm, w8⟩ => ?_)
        obtain ⟨I9, st9, fr9⟩ := go_on fr5 st5 I8
        obtain ⟨eD, nD, neL, _, _⟩ := I9.pin (s2.heap.objs.size, { cls := .type "list", data := .seq its.toArray k }) (by show _ ∈ [] ++ [_]; simp)
        refine append_at eD (fun h' hs' hD' => ?_) (by rw [List.size_toArray, ← rv.length]; exact hz)
        have kp : ∀ b o, b ≠ s2.heap.objs.size → s8.heap.get? b = some o → h'.get? b = some o := fun b o hb e => hs'.extBut b o hb e
        have lt_cell : ∀ y c, cl.lookup y = some c → c ≠ s2.heap.objs.size := fun y c e => by
          obtain ⟨v, q⟩ := I2.cell y c (n.sub' y c e)
          exact Nat.ne_of_lt q.lt
        have nst : s2.heap.objs.size ∉ frs X.stack := fun z => by
          rcases List.mem_cons.mp (I2.stkSub _ z) with e | e
          · exact absurd (Nat.lt_of_lt_of_le I2.lt (by rw [← e]; exact Nat.le_refl _)) (Nat.lt_irrefl _)
          · exact I2.nofs (Nat.le_refl _) e
        have I10 : Inv (cmpCx X (x :: ys) scope cl G.objs.size fp s2 H2) [] (cst ix σ) H8 { s8 with heap := h', toks := s8.toks } :=
          (I9.pins_of (pins' := []) fun p hp => absurd hp (by simp)).turned (it := s2.heap.objs.size) kp nD neL (.inr (Nat.le_refl _)) lt_cell fun p hp => absurd (show p ∈ ([] : List (Addr × Obj)) from hp) (by simp)
        refine ⟨m', hm, i + 1, zs ++ [z8], its ++ [v8], k + 1, H8, I10.pins_of fun p hp => ?_, rv.append (.cons r8 .nil), T.keep _ _ _ st9 fun b hb o e => kp b o (below b (fo b hb)).2 e, fr9, w8⟩
        have e := List.mem_singleton.mp hp
        subst e
        refine ⟨?_, nD, hDC, nst, fun v z => by cases z⟩
        rw [← List.push_toArray]
        exact hD'
  exact codeAny_compStart_list (loop _ rfl) (T.self X.A 0 _ _ _ st1 (loop _ rfl))
theorem pe_comp {elt iter : Expr} {ifs : List Expr} {px pos : Pos} {wi : TI} {tt : TT} {te : TE} (n : CompNames X scope cl x ys ix) (hc : X.calm = true) (hi : PI X (.Name x px) iter wi)
    (ht : ∀ C fp s H, PTs (cmpCx X (x :: ys) scope cl C fp s H) ifs tt) (he : ∀ C fp s H, PE (cmpCx X (x :: ys) scope cl C fp s H) elt te)
    (hs : ∀ x, foldedSetIterable iter X.env x = pure x := by intro _; rfl) : PE X (.ListComp elt [⟨.Name x px, iter, ifs, 0⟩] scope pos) (tComp wi ix tt te) := by
  intro pins s σ H Q I h
  rw [eval_ListComp]
  refine wpAny_comprehension_free (use := none) rfl hs n.clos n.kind n.names' (thn (hi pins s σ H _ I h) fun v s1 h1 => thn h1 fun itv s2 h2 => ?_)
  obtain ⟨it, fp, tn, J, H2, e, I2, T, st2, f2, W, ⟨m0, w0⟩, turn⟩ := h2
  subst e
  refine comp_block (RR := fun acc C => compPost (model X.prog X.w) X.A X.xe none (EP X pins σ Q) acc C) (Z := fun zs H3 => ∀ p, H3 p = none → Q (.ref p) (upd H3 p (.lst zs))) n hc ht he I2 T st2 f2 w0 turn ?_
  intro D C s4 H3 zs m I4 hn4 fC nD q
  refine ⟨m, hn4, fun h' hs' => ?_⟩
  exact ⟨.ref D, _, I4.turned (t' := s4.toks) (fun b o hb e => hs'.extBut b o hb e) fC.1 fC.2.1 fC.2.2.2.1 fC.2.2.2.2.1 fC.2.2.2.2.2, rfl, q D nD⟩
end
end L2

namespace L2
open PySem PySem.Spec PyProof.Rows

/-! ### texts by their codes -/
abbrev tx (l : List Nat) : Str := ⟨l.toArray⟩
theorem tx_len (l : List Nat) : (tx l).length = l.length := by simp [tx, Str.length]
theorem tx_inj {l m : List Nat} (h : tx l = tx m) : l = m := by
  have h1 := congrArg (fun z : Str => z.cps.toList) h
  simpa using h1
theorem tx_add (l m : List Nat) : tx l ++ tx m = tx (l ++ m) := by
  show Str.append (tx l) (tx m) = tx (l ++ m)
  unfold Str.append
  simp [tx]
theorem v_tx {l m : List Nat} : (V.str (tx l) = V.str (tx m)) ↔ l = m := ⟨fun h => tx_inj (V.str.inj h), fun h => by rw [h]⟩
theorem dec_tx {l m : List Nat} : decide (V.str (tx l) = V.str (tx m)) = decide (l = m) := by
  by_cases h : l = m
  · rw [decide_eq_true h, decide_eq_true (v_tx.mpr h)]
  · rw [decide_eq_false h, decide_eq_false fun z => h (v_tx.mp z)]

def cutL {α : Type} (l : List α) (lo hi : Option Int) : List α := (l.drop (HT.sIx l.length 0 lo)).take (HT.sIx l.length l.length hi - HT.sIx l.length 0 lo)

theorem pick_run (l : List Nat) (i k : Nat) : ((List.range k).map fun (m : Nat) => i + m).filterMap (l[·]?) = (l.drop i).take k := by
  induction k generalizing i with
  | zero => simp
  | succ k ih =>
    rw [List.range_succ_eq_map, List.map_cons, List.map_map]
    have e : ((fun (m : Nat) => i + m) ∘ Nat.succ) = fun m => (i + 1) + m := by
      funext m
      simp only [Function.comp]
      omega
    rw [e]
    by_cases h : i < l.length
    · rw [List.filterMap_cons_some (b := l[i]) (by simp [h]), ih (i + 1), List.drop_eq_getElem_cons h, List.take_succ_cons]
    · rw [List.filterMap_cons_none (by simp; omega), ih (i + 1), List.drop_eq_nil_of_le (by omega), List.drop_eq_nil_of_le (by omega)]
      simp
theorem sliceRange_one (a b : Nat) : sliceRange (a : Int) (b : Int) 1 = (List.range (b - a)).map fun (m : Nat) => a + m := by
  unfold sliceRange
  have e : (if (1 : Int) > 0 then (if (a : Int) < b then ((b : Int) - a + 1 - 1) / 1 else 0) else (if (a : Int) > b then ((a : Int) - b - 1 - 1) / (-1) else 0)).toNat = b - a := by
    rw [if_pos (by decide)]
    split <;> (try simp only [Int.ediv_one]) <;> omega
  dsimp only
  rw [e]
  apply List.map_congr_left
  intro m _
  omega
theorem indices_one (lo hi : Option Int) (n : Nat) : Builtin.Str.strSliceIndices lo hi 1 n = (List.range (HT.sIx n n hi - HT.sIx n 0 lo)).map fun (m : Nat) => HT.sIx n 0 lo + m := by
  unfold Builtin.Str.strSliceIndices
  rw [← sliceRange_one]
  have e1 : ∀ d : Nat, ∀ v : Int, max 0 (min (if v < 0 then v + (n : Int) else v) (n : Int)) = ((HT.sIx n d (some v) : Nat) : Int) := fun d v => by
    rw [← HT.clip_eq v n d]
    split <;> omega
  cases lo with
  | none =>
    cases hi with
    | none => simp only [HT.sIx_none]; rfl
    | some v =>
      simp only [HT.sIx_none]
      show sliceRange 0 (max 0 (min (if v < 0 then v + (n : Int) else v) (n : Int))) 1 = _
      rw [e1 n v]; rfl
  | some u =>
    cases hi with
    | none =>
      simp only [HT.sIx_none]
      show sliceRange (max 0 (min (if u < 0 then u + (n : Int) else u) (n : Int))) (n : Int) 1 = _
      rw [e1 0 u]
    | some v =>
      show sliceRange (max 0 (min (if u < 0 then u + (n : Int) else u) (n : Int))) (max 0 (min (if v < 0 then v + (n : Int) else v) (n : Int))) 1 = _
      rw [e1 0 u, e1 n v]
theorem slice_tx (l : List Nat) (lo hi : Option Int) : Txt.slice (tx l) lo hi = tx (cutL l lo hi) := by
  have key : (Builtin.Str.strSliceIndices lo hi 1 l.length).filterMap (l[·]?) = cutL l lo hi := by
    rw [indices_one, pick_run]; rfl
  unfold Txt.slice
  rw [tx_len]
  split
  · rename_i h
    have h1 : (Builtin.Str.strSliceIndices lo hi 1 l.length).length = l.length := by simpa using h
    rw [indices_one, List.length_map, List.length_range] at h1
    have a := HT.sIx_le l.length l.length (Nat.le_refl _) hi
    have b := HT.sIx_le l.length 0 (Nat.zero_le _) lo
    have e : cutL l lo hi = l := by
      unfold cutL
      by_cases hn : l.length = 0
      · have : l = [] := List.length_eq_zero_iff.mp hn
        subst this
        simp
      · have e0 : HT.sIx l.length 0 lo = 0 := by omega
        rw [h1, e0]
        simp
    rw [e]
  · have e : (fun (i : Nat) => (tx l).cps[i]?) = fun (i : Nat) => l[i]? := by funext i; simp
    show (⟨((Builtin.Str.strSliceIndices lo hi 1 l.length).filterMap fun i => (tx l).cps[i]?).toArray⟩ : Str) = _
    rw [e, key]
theorem rev_tx (l : List Nat) : ((Builtin.Str.strSliceIndices none none (-1) l.length).filterMap fun (i : Nat) => (tx l).cps[i]?) = l.reverse := by
  have e : (fun (i : Nat) => (tx l).cps[i]?) = fun (i : Nat) => l[i]? := by funext i; simp
  rw [e]
  have e2 : Builtin.Str.strSliceIndices none none (-1) l.length = (List.range l.length).map fun (k : Nat) => l.length - 1 - k := by
    show sliceRange ((l.length : Int) - 1) (-1) (-1) = _
    unfold sliceRange
    have e3 : (if (-1 : Int) > 0 then (if (l.length : Int) - 1 < -1 then (-1 - ((l.length : Int) - 1) + (-1) - 1) / (-1) else 0) else (if (l.length : Int) - 1 > -1 then ((l.length : Int) - 1 - (-1) - (-1) - 1) / (- -1) else 0)).toNat = l.length := by
      rw [if_neg (by decide)]
      have : (- -1 : Int) = 1 := by decide
      rw [this]
      split <;> (try simp only [Int.ediv_one]) <;> omega
    dsimp only
    rw [e3]
    apply List.map_congr_left
    intro m hm
    have := List.mem_range.mp hm
    omega
  rw [e2]
  apply List.ext_getElem?
  intro i
  have : ((List.range l.length).map fun (k : Nat) => l.length - 1 - k).filterMap (fun (i : Nat) => l[i]?) = (List.range l.length).map fun (k : Nat) => (l[l.length - 1 - k]?).getD 0 := by
    have gen : ∀ ks : List Nat, (∀ k ∈ ks, k < l.length) → (ks.map fun (k : Nat) => l.length - 1 - k).filterMap (fun (i : Nat) => l[i]?) = ks.map fun (k : Nat) => (l[l.length - 1 - k]?).getD 0 := by
      intro ks
      induction ks with
      | nil => intro _; rfl
      | cons k ks ih =>
        intro hk
        have hk' := hk k List.mem_cons_self
        have hlt : l.length - 1 - k < l.length := by omega
        rw [List.map_cons, List.map_cons, List.filterMap_cons_some (b := l[l.length - 1 - k]) (by simp [hlt]), ih fun j hj => hk j (List.mem_cons_of_mem _ hj)]
        simp [hlt]
    exact gen _ fun k hk => List.mem_range.mp hk
  rw [this]
  by_cases h : i < l.length
  · rw [List.getElem?_map, List.getElem?_range h, List.getElem?_reverse h]
    have : l.length - 1 - i < l.length := by omega
    simp [this]
  · rw [List.getElem?_eq_none (by simpa using h), List.getElem?_eq_none (by simpa using h)]

section
variable {X : Cx} {tg : Expr}
def Its (l : List Nat) : It := ⟨fun i _ => i < l.length, fun i H v H' => H' = H ∧ ∃ c, l[i]? = some c ∧ v = .str (tx [c]), fun i _ => l.length ≤ i⟩
theorem turn_str {P : Program} {w : World} {K : PySem.W.Frag} {ty : String} (hty : ty = "str_ascii_iterator" ∨ ty = "str_iterator") (it : Addr) (l : List Nat) (t : Tok) : Turn P w K tg (Its l) [it] it (fun i h => h.IsStrIter it ty (tx l) t i) where
  mem := by simp
  obj := fun i h st b hb => by
    have e : b = it := by simpa using hb
    subst e
    obtain ⟨o, e, c, d⟩ := st
    exact ⟨o, e, fun v z => by rw [d] at z; cases z⟩
  keep := fun i h h' st k => let ⟨o, e, r⟩ := st; ⟨o, k it (by simp) o e, r⟩
  item := by
    intro X hP hw hK hc i pins s σ H E I hf st hg
    subst hP hw hK
    obtain ⟨f0, f1, f2, f3, f4, f5⟩ := hf it (by simp)
    have W : Walks X.prog X.w X.A it [it] [it] (tx l).cps.size (SignAt (tx l)) (fun i h => h.IsStrIter it ty (tx l) t i) := by
      rcases hty with rfl | rfl
      · exact Walks.strAscii (I.ok.hd hc) it (tx l) t
      · exact Walks.strWide (I.ok.hd hc) it (tx l) t
    refine W.item i s _ _ (by simpa using (show i < l.length from hg)) st fun v h' tk hv st' kk => ?_
    obtain ⟨c, t', hc', rfl⟩ := hv
    have I1 : Inv X pins σ H { s with heap := h', toks := tk } := I.turned (fun b o hb e => kk b o (by simpa using hb) e) f0 f1 f3 f4 f5
    obtain ⟨o, e, c0, d⟩ := id st'
    exact ⟨_, rfl, go_of (s := { s with heap := h', toks := tk }) e c0 d (by rcases hty with rfl | rfl <;> decide) ⟨.str (tx [c]), H, I1, ⟨t', rfl⟩, ⟨rfl, c, by simpa using hc', rfl⟩, st', fun b hb => (hf b hb).1⟩⟩
  done := by
    intro X hP hw hK hc i pins s σ H E I hf st hg
    subst hP hw hK
    obtain ⟨f0, f1, f2, f3, f4, f5⟩ := hf it (by simp)
    have hg' : (tx l).cps[i]? = none := by have : l.length ≤ i := hg; simpa using this
    rcases hty with rfl | rfl
    · exact wpAny_pyNext_ascii_end (I.ok.hd hc) st hg' fun h' eb => ⟨rfl, I.turned (t' := s.toks) (fun b o hb e => eb b o hb e) f0 f1 f3 f4 f5⟩
    · exact wpAny_pyNext_wide_end (I.ok.hd hc) st hg' fun h' eb => ⟨rfl, I.turned (t' := s.toks) (fun b o hb e => eb b o hb e) f0 f1 f3 f4 f5⟩
  self := fun A i s Q E st h => by
    rcases hty with rfl | rfl
    · exact wpAny_pyIter_striter_ascii st h
    · exact wpAny_pyIter_striter_wide st h
def iStr (tl : TE) : TI := fun σ H R => tl σ H fun x H1 => ∃ l, x = .str (tx l) ∧ R (Its l) H1
theorem pi_str {e : Expr} {tl : TE} (hl : PE X e tl) : PI X tg e (iStr tl) := by
  intro pins s σ H R I h
  refine thn (hl pins s σ H _ I h) fun v s1 ⟨x, H1, I1, r1, q1⟩ => ?_
  obtain ⟨l, e, q⟩ := q1
  subst e
  obtain ⟨t, rfl⟩ := r1
  have fin : ∀ (ty : String), (ty = "str_ascii_iterator" ∨ ty = "str_iterator") → PIE X pins σ tg R (.ref s1.heap.objs.size) { s1 with heap := s1.heap.push { cls := .type ty, data := .fields #[.str (tx l) t, .int 0 0] } } := fun ty hty => by
    refine ⟨s1.heap.objs.size, [s1.heap.objs.size], _, _, H1, rfl, I1.kept (t' := s1.toks) fun b o e => Heap.get?_push_of_some _ e, turn_str hty _ l t, ⟨_, Heap.get?_push_size _ rfl, rfl, rfl⟩, fun b hb => ?_, q⟩
    have e : b = s1.heap.objs.size := by simpa using hb
    subst e
    exact I1.fpOk (Nat.le_refl _) (I1.hok.fresh (Nat.le_refl _))
  cases ha : (tx l).cps.all (· < 128)
  · exact wpAny_pyIter_wide ha (fin _ (.inr rfl))
  · exact wpAny_pyIter_ascii ha (fin _ (.inl rfl))
/-! ### comprehensions, the forms one uses: W by the turn and what is gathered -/
theorem comp_str {l : List Nat} {σ : St} {ix : List Nat} {tt : TT} {te : TE} {H : Hp} {Z : List V → Hp → Prop} (hl : l.length ≤ sizeLine) (Pv : Nat → List V → Hp → Prop) (h0 : Pv 0 [] H)
    (hs : ∀ i c ys H (N : List V → Hp → Prop), l[i]? = some c → ys.length ≤ i → Pv i ys H → (∀ ys' H', ys'.length ≤ i + 1 → Pv (i + 1) ys' H' → N ys' H') →
      tt ((cst ix σ).set 0 (some (.str (tx [c])))) H fun b H4 => if b = true then te ((cst ix σ).set 0 (some (.str (tx [c])))) H4 fun v H5 => N (ys ++ [v]) H5 else N ys H4)
    (hd : ∀ ys H, ys.length ≤ l.length → Pv l.length ys H → Z ys H) :
    ∃ W : Nat → Nat → List V → Hp → Prop, (∃ m, W 0 m [] H) ∧ ∀ i m ys H2, W i m ys H2 →
      ((Its l).stop i H2 ∧ ys.length ≤ sizeLine ∧ Z ys H2) ∨
      ((Its l).go i H2 ∧ ys.length ≤ sizeLine ∧ ∀ x H3, (Its l).yld i H2 x H3 → tt ((cst ix σ).set 0 (some x)) H3 fun b H4 =>
        if b = true then te ((cst ix σ).set 0 (some x)) H4 fun v H5 => ∃ m', m' < m ∧ W (i + 1) m' (ys ++ [v]) H5 else ∃ m', m' < m ∧ W (i + 1) m' ys H4) := by
  refine ⟨fun i m ys H => m = l.length - i ∧ i ≤ l.length ∧ ys.length ≤ i ∧ Pv i ys H, ⟨l.length, by simp, Nat.zero_le _, Nat.le_refl _, h0⟩, ?_⟩
  rintro i m ys H ⟨rfl, hi, hy, p⟩
  by_cases hlt : i < l.length
  · refine .inr ⟨hlt, by omega, fun x H' y => ?_⟩
    obtain ⟨e, c, hc, e2⟩ := y
    subst e e2
    exact hs i c ys _ (fun ys' H5 => ∃ m', m' < l.length - i ∧ m' = l.length - (i + 1) ∧ i + 1 ≤ l.length ∧ ys'.length ≤ i + 1 ∧ Pv (i + 1) ys' H5) hc hy p fun ys' H' h1 h2 => ⟨l.length - (i + 1), by omega, rfl, hlt, h1, h2⟩
  · have e : i = l.length := by omega
    subst e
    exact .inl ⟨Nat.le_refl _, by omega, hd ys H hy p⟩
theorem comp_range {lo : Int} {n : Nat} {σ : St} {ix : List Nat} {tt : TT} {te : TE} {H : Hp} {Z : List V → Hp → Prop} (hl : n ≤ sizeLine) (Pv : Nat → List V → Hp → Prop) (h0 : Pv 0 [] H)
    (hs : ∀ i ys H (N : List V → Hp → Prop), i < n → ys.length ≤ i → Pv i ys H → (∀ ys' H', ys'.length ≤ i + 1 → Pv (i + 1) ys' H' → N ys' H') →
      tt ((cst ix σ).set 0 (some (.int (lo + i)))) H fun b H4 => if b = true then te ((cst ix σ).set 0 (some (.int (lo + i)))) H4 fun v H5 => N (ys ++ [v]) H5 else N ys H4)
    (hd : ∀ ys H, ys.length ≤ n → Pv n ys H → Z ys H) :
    ∃ W : Nat → Nat → List V → Hp → Prop, (∃ m, W 0 m [] H) ∧ ∀ i m ys H2, W i m ys H2 →
      ((Itr lo n).stop i H2 ∧ ys.length ≤ sizeLine ∧ Z ys H2) ∨
      ((Itr lo n).go i H2 ∧ ys.length ≤ sizeLine ∧ ∀ x H3, (Itr lo n).yld i H2 x H3 → tt ((cst ix σ).set 0 (some x)) H3 fun b H4 =>
        if b = true then te ((cst ix σ).set 0 (some x)) H4 fun v H5 => ∃ m', m' < m ∧ W (i + 1) m' (ys ++ [v]) H5 else ∃ m', m' < m ∧ W (i + 1) m' ys H4) := by
  refine ⟨fun i m ys H => m = n - i ∧ i ≤ n ∧ ys.length ≤ i ∧ Pv i ys H, ⟨n, by simp, Nat.zero_le _, Nat.le_refl _, h0⟩, ?_⟩
  rintro i m ys H ⟨rfl, hi, hy, p⟩
  by_cases hlt : i < n
  · refine .inr ⟨hlt, by omega, fun x H' y => ?_⟩
    obtain ⟨e, e2⟩ := y
    subst e e2
    exact hs i ys _ (fun ys' H5 => ∃ m', m' < n - i ∧ m' = n - (i + 1) ∧ i + 1 ≤ n ∧ ys'.length ≤ i + 1 ∧ Pv (i + 1) ys' H5) hlt hy p fun ys' H' h1 h2 => ⟨n - (i + 1), by omega, rfl, hlt, h1, h2⟩
  · have e : i = n := by omega
    subst e
    exact .inl ⟨Nat.le_refl _, by omega, hd ys H hy p⟩

/-! ### operations on texts -/
theorem op_addS : OpR X (binaryOp .Add) (fun x y H Q => ∃ l m, x = .str (tx l) ∧ y = .str (tx m) ∧ l.length + m.length ≤ sizeLine ∧ Q (.str (tx (l ++ m))) H) := by
  intro pins s σ H x y v u Q I rx ry h
  obtain ⟨l, m, rfl, rfl, hz, q⟩ := h
  refine op_add_str pins s σ H _ _ v u Q I rx ry ⟨tx l, tx m, rfl, rfl, by rw [tx_len, tx_len]; exact hz, ?_⟩
  rw [tx_add]; exact q
theorem op_inS : OpR X (compareOp .In) (fun x y H Q => ∃ c l, x = .str (tx [c]) ∧ y = .str (tx l) ∧ Q (.bl (decide (c ∈ l))) H) := by
  intro pins s σ H x y v u Q I rx ry h
  obtain ⟨c, l, rfl, rfl, q⟩ := h
  refine op_in_str pins s σ H _ _ v u Q I rx ry ⟨tx [c], tx l, rfl, rfl, ?_⟩
  rw [StrLaws.found_one]
  simpa using q
def rIxS' : R2 := fun x y H Q => ∃ l i c, x = .str (tx l) ∧ y = .int i ∧ l.length ≤ sizeLine ∧ atI l i = some c ∧ Q (.str (tx [c])) H
theorem ix_strS : IxR X rIxS' := by
  intro value slice pins s σ H x y v u Q I rx ry h hs
  obtain ⟨l, i, c, rfl, rfl, hz, ha, q⟩ := h
  exact ix_str value slice pins s σ H _ _ v u Q I rx ry ⟨tx l, i, c, rfl, rfl, by rw [tx_len]; exact hz, by simpa using ha, q⟩ hs
def rSlS : V → Option Int → Option Int → Hp → VK → Prop := fun x lo hi H Q => ∃ l, x = .str (tx l) ∧ l.length ≤ sizeLine ∧ Q (.str (tx (cutL l lo hi))) H
theorem sl_strS : SlR X rSlS := by
  intro pins s σ H x v vl vu lo hi sl Q I rx hs pl pu h
  obtain ⟨l, rfl, hz, q⟩ := h
  obtain ⟨t, rfl⟩ := rx
  refine ⟨"str", _, F.slot_str_getitem.lookup, typeIs_str _ _ _, ?_⟩
  have fin : ∀ t' k, EP X pins σ Q (.str (Txt.slice (tx l) lo hi) t') { s with toks := k } := fun t' k => by
    rw [slice_tx]
    exact ⟨.str (tx (cutL l lo hi)), H, I.tok k, ⟨t', rfl⟩, q⟩
  have sz : (Txt.slice (tx l) lo hi).length ≤ sizeLine := Nat.le_trans (Txt.slice_le _ _ _) (by rw [tx_len]; exact hz)
  obtain ⟨o, e1, e2, e3⟩ := hs
  cases pl with
  | none =>
    cases pu with
    | none => exact wpAny_getItem_str_slice (l := none) (u := none) (st := none) ⟨o, e1, e2, e3⟩ rfl (post_val_or_str ⟨sz, fin⟩)
    | int j uj => exact wpAny_getItem_str_slice (l := none) (u := some (j, uj)) (st := none) ⟨o, e1, e2, e3⟩ rfl (post_val_or_str ⟨sz, fin⟩)
  | int i ui =>
    cases pu with
    | none => exact wpAny_getItem_str_slice (l := some (i, ui)) (u := none) (st := none) ⟨o, e1, e2, e3⟩ rfl (post_val_or_str ⟨sz, fin⟩)
    | int j uj => exact wpAny_getItem_str_slice (l := some (i, ui)) (u := some (j, uj)) (st := none) ⟨o, e1, e2, e3⟩ rfl (post_val_or_str ⟨sz, fin⟩)
/-- e[::-1] -/
def tRev (te ts : TE) : TE := fun σ H Q => te σ H fun x H1 => ts σ H1 fun y H2 => ∃ l, x = .str (tx l) ∧ y = .int (-1) ∧ l.length ≤ sizeLine ∧ Q (.str (tx l.reverse)) H2
theorem pe_rev {e st : Expr} {te ts : TE} {p2 pos : Pos} (he : PE X e te) (hst : PE X st ts) : PE X (.Subscript e (.Slice none none (some st) p2) pos) (tRev te ts) := by
  intro pins s σ H Q I h
  refine Subscript_ (thn (he pins s σ H _ I h) fun v s1 ⟨x, H1, I1, r1, q1⟩ => ?_)
  refine wpAny_Slice ?_
  rw [evalPart_none]
  refine wpAny_pure ?_
  refine wpAny_pure ?_
  rw [evalPart_some]
  refine thn (hst pins s1 σ H1 _ I1 q1) fun w s2 ⟨y, H2, I2, r2, q2⟩ => ?_
  obtain ⟨l, rfl, rfl, hz, q⟩ := q2
  obtain ⟨t, rfl⟩ := r1
  obtain ⟨u, rfl⟩ := r2
  have I3 : Inv X pins σ H2 { s2 with heap := s2.heap.push { cls := .type "slice", data := .fields #[.none, .none, .int (-1) u] } } := I2.kept (t' := s2.toks) fun b ob q => Heap.get?_push_of_some _ q
  show wpAny (model X.prog X.w) X.A (subscriptTail e (.Slice none none (some st) p2) (.str (tx l) t) (.ref s2.heap.objs.size)) (EP X pins σ Q) X.xe { s2 with heap := s2.heap.push { cls := .type "slice", data := .fields #[.none, .none, .int (-1) u] } }
  refine tail_any (ops := [.ref s2.heap.objs.size, .str (tx l) t]) (typeIs_str _ _ _) F.slot_str_getitem.lookup ?_ (by with_unfolding_all rfl)
  refine wpAny_getItem_str_slice (l := none) (u := none) (st := some (-1, u)) ⟨_, Heap.get?_push_size _ rfl, rfl, rfl⟩ (show ((-1 : Int) == 0) = false by decide) ?_
  have e1 : (slicePicked (tx l) none none (some (-1, u))).filterMap (fun (i : Nat) => (tx l).cps[i]?) = l.reverse := by
    unfold slicePicked
    rw [tx_len]
    exact rev_tx l
  unfold sliceMade
  rw [if_neg (by
    show ¬ ((((-1 : Int) == 1) && _) = true)
    rw [show ((-1 : Int) == 1) = false by decide]
    simp)]
  rw [e1]
  exact ⟨by show (tx l.reverse).length ≤ sizeLine; rw [tx_len, List.length_reverse]; exact hz, .str (tx l.reverse), H2, I3.tok _, ⟨_, rfl⟩, q⟩
end
end L2

namespace L2
open PySem PySem.Spec PyProof.Rows

def repL (l : List Nat) (k : Nat) : List Nat := (List.replicate k l).flatten
section
variable {X : Cx}
/-! ### ''.join(texts) -/
/-! ### isinstance(x, T), all(bools) -/
theorem call_isT : CallR X (.builtin "isinstance") (fun xs H Q => ∃ x T t b, xs = [x, .ty T] ∧ TyOf X.K H x t ∧ PySem.W.kitOne X.K t (.type T) = some b ∧ Q (.bl b) H) := by
  intro pins s σ H xs us Q I r h
  obtain ⟨x, T, t, b, rfl, ty, e, q⟩ := h
  obtain ⟨u, w', rfl, ru, rw'⟩ := vals2 r
  obtain rfl : w' = Value.type T := rw'
  exact isinst_ok I ru ty e fun tk => ⟨.bl b, H, I.tok tk, rfl, q⟩
theorem vals_bl : ∀ {bs : List Bool} {us : List Value}, Vals (bs.map V.bl) us → us = bs.map Value.bool
  | [], _, r => by
    rw [List.map_nil] at r
    cases r
    rfl
  | b :: bs, _, r => by
    rw [List.map_cons] at r
    cases r with
    | cons r1 r2 =>
      have e : _ = Value.bool b := r1
      rw [e, vals_bl r2, List.map_cons]
theorem call_allB (hc : X.calm = true) : CallR X (.builtin "all") (fun xs H Q => ∃ (p : Addr) (bs : List Bool), xs = [.ref p] ∧ SqL X.K H p (bs.map V.bl) ∧ Q (.bl (bs.all id)) H) := by
  intro pins s σ H xs us Q I r h
  obtain ⟨p, bs, rfl, hq, q⟩ := h
  obtain ⟨u, rfl, ru⟩ := vals1 r
  cases ru
  obtain ⟨its, rv, pl, _⟩ := I.list hq
  have e := vals_bl rv
  subst e
  have hlt : p < s.heap.objs.size := by obtain ⟨o, _, e, _⟩ := pl; exact Heap.lt_size e
  refine call_all_walk (wpAny_pyIter_list pl.isList ?_)
  refine ⟨s.heap.objs.size, [s.heap.objs.size, p], [s.heap.objs.size], _, _, _, fun i => bs.getD i true, rfl, Walks.list (show X.A.in1.handled = none from I.ok.hd hc) _ p (Nat.ne_of_lt hlt) (bs.map Value.bool).toArray, ⟨⟨_, Heap.get?_push_size _ rfl, rfl, rfl⟩, pl.isList.push _⟩, ?_, ?_⟩
  · intro i v s' Q' E' hP hQ'
    have hv : bs[i]?.map Value.bool = some v := by simpa using hP
    cases e : bs[i]? with
    | none => rw [e] at hv; cases hv
    | some b =>
      rw [e] at hv
      have hv' : Value.bool b = v := Option.some.inj hv
      subst hv'
      have e2 : bs.getD i true = b := by rw [List.getD_eq_getElem?_getD, e]; rfl
      have hQ2 : Q' (bs.getD i true) s' := hQ'
      rw [e2] at hQ2
      exact wpAny_truthy_bool hQ2
  · intro h' tk kk
    have e3 : (List.range (bs.map Value.bool).toArray.size).all (fun i => bs.getD i true) = bs.all id := by
      rw [List.size_toArray, List.length_map]
      clear hq q rv pl kk
      apply Bool.eq_iff_iff.mpr
      rw [List.all_eq_true, List.all_eq_true]
      constructor
      · intro h b hb
        obtain ⟨i, hi, e⟩ := List.getElem_of_mem hb
        have := h i (List.mem_range.mpr hi)
        rw [List.getD_eq_getElem?_getD, List.getElem?_eq_getElem hi] at this
        simpa [e] using this
      · intro h i hi
        have hi' := List.mem_range.mp hi
        rw [List.getD_eq_getElem?_getD, List.getElem?_eq_getElem hi']
        exact h _ (List.getElem_mem hi')
    rw [e3]
    refine ⟨.bl (bs.all id), H, I.kept (h' := h') (t' := tk) fun b o e => kk b o (fun z => ?_) (Heap.get?_push_of_some _ e), rfl, q⟩
    have z' := List.mem_singleton.mp z
    rw [z'] at e
    exact absurd (Heap.lt_size e) (Nat.lt_irrefl _)

/-! ### lists compared -/
def eqVs (xs ys : List V) : Bool := decide (xs.length = ys.length) && (List.range xs.length).all fun j => eqV (xs.getD j .non) (ys.getD j .non)
def rEqL (K : PySem.W.Frag) : R2 := fun x y H Q => ∃ p q xs ys, x = .ref p ∧ y = .ref q ∧ SqL K H p xs ∧ SqL K H q ys ∧ xs.all flatV = true ∧ ys.all flatV = true ∧ Q (.bl (eqVs xs ys)) H
theorem Vals.at {xs : List V} {us : List Value} (r : Vals xs us) {j : Nat} (h : j < us.toArray.size) : RelV (xs.getD j .non) us.toArray[j] ∧ xs[j]? = some (xs.getD j .non) := by
  have hj : j < xs.length := by rw [r.length]; simpa using h
  have e : xs[j]? = some xs[j] := List.getElem?_eq_getElem hj
  obtain ⟨u, hu, ru⟩ := r.get e
  have e2 : xs.getD j .non = xs[j] := by rw [List.getD_eq_getElem?_getD, e]; rfl
  have e3 : us.toArray[j] = u := by
    have : us[j]? = some us.toArray[j] := by simp at h ⊢
    rw [hu] at this
    exact (Option.some.inj this).symm
  rw [e2, e3]
  exact ⟨ru, e⟩
theorem eqVs_nil (xs : List V) : eqVs xs [] = xs.isEmpty := by
  cases xs with
  | nil => rfl
  | cons a r => simp [eqVs]

/-! ### a chain of three -/
def tChain3 (r r' r'' : R2) (ta tb tc td : TE) : TE := fun σ H Q => ta σ H fun x H1 => tb σ H1 fun y H2 => r x y H2 fun z H3 => ∃ k, z = .bl k ∧
  (if k = true then tc σ H3 fun w' H4 => r' y w' H4 fun z2 H5 => ∃ k2, z2 = .bl k2 ∧ (if k2 = true then td σ H5 fun w2 H6 => r'' w' w2 H6 Q else Q (.bl false) H5) else Q (.bl false) H3)
end
end L2

namespace L2
open PySem PySem.Spec PyProof.Rows

/-- a def of the text, by its promise -/
structure Df (P : Program) (w : World) (K : PySem.W.Frag) (mg : Str → Option Value) (base : Heap) (k : Nat) (x : Str) (ps : List Str) (sp : Sp) : Prop where
  ex : ∃ (f : Addr) (fd : FuncData), FnOk P w K mg base CX0 k f fd ps sp ∧ mg x = some (.ref f) ∧ PySem.W.keepIn K (.ref f) = true ∧ Binds K fd ps []
/-- what the top has of it -/
structure At (K : PySem.W.Frag) (mg : Str → Option Value) (x : Str) (st : Stmt) (ps : List Str) : Prop where
  ex : ∃ (f : Addr) (fd : FuncData), Fun K x x st f fd ∧ mg x = some (.ref f) ∧ ∀ us : List Value, us.length = ps.length → bindArgs fd ⟨us, []⟩ = pure (ps.zip us)
section
variable {P : Program} {w : World} {K : PySem.W.Frag} {mg : Str → Option Value} {base : Heap}
theorem At.df {k : Nat} {x : Str} {st : Stmt} {ps : List Str} {sp : Sp} (a : At K mg x st ps) (h : ∀ f fd, Fun K x x st f fd → FnOk P w K mg base CX0 k f fd ps sp) : Df P w K mg base k x ps sp :=
  let ⟨f, fd, F, m, b⟩ := a.ex
  ⟨f, fd, h f fd F, m, F.kp, .all b⟩
theorem At.mk' {x : Str} {st : Stmt} {ps : List Str} {h : Heap} {f : Addr} {oc : Value} {od an : Option Addr} {osl : Array (Option Value)} {kV doc pm cdv ct : Value} (X : K.In h) (G : h.Ns mainGlobals mg)
    (a : PySem.W.nsIn K mainGlobals x = some (some (.ref f)))
    (l : K.lookup f = some ⟨oc, od, .func (PySem.W.fnOf x x (defArgs st) (defBody st) (defScope st) .none kV doc pm an cdv ct), osl⟩)
    (c : PySem.W.codeIn K cdv x = true) (k : PySem.W.keepIn K (.ref f) = true)
    (b : ∀ (kV doc pm : Value) (an : Option Addr) (cdv ct : Value) (us : List Value), us.length = ps.length → bindArgs (PySem.W.fnOf x x (defArgs st) (defBody st) (defScope st) .none kV doc pm an cdv ct) ⟨us, []⟩ = pure (ps.zip us)) : At K mg x st ps :=
  ⟨f, _, fun_mk l c k, PySem.W.mg_of X G a, b kV doc pm an cdv ct⟩
end
section
variable {X : Cx} {k : Nat} {x : Str} {ps : List Str} {sp : Sp} {e : Expr} {es : List Expr} {p pos : Pos} {t : TA}
theorem pe_df {j : Nat} (d : Df X.prog X.w X.K X.mg X.base j x ps sp) (hr : Room k X.A) (hg : Gl X x) (ha : PA X (e :: es) t) (hjk : j ≤ k := by decide) (hdb : (x == ("__debug__" : Str)) = false := by decide) (he : starEach (e :: es) X.env = (false, eval e X.env) :: starEach es X.env := by rfl)
    (hpl : (backTo pos (starEach es X.env)).any (·.1) = false := by rfl) : PE X (.Call (.Name x p) (e :: es) [] pos) (tCall sp [] E0 t) := by
  obtain ⟨f, fd, F, hm, hk, hb⟩ := d.ex
  exact pe_call (F.mono hjk) hr hg hm hk hb .nil pass0 ha hdb he hpl
end
/-! argument lists, part by part: the step over the star is looked at once -/
section
variable {X : Cx} {es : List Expr} {t : TA} {te : TE} {pos : Pos}
theorem pa_op {a b op} (e : PE X (.BinOp a op b pos) te) (h : PA X es t) : PA X (.BinOp a op b pos :: es) (tCons te t) := pa_cons e h rfl
theorem pa_name {x} (e : PE X (.Name x pos) te) (h : PA X es t) : PA X (.Name x pos :: es) (tCons te t) := pa_cons e h rfl
end
theorem Same.upd {H : Hp} {p : Addr} {o : HO} (h : H p = none) : Same H (upd H p o) := fun b u e => by
  rw [upd_ne (ne_of_none e h)]
  exact e
end L2

namespace L2
open PySem PySem.Spec PyProof.Rows PySem.SeqAt PySem.MeetsSeq
open PySem.AutoSeq1 (wpAny_loadPart')
/-! ### a thing of whatever kind against a tuple of plain values -/
def rEqT : R2 := fun x y H Q => ∃ (q : Addr) (ys : List V), y = .ref q ∧ H q = some (.tup ys) ∧ ys.all flatV = true ∧
  ((∃ b, x = .bl b ∧ Q (.bl false) H) ∨ (x = .non ∧ Q (.bl false) H) ∨ (∃ i, x = .int i ∧ Q (.bl false) H) ∨ (∃ z, x = .str z ∧ Q (.bl false) H) ∨ (∃ p xs, x = .ref p ∧ H p = some (.lst xs) ∧ Q (.bl false) H) ∨ (∃ p kvs, x = .ref p ∧ H p = some (.dK kvs) ∧ Q (.bl false) H) ∨
    (∃ p xs, x = .ref p ∧ H p = some (.tup xs) ∧ xs.all flatV = true ∧ Q (.bl (eqVs xs ys)) H) ∨ (∃ p r zs j ys', x = .ref p ∧ H p = some (.tup [.ref r]) ∧ H r = some (.tup zs) ∧ ys = .int j :: ys' ∧ Q (.bl false) H))
section
variable {X : Cx}
end
end L2

namespace L2
open PySem PySem.Spec PyProof.Rows
/-! ### range(a, b, -1) -/
/-- hi, hi - 1, .. (n of them) -/
def Itd (hi : Int) (n : Nat) : It := ⟨fun i _ => i < n, fun i H x H' => H' = H ∧ x = .int (hi - i), fun i _ => n ≤ i⟩
section
variable {X : Cx} {tg : Expr}
def iRngD (ta : TA) : TI := fun σ H R => ta σ H fun vs H1 => ∃ i j : Int, vs = [.int i, .int j, .int (-1)] ∧ (-(2 ^ 62) ≤ i ∧ i < 2 ^ 62 ∧ -(2 ^ 62) ≤ j ∧ j < 2 ^ 62) ∧ R (Itd i (i - j).toNat) H1
/-- over a list that the block leaves as it is -/
theorem comp_list {K : PySem.W.Frag} {a : Addr} {xs : List V} {σ : St} {ix : List Nat} {tt : TT} {te : TE} {H : Hp} {Z : List V → Hp → Prop} (hl : xs.length ≤ sizeLine) (Pv : Nat → List V → Hp → Prop) (h0 : Pv 0 [] H) (hk : ∀ i ys H, Pv i ys H → SqL K H a xs)
    (hs : ∀ i x ys H (N : List V → Hp → Prop), xs[i]? = some x → ys.length ≤ i → Pv i ys H → (∀ ys' H', ys'.length ≤ i + 1 → Pv (i + 1) ys' H' → N ys' H') →
      tt ((cst ix σ).set 0 (some x)) H fun b H4 => if b = true then te ((cst ix σ).set 0 (some x)) H4 fun v H5 => N (ys ++ [v]) H5 else N ys H4)
    (hd : ∀ ys H, ys.length ≤ xs.length → Pv xs.length ys H → Z ys H) :
    ∃ W : Nat → Nat → List V → Hp → Prop, (∃ m, W 0 m [] H) ∧ ∀ i m ys H2, W i m ys H2 →
      ((Itl K a).stop i H2 ∧ ys.length ≤ sizeLine ∧ Z ys H2) ∨
      ((Itl K a).go i H2 ∧ ys.length ≤ sizeLine ∧ ∀ x H3, (Itl K a).yld i H2 x H3 → tt ((cst ix σ).set 0 (some x)) H3 fun b H4 =>
        if b = true then te ((cst ix σ).set 0 (some x)) H4 fun v H5 => ∃ m', m' < m ∧ W (i + 1) m' (ys ++ [v]) H5 else ∃ m', m' < m ∧ W (i + 1) m' ys H4) := by
  refine ⟨fun i m ys H => m = xs.length - i ∧ i ≤ xs.length ∧ ys.length ≤ i ∧ Pv i ys H, ⟨xs.length, by simp, Nat.zero_le _, Nat.le_refl _, h0⟩, ?_⟩
  rintro i m ys H ⟨rfl, hi, hy, p⟩
  have q := hk i ys H p
  by_cases hlt : i < xs.length
  · refine .inr ⟨⟨xs, xs[i], q, by simp [hlt]⟩, by omega, fun x H' y => ?_⟩
    obtain ⟨e, y⟩ := y
    subst e
    exact hs i x ys _ (fun ys' H5 => ∃ m', m' < xs.length - i ∧ m' = xs.length - (i + 1) ∧ i + 1 ≤ xs.length ∧ ys'.length ≤ i + 1 ∧ Pv (i + 1) ys' H5) (y xs q) hy p fun ys' H' h1 h2 => ⟨xs.length - (i + 1), by omega, rfl, hlt, h1, h2⟩
  · have e : i = xs.length := by omega
    subst e
    exact .inl ⟨⟨xs, q, Nat.le_refl _⟩, by omega, hd ys H hy p⟩

/-! ### != of two lists of plain values -/
def rNeL (K : PySem.W.Frag) : R2 := fun x y H Q => ∃ p q xs ys, x = .ref p ∧ y = .ref q ∧ SqL K H p xs ∧ SqL K H q ys ∧ xs.all flatV = true ∧ ys.all flatV = true ∧ Q (.bl (!eqVs xs ys)) H
theorem op_neL (hu : X.A.units < cLine) : OpR X (compareOp .NotEq) (rNeL X.K) := by
  intro pins s σ H x y v u Q I rx ry h
  obtain ⟨p, q, xs, ys, rfl, rfl, hp, hq, fx, fy, k⟩ := h
  cases rx
  cases ry
  obtain ⟨its, r1, p1, _⟩ := I.list hp
  obtain ⟨jts, r2, p2, _⟩ := I.list hq
  by_cases hl : xs.length = ys.length
  · refine SeqAt.RcNeAt.lists (e := fun j => eqV (xs.getD j .non) (ys.getD j .non)) p1.isList p2.isList (by simp; rw [← r1.length, ← r2.length]; exact hl) hu (fun j h1 h2 => ?_) _ _ _ _ ?_
    · obtain ⟨a1, b1⟩ := r1.at h1
      obtain ⟨a2, b2⟩ := r2.at h2
      exact eqAt_V a1 a2 (List.all_eq_true.mp fx _ (List.mem_of_getElem? b1)) (List.all_eq_true.mp fy _ (List.mem_of_getElem? b2))
    · refine ⟨.bl _, H, I, rfl, ?_⟩
      have e : its.toArray.size = xs.length := by rw [List.size_toArray, r1.length]
      rw [e]
      unfold eqVs at k
      rw [decide_eq_true hl, Bool.true_and] at k
      exact k
  · refine SeqAt.RcNeAt.lists_lengths p1.isList p2.isList ?_ hu _ _ _ _ ?_
    · rw [List.size_toArray, List.size_toArray, ← r1.length, ← r2.length]
      simpa using hl
    · refine ⟨.bl true, H, I, rfl, ?_⟩
      unfold eqVs at k
      rw [decide_eq_false hl, Bool.false_and] at k
      exact k
end
end L2

namespace L2
open PySem PySem.Spec PyProof.Rows
section
variable {X : Cx} {scope : Scope} {cl : List (Str × Addr)} {x : Str} {ys : List Str} {ix : List Nat}
theorem ps_setc {elt iter : Expr} {ifs : List Expr} {px pos py spos : Pos} {wi : TI} {tt : TT} {te : TE} {i : Nat} {y : Str} (n : CompNames X scope cl x ys ix) (hc : X.calm = true) (hi : PI X (.Name x px) iter wi)
    (ht : ∀ C fp s H, PTs (cmpCx X (x :: ys) scope cl C fp s H) ifs tt) (he : ∀ C fp s H, PE (cmpCx X (x :: ys) scope cl C fp s H) elt te) (hN : X.N.Nodup) (hy : X.N[i]? = some y) (hL : Loc X.env.scope y)
    (hsw : swapsWith (.ListComp elt [⟨.Name x px, iter, ifs, 0⟩] scope pos) (some (.Name y py)) spos.line X.env = pure true := by rfl) (hs : ∀ x, foldedSetIterable iter X.env x = pure x := by intro _; rfl)
    (hf : X.fn y = true ∨ X.env.scope.names.lookup y = some .local := by first | exact .inl rfl | exact .inr rfl | assumption) :
    PS X (.Assign [.Name y py] (.ListComp elt [⟨.Name x px, iter, ifs, 0⟩] scope pos) spos) (tAsg (tComp wi ix tt te) (gName i)) := by
  intro pins s σ H D I h
  rw [exec_Assign_Name_used _ _ _ _ hsw]
  refine wpAny_bind (wpAny_standAt (wpAny_bind ?_))
  show wpAny _ X.A (do let _ ← comprehension (.ListComp elt [⟨.Name x px, iter, ifs, 0⟩] scope pos) scope X.env _ (newList []) false (eval iter X.env) (some (assign (.Name y py) X.env))) _ _ s
  refine wpAny_bind (wpAny_mono (wpAny_comprehension_free (use := some (assign (.Name y py) X.env)) (Q := fun _ s' => SP X pins D .next s') rfl hs n.clos n.kind n.names'
    (thn (hi pins s σ H _ I h) fun v s1 h1 => thn h1 fun itv s2 h2 => ?_)) (fun _ s' hq => wpAny_pure (wpAny_pure hq)) fun _ _ e => e)
  obtain ⟨it, fp, tn, J, H2, e, I2, T, st2, f2, W, ⟨m0, w0⟩, turn⟩ := h2
  subst e
  refine comp_block (RR := fun acc C => compPost (model X.prog X.w) X.A X.xe (some (assign (.Name y py) X.env)) (fun _ s' => SP X pins D .next s') acc C) n hc ht he I2 T st2 f2 w0 turn ?_
  intro D' C s4 H3 zs m I4 hn4 fC nD q
  show wpAny _ X.A (assign (.Name y py) X.env (.ref D')) _ _ s4
  refine wpAny_assign_Name (store_ok2 (v := .ref D') I4 hN hy hL rfl (fun s5 I5 ⟨a, sb, ha⟩ => ?_) hf)
  have hCa : C ≠ a := by
    rcases ha with e | e
    · rw [e]; exact fC.2.1
    · exact Ne.symm (fC.2.2.2.2.1 _ _ e)
  refine ⟨m, hn4.sameBut sb hCa, fun h' hs' => ?_⟩
  exact ⟨_, _, I5.turned (t' := s5.toks) (fun b o hb e => hs'.extBut b o hb e) fC.1 fC.2.1 fC.2.2.2.1 fC.2.2.2.2.1 fC.2.2.2.2.2, q D' nD⟩
end
end L2

namespace L2
open PySem PySem.Spec PyProof.Rows
/-! ### steps of the machine that leave what an exception was made under -/
/-- the exception at a was made where none was handled -/
def NoCtx (h : Heap) (a : Addr) : Prop := ∃ o vs, h.get? a = some o ∧ o.data = .fields vs ∧ vs[2]? = some .none
def KeepF (f : Obj → Obj) : Prop := ∀ o vs, o.data = .fields vs → ∃ vs', (f o).data = .fields vs' ∧ vs'[2]? = vs[2]?
/-- a tree that calls nothing and writes no third field -/
def Tm {α : Type} : Sem α → Prop
  | .pure _ | .raise _ | .unsupported _ | .finish _ | .register _ _ => True
  | .rule _ k => Tm (k ())
  | .at _ k => Tm (k ())
  | .load _ _ k => ∀ o, Tm (k o)
  | .update _ _ f k => KeepF f ∧ Tm (k ())
  | .alloc _ k => ∀ a, Tm (k a)
  | .loadIfAlive _ k => ∀ o, Tm (k o)
  | .point _ k => Tm (k ())
  | .fresh k => ∀ o, Tm (k o)
  | .ask k => ∀ o, Tm (k o)
  | .handled _ k => ∀ o, Tm (k o)
  | .stack k => ∀ o, Tm (k o)
  | .thread k => ∀ o, Tm (k o)
  | _ => False
section
variable {M : Model} {A : Around} {E : Value → Shared → Prop} {s : Shared} {base : Heap} {env : Env} {outer : List Env} {L e : Addr} {cls a0 : Value} {Q : Unit → Shared → Prop}
end
/-! ### exceptions: how one lies behind a call, how it passes a def, how it is made -/
/-- behind a call: the exception at a, of class cls; B: all that stays as it is while it passes -/
def CX1 (P : Program) (w : World) : CXT := fun outer H s E e s' => ∃ (a : Addr) (cls a0 : Value) (H' : Hp) (B : Heap), e = .ref a ∧ s'.os = s.os ∧ AllBare s'.gens ∧ Un (frs outer) [] H H' s.heap s'.heap ∧
  HOk P w H' B ∧ (Heap.FlyingW B outer a cls a0 s'.heap ∧ NoCtx s'.heap a) ∧ (∀ b o, s.heap.get? b = some o → b ∉ frs outer → ∃ o', B.get? b = some o') ∧ E cls none H'

/-- the body of a def that an exception may leave: E is wanted of it -/
structure Lv (X : Cx) (E : XK) : Prop where
  stk : X.stack = X.env :: X.outer
  fr : X.env.frame = some X.env.locals
  ex : X.ex = []
  xe : ∀ e s', wpAny (model X.prog X.w) X.A (leaving X.env e) (fun _ s'' => CX1 X.prog X.w X.outer X.H₀ X.s₀ E e s'') (fun e' s'' => CX1 X.prog X.w X.outer X.H₀ X.s₀ E e' s'') s' → X.xe e s'

section
variable {X : Cx} {E : XK} {pins : List (Addr × Obj)} {σ : St} {H H' : Hp} {s : Shared}
end

/-! ### raise C(..) -/
def tRaise (cls : Value) (E : XK) (t : TA) : TS := fun _ σ H => t σ H fun vs H1 => vs.length ≤ sizeLine ∧ E cls none H1
section
variable {X : Cx} {E : XK} {x : Str} {C : Addr} {bm bmN : List Value} {B Bn newId nid initId inN : String} {np cpos pos : Pos} {e₀ : Expr} {es : List Expr} {t : TA}
end
end L2

namespace L2
open PySem PySem.Spec PyProof.Rows
/-! ### a def that may raise, by its promise -/
/-- a wish about exceptions, by the names' values -/
abbrev XS := St → XK
structure DfX (P : Program) (w : World) (K : PySem.W.Frag) (mg : Str → Option Value) (base : Heap) (k : Nat) (x : Str) (ps : List Str) (sp : Sp) : Prop where
  ex : ∃ (f : Addr) (fd : FuncData), FnOk P w K mg base (CX1 P w) k f fd ps sp ∧ mg x = some (.ref f) ∧ PySem.W.keepIn K (.ref f) = true ∧ Binds K fd ps []
section
variable {P : Program} {w : World} {K : PySem.W.Frag} {mg : Str → Option Value} {base : Heap}
end
def tCallX (sp : Sp) (Ex : XS) (t : TA) : TE := fun σ H Q => t σ H fun vs H1 => sp vs H1 Q (Ex σ)
def PassesX (X : Cx) (Ex : XS) : Prop := ∀ (pins : List (Addr × Obj)) (σ : St) (H : Hp) (s : Shared) (e : Value) (s' : Shared), Inv X pins σ H s → CX1 X.prog X.w X.stack H s (Ex σ) e s' → X.xe e s'
section
variable {X : Cx} {k j : Nat} {x : Str} {ps : List Str} {sp : Sp} {e : Expr} {es : List Expr} {p pos : Pos} {t : TA} {Ex : XS}
end

/-! ### try: .. except C as n: .. -/
/-- an exception of the class cls, made where none was handled -/
def excO (a : Addr) (cls : Value) : HO := .ext fun h => ∃ o, h.get? a = some o ∧ o.cls = cls ∧ ∃ vs, o.data = .fields vs ∧ vs[2]? = some .none
abbrev Cx.pinned (X : Cx) (pins : List (Addr × Obj)) : Cx := { X with pn := X.pn ++ pins }
abbrev Cx.tryX (X : Cx) (pins : List (Addr × Obj)) (Ex : XS) : Cx := (X.pinned pins).wish fun e s' => ∃ pins' σ H s, Inv (X.pinned pins) pins' σ H s ∧ CX1 X.prog X.w X.stack H s (Ex σ) e s'
abbrev Cx.inExc (X : Cx) (e : Value) : Cx := { X with A := X.A.mark (some e), calm := false, xe := fun _ _ => False }
section
variable {X : Cx} {pins pins' : List (Addr × Obj)} {σ : St} {H H' : Hp} {s : Shared}
end
end L2

namespace L2
open PySem PySem.Spec PyProof.Rows
def tTry (tb : XS → TS) (K : PySem.W.Frag) (R : Value) (i : Nat) (ts : TS) : TS := fun D σ H => ∃ Ex : XS, tb Ex D σ H ∧ ∀ σ' cls H', Ex σ' cls none H' → PySem.W.exmOne K cls R = some true ∧ ∀ a, H' a = none →
  ts { nx := fun σ2 H2 => D.nx (σ2.set i none) H2, rt := D.rt, bk := fun σ2 H2 => D.bk (σ2.set i none) H2, ct := fun σ2 H2 => D.ct (σ2.set i none) H2 } (σ'.set i (some (.ref a))) (upd H' a (excO a cls))
section
variable {X : Cx} {Ex : XS} {pins : List (Addr × Obj)} {tb : XS → TS} {ts : TS} {c n : Str} {i : Nat} {R : Addr} {body suite : List Stmt} {b₀ : Stmt} {np hpos pos : Pos}
end
end L2

/-! ### the class of an exception of an own class, as isinstance asks for it -/
namespace Mr.X
open PySem PySem.W PySem.Spec PySem.Calls PyProof.Rows Builtin Builtin.ObjectAttr Builtin.Getset_descriptor
section
variable {prog : Program} {w : World} {A : Around} {E : Value → Shared → Prop} {K : Frag} {D a : Addr} {h : Heap} {g : Array GenState} {d : Drawn} {t : Nat} {os : OsState} {o : Obj}
end
/-- what the fragment has of an own exception class -/
structure ExC (K : Frag) (D : Addr) : Prop where
  ga : findIn K (.ref D) "__getattribute__" = some (some (.builtin "BaseException.__getattribute__"))
  gt : findIn K (.ref D) "__getattr__" = some none
  cl : findIn K (.ref D) "__class__" = some (some (.builtin "object.__class__"))
  be : subIn K (.ref D) (.type "BaseException") = some true
  ob : mroIn K D (.type "object") = some true
  is : ∃ c d cd sl, K.lookup D = some ⟨c, d, .cls cd, sl⟩
end Mr.X
namespace L2
open PySem PySem.Spec PyProof.Rows
section
variable {X : Cx}
end
end L2

namespace L2
open PySem PySem.Spec PyProof.Rows
/-! ### a def that is called within an except suite: it makes no exception -/
structure RoomN (k : Nat) (A : Around) : Prop where
  dp : A.depth + 3 * k + 5 < recursionLimit
  un : A.units + 16 * k + 200 < cLine
structure FnOkN (P : Program) (w : World) (K : PySem.W.Frag) (mg : Str → Option Value) (base : Heap) (k : Nat) (f : Addr) (fd : FuncData) (ps : List Str) (sp : Sp) : Prop where
  len : ∀ vs H Q E, sp vs H Q E → vs.length = ps.length
  run : ∀ (A : Around) (outer : List Env) (s : Shared) (H : Hp) (args : Args) (us : List Value) (vs : List V) (Q : VK) (E : XK), RoomN k A → Env0 P w K mg base A outer s H → BindsTo s fd args (ps.zip us) → Vals vs us → sp vs H Q E →
    codeAny (model P w) A (.call (.ref f) args) (CR CX0 outer P w H s Q E) s
abbrev cxN (P : Program) (w : World) (K : PySem.W.Frag) (mg : Str → Option Value) (base : Heap) (N : List Str) (qual : Str) (scope : Scope) (f : Addr) (cd : Value) (A : Around) (outer : List Env) (s : Shared) (H : Hp) : Cx :=
  { (cxOf CX0 P w K mg base N qual scope f cd A outer s H E0).nox with calm := false }
structure DfN (P : Program) (w : World) (K : PySem.W.Frag) (mg : Str → Option Value) (base : Heap) (k : Nat) (x : Str) (ps : List Str) (sp : Sp) : Prop where
  ex : ∃ (f : Addr) (fd : FuncData), FnOkN P w K mg base k f fd ps sp ∧ mg x = some (.ref f) ∧ PySem.W.keepIn K (.ref f) = true ∧ Binds K fd ps []
section
variable {P : Program} {w : World} {K : PySem.W.Frag} {mg : Str → Option Value} {base : Heap}
end
section
variable {X : Cx} {k j : Nat} {x : Str} {ps : List Str} {sp : Sp} {e : Expr} {es : List Expr} {p pos : Pos} {t : TA}
end
end L2

namespace L2
open PySem PySem.Spec PyProof.Rows PySem.SeqAt PySem.MeetsSeq
/-! ### xs.count(b), xs.index(b) of truths -/
def isB (b : Bool) : Value → Bool
  | .bool c => c == b
  | _ => false
def rCountB : V → List V → Hp → VK → Prop := fun x vs H Q => ∃ (l : Addr) (bs : List Bool) (b : Bool), x = .ref l ∧ vs = [.bl b] ∧ H l = some (.lst (bs.map V.bl)) ∧ Q (.int (bs.count b : Nat)) H
def rIndexB : V → List V → Hp → VK → Prop := fun x vs H Q => ∃ (l : Addr) (bs : List Bool) (b : Bool) (j : Nat), x = .ref l ∧ vs = [.bl b] ∧ H l = some (.lst (bs.map V.bl)) ∧ bs[j]? = some b ∧ (∀ m, m < j → bs[m]? = some (!b)) ∧ Q (.int (j : Nat)) H
section
variable {X : Cx}
end
end L2

namespace L2
open PySem PySem.Spec PyProof.Rows
/-- raise C(..), C under ValueError -/
def Er (K : PySem.W.Frag) (mg : Str → Option Value) (x : Str) (C : Addr) : Prop := mg x = some (.ref C) ∧ PySem.W.excIn K C [.type "ValueError", .type "Exception", .type "BaseException", .type "object"] "ValueError.__new__" = true
end L2

namespace L2
open PySem PySem.Spec PyProof.Rows
/-! rules within a comprehension, where the context's K must be said plainly -/
section
variable {X : Cx} {K : PySem.W.Frag}
theorem ix_listK (h : X.K = K) : IxR X (rIxL K) := h ▸ ix_list
end
end L2

namespace L2
open PySem PySem.Spec PyProof.Rows PySem.SeqAt PySem.MeetsSeq
/-! ### sum and max of a list of ints; xs.index(n); tuples and None compared by != -/
section
variable {X : Cx}
def isI (n : Int) : Value → Bool
  | .int c _ => c == n
  | _ => false
def rIndexI : V → List V → Hp → VK → Prop := fun x vs H Q => ∃ (l : Addr) (ns : List Int) (n : Int) (j : Nat), x = .ref l ∧ vs = [.int n] ∧ H l = some (.lst (ns.map V.int)) ∧ ns[j]? = some n ∧ (∀ m, m < j → ns[m]? ≠ some n) ∧ Q (.int (j : Nat)) H
/-- None against None, or two tuples of plain values, or one of each -/
def rNeTN : R2 := fun x y H Q => (x = .non ∧ y = .non ∧ Q (.bl false) H) ∨ ∃ p q xs ys, x = .ref p ∧ y = .ref q ∧ H p = some (.tup xs) ∧ H q = some (.tup ys) ∧ xs.all flatV = true ∧ ys.all flatV = true ∧ Q (.bl (!eqVs xs ys)) H
end
end L2

namespace L2
open PySem PySem.Spec PyProof.Rows
/-! ### for a, b in enumerate(xs), in zip(xs, ys) -/
section
variable {X : Cx} {pins : List (Addr × Obj)} {σ : St} {H : Hp} {s : Shared} {h' : Heap} {wr : List Addr} {t' : Nat}
/-- the iterator's records have turned, and a new tuple stands at T -/
theorem Inv.turnedT {T : Addr} {xs : List V} (I : Inv X pins σ H s) (k : ∀ b o, b ∉ wr → s.heap.get? b = some o → h'.get? b = some o) (hf : ∀ b ∈ wr, FpOk X pins H b) (hT : s.heap.objs.size ≤ T) (new : ObjOk X.prog X.w (upd H T (.tup xs)) h' T (.tup xs)) :
    Inv X pins σ (upd H T (.tup xs)) { s with heap := h', toks := t' } := by
  have hn : H T = none := I.hok.fresh hT
  have nit : ∀ b u, H b = some u → b ∉ wr := fun b u e z => by rw [(hf b z).1] at e; cases e
  have neT : ∀ b o, s.heap.get? b = some o → b ≠ T := fun b o e => Nat.ne_of_lt (Nat.lt_of_lt_of_le (Heap.lt_size e) hT)
  refine I.step (g' := s.gens) (d' := s.drawn) (ch := wr) (fun b hb => ?_) (fun b o _ _ hc e _ => k b o hc e) (fun b o _ _ hc e _ => ⟨o.slots, k b o hc e⟩) (fun b o _ e n => by rw [upd_ne (neT b o e)]; exact n)
    (fun b o hc e => ⟨o, k b o hc e⟩) (fun b ys e => by rw [upd_ne (ne_of_none e hn)]; exact e) (fun b _ _ e => by rw [upd_ne (ne_of_none e hn)]; exact e) (fun b ps e => ⟨#[], by rw [upd_ne (ne_of_none e hn), e]; simp⟩) (fun m hm => ?_) (fun b u e => ?_) I.bare
  · obtain ⟨_, f1, _, f3, f4, f5⟩ := hf b hb
    exact ⟨f3, f1, f4, f5⟩
  · obtain ⟨o, es, ep, ho, r⟩ := hm
    exact ⟨o, es, ep, k _ o (fun z => (hf _ z).2.1 rfl) ho, r⟩
  · by_cases hb : b = T
    · subst hb; rw [upd_same] at e; cases e; exact new
    · rw [upd_ne hb] at e
      refine (I.hok b u e).stay (fun c v hc q => k c v ?_ q) (fun c q => by rw [upd_ne (ne_of_none q hn)]; exact q) fun c xs q => by rw [upd_ne (ne_of_none q hn)]; exact q
      rcases hc with z | z
      · rw [z]; exact nit b u e
      · exact nit c _ z
theorem Inv.turnedL (I : Inv X pins σ H s) (k : ∀ b o, b ∉ wr → s.heap.get? b = some o → h'.get? b = some o) (hf : ∀ b ∈ wr, FpOk X pins H b) : Inv X pins σ H { s with heap := h', toks := t' } := by
  have nit : ∀ b u, H b = some u → b ∉ wr := fun b u e z => by rw [(hf b z).1] at e; cases e
  refine I.step (g' := s.gens) (d' := s.drawn) (ch := wr) (fun b hb => ?_) (fun b o _ _ hc e _ => k b o hc e) (fun b o _ _ hc e _ => ⟨o.slots, k b o hc e⟩) (fun b o _ e n => n)
    (fun b o hc e => ⟨o, k b o hc e⟩) (fun b ys e => e) (fun b _ _ e => e) (fun b ps e => ⟨#[], by rw [e]; simp⟩) (fun m hm => ?_) (fun b u e => ?_) I.bare
  · obtain ⟨_, f1, _, f3, f4, f5⟩ := hf b hb
    exact ⟨f3, f1, f4, f5⟩
  · obtain ⟨o, es, ep, ho, r⟩ := hm
    exact ⟨o, es, ep, k _ o (fun z => (hf _ z).2.1 rfl) ho, r⟩
  · refine (I.hok b u e).stay (fun c v hc q => k c v ?_ q) (fun _ q => q) fun _ _ q => q
    rcases hc with z | z
    · rw [z]; exact nit b u e
    · exact nit c _ z
end
/-- the list at a: at each turn a new tuple (i, item) -/
def Ite (a : Addr) : It :=
  ⟨fun i H => ∃ xs x, H a = some (.lst xs) ∧ xs[i]? = some x, fun i H x H' => ∃ (T : Addr) (v : V), x = .ref T ∧ H T = none ∧ H' = upd H T (.tup [.int (i : Int), v]) ∧ ∀ xs, H a = some (.lst xs) → xs[i]? = some v, fun i H => ∃ xs, H a = some (.lst xs) ∧ xs.length = i⟩
theorem turn_enum {P : Program} {w : World} {K : PySem.W.Frag} {elts : List Expr} {k : Nat} {pos : Pos} (e it l : Addr) (hei : e ≠ it) :
    Turn P w K (.Tuple elts k pos) (Ite l) [e, it] e (fun i h => (∃ old, IsEnum h e it i old) ∧ h.IsListIter it l i) where
  mem := by simp
  obj := fun i h st b hb => by
    obtain ⟨⟨old, he⟩, o, h1, c, d⟩ := st
    have hb' : b = e ∨ b = it := by simpa using hb
    rcases hb' with rfl | rfl
    · exact ⟨_, he, fun v z => by cases z⟩
    · exact ⟨o, h1, fun v z => by rw [d] at z; cases z⟩
  keep := fun i h h' st kk => by
    obtain ⟨⟨old, he⟩, hit⟩ := st
    exact ⟨⟨old, kk e (by simp) _ he⟩, hit.at fun o x => kk it (by simp) o x⟩
  item := by
    intro X hP hw hK hc i pins s σ H E I hf st hg
    subst hP hw hK
    obtain ⟨xs, x, hq, hx⟩ := hg
    obtain ⟨its, rv, p, hz⟩ := I.list (SqL.of (K := X.K) hq)
    obtain ⟨u, hu, ru⟩ := rv.get hx
    obtain ⟨st1, st2⟩ := st
    have hwr : ∀ b ∈ [e, it], FpOk X pins H b := hf
    have lne : ∀ b ∈ [e, it], l ≠ b := fun b hb z => by
      have h0 := (hf b hb).1
      rw [← z] at h0
      rw [h0] at hq; cases hq
    have W := WalksT.enumerate (prog := X.prog) (w := X.w) (A := X.A) (I.ok.hd hc) e it l hei (lne e (by simp)) (lne it (by simp)) its.toArray
    have hi : i < its.toArray.size := by
      have := (List.getElem?_eq_some_iff.mp hu).1
      simpa using this
    refine W.item i s _ _ hi ⟨st1, st2, p.isList⟩ fun T vals h' tk hP hT hIs hM hk => ⟨.ref T, rfl, ?_⟩
    obtain ⟨t, x', hx', rfl⟩ := hP
    have hxu : x' = u := by
      have : its.toArray[i]? = some u := by simpa using hu
      rw [this] at hx'; exact (Option.some.inj hx').symm
    subst hxu
    have I1 : Inv X pins σ (upd H T (.tup [.int (i : Int), x])) { s with heap := h', toks := tk } :=
      I.turnedT (t' := tk) hk hwr hT ⟨by show 2 ≤ sizeLine; decide, [.int i t, x'], .cons ⟨t, rfl⟩ (.cons ru .nil), hIs⟩
    have hn : H T = none := I.hok.fresh hT
    have hnT : ∀ b ∈ [e, it], b ≠ T := fun b hb z => W.apart i T h' hM (z ▸ hb)
    refine W.go elts k pos i T { s with heap := h', toks := tk } _ _ hM fun h2 st' hk2 => ?_
    have hf2 : ∀ b ∈ [e, it], FpOk X pins (upd H T (.tup [.int (i : Int), x])) b := fun b hb => ⟨by rw [upd_ne (hnT b hb)]; exact (hf b hb).1, (hf b hb).2⟩
    refine ⟨.ref T, _, I1.turnedL (h' := h2) (t' := tk) hk2 hf2, rfl, ⟨T, x, rfl, hn, rfl, fun ys hy => by rw [hq] at hy; cases hy; exact hx⟩, ⟨by simpa using st'.1, st'.2.1⟩, fun b hb => (hf2 b hb).1⟩
  done := by
    intro X hP hw hK hc i pins s σ H E I hf st hg
    subst hP hw hK
    obtain ⟨xs, hq, hx⟩ := hg
    obtain ⟨its, rv, p, hz⟩ := I.list (SqL.of (K := X.K) hq)
    obtain ⟨st1, st2⟩ := st
    have lne : ∀ b ∈ [e, it], l ≠ b := fun b hb z => by
      have h0 := (hf b hb).1
      rw [← z] at h0
      rw [h0] at hq; cases hq
    have W := WalksT.enumerate (prog := X.prog) (w := X.w) (A := X.A) (I.ok.hd hc) e it l hei (lne e (by simp)) (lne it (by simp)) its.toArray
    have hl : its.toArray.size = i := by rw [← hx, List.size_toArray]; exact rv.length.symm
    refine W.done s _ _ (by rw [hl]; exact ⟨st1, st2, p.isList⟩) fun h' tk hk => ⟨rfl, I.turnedL (t' := tk) hk hf⟩
  self := fun _ _ _ _ _ st h => by
    obtain ⟨⟨old, he⟩, _⟩ := st
    exact wpAny_pyIter_enum he h
def iEnum (ta : TA) : TI := fun σ H R => ta σ H fun vs H1 => ∃ (a : Addr) (xs : List V), vs = [.ref a] ∧ H1 a = some (.lst xs) ∧ R (Ite a) H1
theorem boot_enum : bootBuiltins "enumerate" = some (.type "enumerate") := by decide +kernel
section
variable {X : Cx} {elts : List Expr} {k : Nat} {tp : Pos}
theorem pi_enum {a : Expr} {ta : TA} {p pos : Pos} (hg : Gl X "enumerate") (hm : X.mg "enumerate" = none) (ha : PA X [a] ta) (hs : starEach [a] X.env = [(false, eval a X.env)] := by rfl) : PI X (.Tuple elts k tp) (.Call (.Name "enumerate" p) [a] [] pos) (iEnum ta) := by
  intro pins s σ H R I h
  refine Call_ (ld_blt I hg hm boot_enum (PyProof.Rows.callWith_type1 (thn (ha pos pins s σ H _ I h) fun us s1 ⟨vs, H1, I1, r1, q1⟩ => ?_) hs rfl))
  obtain ⟨a, xs, e, hq, q⟩ := q1
  subst e
  cases r1 with
  | cons r rr =>
    cases rr
    cases r
    obtain ⟨its, rv, p, hz⟩ := I1.list (SqL.of (K := X.K) hq)
    refine call_enumerate_list p.isList fun h' hE hI hsz hk => ?_
    refine wpAny_pyIter_enum (s := { s1 with heap := h' }) hE ?_
    have I2 : Inv X pins σ H1 { s1 with heap := h' } := I1.kept (t' := s1.toks) hk
    refine ⟨s1.heap.objs.size + 1, [s1.heap.objs.size + 1, s1.heap.objs.size], _, _, H1, rfl, I2, turn_enum (s1.heap.objs.size + 1) s1.heap.objs.size a (Nat.succ_ne_self _), ⟨⟨_, hE⟩, hI⟩, fun b hb => ?_, q⟩
    have hb' : b = s1.heap.objs.size + 1 ∨ b = s1.heap.objs.size := by simpa using hb
    have hge : s1.heap.objs.size ≤ b := by
      rcases hb' with rfl | rfl
      · exact Nat.le_succ _
      · exact Nat.le_refl _
    exact I1.fpOk hge (I1.hok.fresh hge)
end
/-- two lists at once: at each turn a new tuple of both items -/
def Itz (a b : Addr) : It :=
  ⟨fun i H => ∃ xs ys x y, H a = some (.lst xs) ∧ H b = some (.lst ys) ∧ xs[i]? = some x ∧ ys[i]? = some y,
   fun i H z H' => ∃ (T : Addr) (x y : V), z = .ref T ∧ H T = none ∧ H' = upd H T (.tup [x, y]) ∧ ∀ xs ys, H a = some (.lst xs) → H b = some (.lst ys) → xs[i]? = some x ∧ ys[i]? = some y,
   fun i H => ∃ xs ys, H a = some (.lst xs) ∧ H b = some (.lst ys) ∧ min xs.length ys.length = i⟩
def iZip (ta : TA) : TI := fun σ H R => ta σ H fun vs H1 => ∃ (a b : Addr) (xs ys : List V), vs = [.ref a, .ref b] ∧ H1 a = some (.lst xs) ∧ H1 b = some (.lst ys) ∧ R (Itz a b) H1
section
variable {X : Cx} {elts : List Expr} {k : Nat} {tp : Pos}
end
/-! the forms one uses -/
end L2

namespace L2
open PySem PySem.Spec PyProof.Rows
/-! ### comprehensions with a target of several names: [.. for a, b in zip(xs, ys)] -/
structure CompNamesL (X : Cx) (scope : Scope) (cl : List (Str × Addr)) (xs : List Str) (ys : List Str) (ix : List Nat) : Prop where
  clos : closureFor scope X.env = pure cl
  cell : (scope.names.all fun y => !(y.2 == NameKind.cell)) = true
  kind : scope.kind = .function
  names : (scope.names.all fun y => !(y.2 == NameKind.local) || scope.names.lookup y.1 == some NameKind.local) = true
  nd : (xs ++ ys).Nodup
  sub : SubOk X cl
  has : ((relabel scope X.env).names.all fun p => !(p.2 == NameKind.cell || p.2 == NameKind.free) || (cl.lookup p.1).isSome) = true
  free : FreeOk X scope cl ys ix
/-- the names' values at the block's start -/
def cstL (k : Nat) (ix : List Nat) (σ : St) : St := List.replicate k none ++ ix.map fun j => (σ[j]?).getD none
/-- .. and with the target stored -/
def cstV (vs : List V) (ix : List Nat) (σ : St) : St := vs.map some ++ ix.map fun j => (σ[j]?).getD none
section
variable {X : Cx} {scope : Scope} {cl : List (Str × Addr)} {xs ys : List Str} {ix : List Nat}
theorem CompNamesL.sub' (n : CompNamesL X scope cl xs ys ix) : ∀ y c, cl.lookup y = some c → X.env.cells.lookup y = some c := fun y c e => n.sub.mem (y, c) (lookup_mem e)
theorem CompNamesL.has' (n : CompNamesL X scope cl xs ys ix) : ∀ y, ((relabel scope X.env).names.lookup y = some .cell ∨ (relabel scope X.env).names.lookup y = some .free) → ∃ c, cl.lookup y = some c := fun y h => by
  have : ∃ k : NameKind, (y, k) ∈ (relabel scope X.env).names ∧ (k = .cell ∨ k = .free) := by
    rcases h with h | h
    · exact ⟨_, lookup_mem h, .inl rfl⟩
    · exact ⟨_, lookup_mem h, .inr rfl⟩
  obtain ⟨k, hm, hk⟩ := this
  have q := List.all_eq_true.mp n.has (y, k) hm
  have : (k == NameKind.cell || k == NameKind.free) = true := by
    rcases hk with rfl | rfl <;> decide
  simp only [this, Bool.not_true, Bool.false_or] at q
  exact Option.isSome_iff_exists.mp q
theorem CompNamesL.cell' (n : CompNamesL X scope cl xs ys ix) : ∀ y ∈ scope.names, y.2 ≠ .cell := fun y hy e => by
  have q := List.all_eq_true.mp n.cell y hy
  rw [e] at q
  exact absurd q (by decide)
theorem CompNamesL.names' (n : CompNamesL X scope cl xs ys ix) : ∀ y ∈ scope.names, y.2 = .local → scope.names.lookup y.1 = some .local := fun y hy e => by
  have q := List.all_eq_true.mp n.names y hy
  rw [e] at q
  have z : (NameKind.local == NameKind.local) = true := by decide
  simp only [z, Bool.not_true, Bool.false_or] at q
  exact eq_of_beq q
/-- the turns of a block whose target may be a tuple that the iterator keeps -/
theorem turns_go {prog : Program} {w : World} {A : Around} {s : Shared} {elt target iter : Expr} {ifs : List Expr} {sc : Scope} {pos : Pos} {it acc : Value} {env : Env} {R : Result → Shared → Prop} (I : Nat → Shared → Prop)
    (turn : ∀ n s, I n s → wpAny (model prog w) A (pyNext it) (fun r s1 => match r with | none => R (.ok .next) s1 | some v => wpAny (model prog w) A (letOwnedTupleGo target it v) (fun _ s0 => wpAny (model prog w) A (assign target env v) (fun _ s2 => wpAny (model prog w) A (forIn ifs true fun c r => if r = true then do let ok ← isTrue c env (eval c env); pure (ForInStep.yield ok) else pure (ForInStep.yield r)) (fun ok s3 => if ok = true then wpAny (model prog w) A (eval elt env) (fun x s4 => wpAny (model prog w) A (call (.builtin "list.append") [acc, x]) (fun _ s5 => ∃ m, m < n ∧ I m s5) (notedBy (model prog w) A env fun e s' => R (.error e) s') s4) (notedBy (model prog w) A env fun e s' => R (.error e) s') s3 else ∃ m, m < n ∧ I m s3) (notedBy (model prog w) A env fun e s' => R (.error e) s') s2) (notedBy (model prog w) A env fun e s' => R (.error e) s') s0) (notedBy (model prog w) A env fun e s' => R (.error e) s') s1) (notedBy (model prog w) A env fun e s' => R (.error e) s') s)
    (n : Nat) (h : I n s) : codeAny (model prog w) A (.compLoop (.ListComp elt [⟨target, iter, ifs, 0⟩] sc pos) 0 it acc env) R s := by
  refine codeAny_loop rfl I (fun n s hI => ?_) n h
  show wpAny _ A ((compTurn (.ListComp elt [⟨target, iter, ifs, 0⟩] sc pos) 0 it acc env).onRaise (fun x => do noteFrame x env; theTreesLotGoes x)) _ _ s
  refine wpAny_noted ?_
  rw [compTurn_list]
  refine wpAny_bind (wpAny_standAt (wpAny_bind (thn (turn n s hI) fun r s1 h1 => ?_)))
  cases r with
  | none => exact wpAny_pure h1
  | some v =>
    refine wpAny_bind (thn h1 fun _ s0 h0 => wpAny_bind (thn h0 fun _ s2 h2 => wpAny_bind (thn h2 fun ok s3 h3 => ?_)))
    cases ok with
    | false => exact wpAny_pure ⟨rfl, h3⟩
    | true => exact wpAny_bind (wpAny_bind (thn h3 fun x s4 h4 => wpAny_bind (thn h4 fun _ s5 h5 => wpAny_pure (wpAny_pure ⟨rfl, h5⟩))))
/-- [te for (a, b, ..) in wi if tt]: k names in the target -/
def tCompL (K : PySem.W.Frag) (k : Nat) (wi : TI) (ix : List Nat) (tt : TT) (te : TE) : TE := fun σ H Q => wi σ H fun J H1 => ∃ W : Nat → Nat → List V → Hp → Prop, (∃ m, W 0 m [] H1) ∧ ∀ i m ys H2, W i m ys H2 →
  (J.stop i H2 ∧ ys.length ≤ sizeLine ∧ ∀ p, H2 p = none → Q (.ref p) (upd H2 p (.lst ys))) ∨
  (J.go i H2 ∧ ys.length ≤ sizeLine ∧ ∀ x H3, J.yld i H2 x H3 → ∃ (a : Addr) (vs : List V), x = .ref a ∧ SqT K H3 a vs ∧ vs.length = k ∧ tt (cstV vs ix σ) H3 fun b H4 =>
    if b = true then te (cstV vs ix σ) H4 fun v H5 => ∃ m', m' < m ∧ W (i + 1) m' (ys ++ [v]) H5 else ∃ m', m' < m ∧ W (i + 1) m' ys H4)
theorem cmp_startL {pins : List (Addr × Obj)} {σ : St} {H : Hp} {s : Shared} {fp : List Addr} {D C : Addr} {h₁ : Heap} {tk : Nat} {ob : Obj} {m : Str → Option Value} (n : CompNamesL X scope cl xs ys ix) (I : Inv X pins σ H s)
    (f : ∀ b ∈ fp, FpOk X pins H b) (fo : ∀ b ∈ fp, b < s.heap.objs.size) (hD : s.heap.objs.size ≤ D) (hC : s.heap.objs.size ≤ C) (hDC : D ≠ C) (old : ∀ b o, s.heap.get? b = some o → h₁.get? b = some o) (hns : h₁.Ns C m) (hob : h₁.get? D = some ob)
    (hcell : ∀ v, ob.data ≠ .cell v) : Inv (cmpCx X (xs ++ ys) scope cl C fp s H) [(D, ob)] (cstL xs.length ix σ) H { s with heap := h₁, toks := tk } := by
  have nst : ∀ b, s.heap.objs.size ≤ b → b ∉ frs X.stack := fun b hb z => by
    rcases List.mem_cons.mp (I.stkSub b z) with e | e
    · exact absurd (Nat.lt_of_lt_of_le I.lt (by rw [← e]; exact hb)) (Nat.lt_irrefl _)
    · exact I.nofs hb e
  have lt_cell : ∀ y c, cl.lookup y = some c → c < s.heap.objs.size := fun y c e => by
    obtain ⟨v, q⟩ := I.cell y c (n.sub' y c e)
    exact q.lt
  refine ⟨⟨I.ok.mod, n.kind, I.ok.glob, I.ok.blt, hC, fun y z c h1 h2 => I.ok.inj y z c (n.sub' y c h1) (n.sub' z c h2), n.has', (fun y c h => absurd (show false = true from h) (by decide)), I.ok.hd, I.ok.frames, .inl rfl, fun b hb => ⟨?_, fun y c e => ?_⟩, I.bs,
    Nat.le_trans I.ok.bsz I.sz, fun b o e hb => ?_, fun b hb z => ?_, I.stack, I.stkFree⟩, rfl, I.bare, Un.kept old, ⟨m, hns, fun i y v h1 h2 h3 => ?_⟩, fun y c e => ?_, I.hok.fresh hC, fun y c e => I.freeC y c (n.sub' y c e), fun p hp => ?_, I.hok.kept old, ?_⟩
  · exact Nat.ne_of_lt (Nat.lt_of_lt_of_le (fo b hb) hC)
  · exact (f b hb).2.2.2.2.1 y c (n.sub' y c e)
  · rcases (f b hb).2.2.2.1 with z | z
    · exact I.ok.noex b o e z
    · exact absurd (Nat.lt_of_lt_of_le (Heap.lt_size e) (Nat.le_trans I.ok.bsz z)) (Nat.lt_irrefl _)
  · rcases List.mem_cons.mp (I.stkSub b z) with e | e
    · exact (f b hb).2.1 e
    · exact (f b hb).2.2.1 e
  · by_cases hi : i < xs.length
    · have h2' : (cstL xs.length ix σ)[i]? = some (some v) := h2
      unfold cstL at h2'
      rw [List.getElem?_append_left (by simpa using hi), List.getElem?_replicate, if_pos hi] at h2'
      cases Option.some.inj h2'
    · obtain ⟨j, rfl⟩ : ∃ j, i = xs.length + j := ⟨i - xs.length, by omega⟩
      have h1' : ys[j]? = some y := by
        have h1'' : (xs ++ ys)[xs.length + j]? = some y := h1
        rw [List.getElem?_append_right (by omega)] at h1''
        simpa using h1''
      obtain ⟨i, e1, e2, e3, e4, e5⟩ := n.free.at j y h1'
      have h2' : (ix.map fun j => (σ[j]?).getD none)[j]? = some (some v) := by
        have h2'' : (cstL xs.length ix σ)[xs.length + j]? = some (some v) := h2
        unfold cstL at h2''
        rw [List.getElem?_append_right (by simp)] at h2''
        simpa using h2''
      rw [List.getElem?_map, e1] at h2'
      have h2'' : (σ[i]?).getD none = some v := Option.some.inj h2'
      have h4 : σ[i]? = some (some v) := by
        cases q : σ[i]? with
        | none => rw [q] at h2''; cases h2''
        | some o => rw [q] at h2''; exact congrArg some h2''
      obtain ⟨m', hn', hl⟩ := I.loc
      obtain ⟨u, r, look⟩ := hl i y v e2 h4 (.inr (.inl e3))
      refine ⟨u, r, .inr ⟨.inl e5, ?_⟩⟩
      rcases look with ⟨k, _⟩ | ⟨_, c, e, z⟩
      · rw [e3] at k; cases k
      · refine ⟨c, e4.trans e, ?_⟩
        obtain ⟨o, ho, hd⟩ := z
        exact ⟨o, old _ _ ho, hd⟩
  · obtain ⟨v, o, ho, hd⟩ := I.cell y c (n.sub' y c e)
    exact ⟨v, o, old _ _ ho, hd⟩
  · have hp' : p ∈ [(D, ob)] := hp
    have e := List.mem_singleton.mp hp'
    subst e
    exact ⟨hob, I.hok.fresh hD, hDC, nst D hD, hcell⟩
  · show (cstL xs.length ix σ).length = (xs ++ ys).length
    simp [cstL, n.free.len]

theorem pe_compL {elt iter : Expr} {elts ifs : List Expr} {kt : Nat} {px pos : Pos} {wi : TI} {gs : TGs} {tt : TT} {te : TE} (n : CompNamesL X scope cl xs ys ix) (hc : X.calm = true) (hi : PI X (.Tuple elts kt px) iter wi)
    (hg : ∀ C fp s H, PG (cmpCx X (xs ++ ys) scope cl C fp s H) (.Tuple elts kt px) (gTup X.K xs.length gs)) (hgs : ∀ (vs : List V) (cs : St) (H : Hp) (Q : St → Hp → Prop), vs.length = xs.length → Q (vs.map some ++ cs) H → gs vs (List.replicate xs.length none ++ cs) H Q)
    (ht : ∀ C fp s H, PTs (cmpCx X (xs ++ ys) scope cl C fp s H) ifs tt) (he : ∀ C fp s H, PE (cmpCx X (xs ++ ys) scope cl C fp s H) elt te)
    (hs : ∀ x, foldedSetIterable iter X.env x = pure x := by intro _; rfl) : PE X (.ListComp elt [⟨.Tuple elts kt px, iter, ifs, 0⟩] scope pos) (tCompL X.K xs.length wi ix tt te) := by
  intro pins s σ H Q I h
  rw [eval_ListComp]
  refine wpAny_comprehension_free (use := none) rfl hs n.clos n.kind n.names' (thn (hi pins s σ H _ I h) fun v s1 h1 => thn h1 fun itv s2 h2 => ?_)
  obtain ⟨it, fp, tn, J, H2, e, I2, T, st2, f2, W, ⟨m0, w0⟩, turn⟩ := h2
  subst e
  have fo : ∀ b ∈ fp, b < s2.heap.objs.size := fun b hb => let ⟨_, e, _⟩ := T.obj _ _ st2 b hb; Heap.lt_size e
  refine wpAny_newObj_type (wpAny_newFunctionEnv n.cell' (by intro y hy; simp at hy) (fun h₁ hns₁ hsb₁ => ?_) n.kind)
  dsimp only at hns₁ hsb₁ ⊢
  generalize hH3 : s2.heap.push { cls := .type "list", dict := none, data := .seq ([] : List Value).toArray } = G at hns₁ hsb₁ ⊢
  have hC : G.objs.size = s2.heap.objs.size + 1 := by rw [← hH3, Heap.size_push]
  have hDC : s2.heap.objs.size ≠ G.objs.size := by rw [hC]; exact Nat.ne_of_lt (Nat.lt_succ_self _)
  have hCle : s2.heap.objs.size ≤ G.objs.size := by rw [hC]; exact Nat.le_succ _
  have below : ∀ b, b < s2.heap.objs.size → b ≠ G.objs.size ∧ b ≠ s2.heap.objs.size := fun b hb => ⟨by rw [hC]; exact Nat.ne_of_lt (Nat.lt_succ_of_lt hb), Nat.ne_of_lt hb⟩
  have old : ∀ b o, s2.heap.get? b = some o → h₁.get? b = some o := fun b o e => hsb₁.extBut b o (below b (Heap.lt_size e)).1 (Heap.get?_push_of_some _ (hH3 ▸ Heap.get?_push_of_some _ e))
  have hacc : h₁.get? s2.heap.objs.size = some { cls := .type "list", data := .seq ([] : List Value).toArray 0 } := hsb₁.extBut _ _ hDC (Heap.get?_push_of_some _ (hH3 ▸ Heap.get?_push_size _ rfl))
  have st1 : tn 0 h₁ := T.keep _ _ _ st2 fun b _ o e => old b o e
  have stat : ∀ {H' : Hp} {ob : Obj}, (∀ b ∈ fp, H' b = none) → ∀ b ∈ fp, FpOk (cmpCx X (xs ++ ys) scope cl G.objs.size fp s2 H2) [(s2.heap.objs.size, ob)] H' b := fun {H' ob} hn b hb =>
    ⟨hn b hb, (below b (fo b hb)).1, fun z => by
      rcases List.mem_cons.mp (I2.stkSub b z) with e | e
      · exact (f2 b hb).2.1 e
      · exact (f2 b hb).2.2.1 e, .inl hb, fun y c e => (f2 b hb).2.2.2.2.1 y c (n.sub' y c e), fun p hp => by
      have hp' : p ∈ [(s2.heap.objs.size, ob)] := hp
      have e := List.mem_singleton.mp hp'
      subst e
      exact Ne.symm (below b (fo b hb)).2⟩
  have hfin : ∀ (s4 : Shared) (H3 : Hp) (zs : List V) (its : List Value) (k : Nat) (m' : Str → Option Value), Inv (cmpCx X (xs ++ ys) scope cl G.objs.size fp s2 H2) [(s2.heap.objs.size, { cls := .type "list", data := .seq its.toArray k })] (cstL xs.length ix σ) H3 s4 → Vals zs its →
      zs.length ≤ sizeLine → (∀ p, H3 p = none → Q (.ref p) (upd H3 p (.lst zs))) → compPost (model X.prog X.w) X.A X.xe none (EP X pins σ Q) (.ref s2.heap.objs.size) G.objs.size (.ok .next) s4 := by
    intro s4 H3 zs its k m' I4 rv hz q
    obtain ⟨m4, hn4, _⟩ := I4.loc
    refine ⟨m4, hn4, fun h' hs' => ?_⟩
    obtain ⟨eD, nD, _, _, _⟩ := I4.pin (s2.heap.objs.size, { cls := .type "list", data := .seq its.toArray k }) (by show _ ∈ [] ++ [_]; simp)
    have nC : H3 G.objs.size = none := I4.free
    have kp : ∀ b o, b ≠ G.objs.size → s4.heap.get? b = some o → h'.get? b = some o := fun b o hb e => hs'.extBut b o hb e
    have hok : HOk X.prog X.w (upd H3 s2.heap.objs.size (.lst zs)) h' := fun b u e => by
      by_cases hb : b = s2.heap.objs.size
      · subst hb
        rw [upd_same] at e
        cases e
        exact ⟨hz, its, k, rv, kp _ _ hDC eD⟩
      · rw [upd_ne hb] at e
        exact (I4.hok b u e).stay (fun c w hc qq => kp c w (by
          rcases hc with z | z
          · intro y; rw [y] at z; rw [← z, nC] at e; cases e
          · exact ne_of_none z nC) qq) (fun c qq => by rw [upd_ne (ne_of_none qq nD)]; exact qq) fun c xs qq => by rw [upd_ne (ne_of_none qq nD)]; exact qq
    have un : Un (frs X.stack) fp H2 (upd H3 s2.heap.objs.size (.lst zs)) s2.heap h' := by
      have u4 : Un (frs X.stack) fp H2 H3 s2.heap s4.heap := I4.base
      refine ⟨fun b o e nn hb hx => kp b o (below b (Heap.lt_size e)).1 (u4.keep b o e nn hb hx), fun b o e nn hb hx => ?_, fun b o e nn hx => ?_, fun b o e hx => ?_, fun b xs e => ?_, fun b o u e => ?_, fun b ps e => ?_⟩
      · obtain ⟨sl, e1⟩ := u4.slot b o e nn hb hx
        exact ⟨sl, kp _ _ (below b (Heap.lt_size e)).1 e1⟩
      · rw [upd_ne (below b (Heap.lt_size e)).2]
        exact u4.free b o e nn hx
      · obtain ⟨o', e1⟩ := u4.there b o e hx
        exact ⟨o', kp _ _ (below b (Heap.lt_size e)).1 e1⟩
      · have z := u4.tups b xs e
        rw [upd_ne (ne_of_none z nD)]
        exact z
      · have z := u4.frzs b o u e
        rw [upd_ne (ne_of_none z nD)]
        exact z
      · obtain ⟨more, z⟩ := u4.tbls b ps e
        exact ⟨more, by rw [upd_ne (ne_of_none z nD)]; exact z⟩
    exact ⟨.ref s2.heap.objs.size, upd H3 s2.heap.objs.size (.lst zs), I2.call' (s' := { s4 with heap := h' }) (ch := fp) I4.os un hok I4.bare (fun b hb => ⟨(f2 b hb).2.2.2.1, (f2 b hb).2.1, (f2 b hb).2.2.2.2.1, (f2 b hb).2.2.2.2.2⟩), rfl, q _ nD⟩
  have loop : ∀ s₃ : Shared, s₃ = { s2 with heap := h₁, toks := s2.toks + ([] : List (Str × Value)).length } →
      codeAny (model X.prog X.w) X.A (.compLoop (.ListComp elt [⟨.Tuple elts kt px, iter, ifs, 0⟩] scope pos) 0 (.ref it) (.ref s2.heap.objs.size) (compEnvC scope cl G.objs.size X.env))
        (compPost (model X.prog X.w) X.A X.xe none (EP X pins σ Q) (.ref s2.heap.objs.size) G.objs.size) s₃ := by
    rintro s₃ rfl
    refine turns_go (fun m s' => ∃ (i : Nat) (zs : List V) (its : List Value) (k : Nat) (H' : Hp),
        Inv (cmpCx X (xs ++ ys) scope cl G.objs.size fp s2 H2) [(s2.heap.objs.size, { cls := .type "list", data := .seq its.toArray k })] (cstL xs.length ix σ) H' s' ∧ Vals zs its ∧ tn i s'.heap ∧ (∀ b ∈ fp, H' b = none) ∧ W i m zs H') ?_ m0
      ⟨0, [], [], 0, H2, cmp_startL n I2 f2 fo (Nat.le_refl _) hCle hDC old hns₁ hacc (fun v z => by cases z), .nil, st1, fun b hb => (f2 b hb).1, w0⟩
    rintro m s3 ⟨i, zs, its, k, H3, I3, rv, st3, fr3, w3⟩
    rcases turn i m zs H3 w3 with ⟨stop, hz, qn⟩ | ⟨go, hz, step⟩
    · refine nof (thn (T.done (cmpCx X (xs ++ ys) scope cl G.objs.size fp s2 H2) rfl rfl rfl hc i _ s3 _ H3 _ I3 (stat fr3) st3 stop) fun r s4 ⟨hr, I4⟩ => ?_)
      subst hr
      exact hfin s4 H3 zs its k (fun _ => none) I4 rv hz qn
    · refine nof (thn (T.item (cmpCx X (xs ++ ys) scope cl G.objs.size fp s2 H2) rfl rfl rfl hc i _ s3 _ H3 _ I3 (stat fr3) st3 go) fun r s4 ⟨u, hr, h4⟩ => ?_)
      subst hr
      have go_on : ∀ {s5 s7 : Shared} {vs : List V} {H5 H7 : Hp}, vs.length = xs.length → (∀ b ∈ fp, H5 b = none) → tn (i + 1) s5.heap → Inv (cmpCx X (xs ++ ys) scope cl G.objs.size fp s2 H2) ([(s2.heap.objs.size, { cls := .type "list", data := .seq its.toArray k })] ++ pinsAt fp s5.heap) (cstV vs ix σ) H7 s7 →
          Inv (cmpCx X (xs ++ ys) scope cl G.objs.size fp s2 H2) [(s2.heap.objs.size, { cls := .type "list", data := .seq its.toArray k })] (cstL xs.length ix σ) H7 s7 ∧ tn (i + 1) s7.heap ∧ (∀ b ∈ fp, H7 b = none) := by
        intro s5 s7 vs H5 H7 hvl fr5 st5 I7
        have pn : ∀ b o, b ∈ fp → s5.heap.get? b = some o → s7.heap.get? b = some o ∧ H7 b = none := fun b o hb e => by
          have z := I7.pin (b, o) (List.mem_append_right _ (List.mem_append_right _ (mem_pinsAt hb e)))
          exact ⟨z.1, z.2.1⟩
        refine ⟨(I7.weak (σ' := cstL xs.length ix σ) (by simp [cstL, cstV, hvl]) fun j v e => ?_).unpinned, T.keep _ _ _ st5 fun b hb o e => (pn b o hb e).1, fun b hb => ?_⟩
        · unfold cstL at e
          unfold cstV
          by_cases hj : j < xs.length
          · rw [List.getElem?_append_left (by simpa using hj), List.getElem?_replicate, if_pos hj] at e
            cases Option.some.inj e
          · rw [List.getElem?_append_right (by simp; omega)] at e ⊢
            simpa [hvl] using e
        · obtain ⟨o, e, _⟩ := T.obj _ _ st5 b hb
          exact (pn b o hb e).2
      refine nof (thn h4 fun _ s5 ⟨y, H5, I5, r5, y5, st5, fr5⟩ => ?_)
      have I5' := I5.pinned (stat fr5) (T.obj _ _ st5)
      obtain ⟨a, vs, e1, hq, hvl, q5⟩ := step y _ y5
      subst e1
      refine nof (thn (hg _ _ _ _ _ s5 _ H5 (.ref a) u (fun σ' H' => σ' = cstV vs ix σ ∧ H' = H5) I5' r5 ⟨a, vs, rfl, hq, hvl, hgs vs _ _ _ hvl ⟨rfl, rfl⟩⟩) fun _ s6 ⟨σ6, H6, I6, e6, e6'⟩ => ?_)
      subst e6 e6'
      refine nof (thn (ht _ _ _ _ _ s6 _ _ _ I6 q5) fun b s7 ⟨H7, I7, q7⟩ => ?_)
      cases b with
      | false =>
        rw [if_neg (by decide)] at q7 ⊢
        obtain ⟨m', hm, w7⟩ := q7
        obtain ⟨I8, st8, fr8⟩ := go_on hvl fr5 st5 I7
        exact ⟨m', hm, i + 1, zs, its, k, H7, I8, rv, st8, fr8, w7⟩
      | true =>
        rw [if_pos rfl] at q7 ⊢
        refine nof (thn (he _ _ _ _ _ s7 _ _ _ I7 q7) fun v8 s8 ⟨z8, H8, I8, r8, m', hm, w8⟩ => ?_)
        obtain ⟨I9, st9, fr9⟩ := go_on hvl fr5 st5 I8
        obtain ⟨eD, nD, neL, _, _⟩ := I9.pin (s2.heap.objs.size, { cls := .type "list", data := .seq its.toArray k }) (by show _ ∈ [] ++ [_]; simp)
        refine append_at eD (fun h' hs' hD' => ?_) (by rw [List.size_toArray, ← rv.length]; exact hz)
        have kp : ∀ b o, b ≠ s2.heap.objs.size → s8.heap.get? b = some o → h'.get? b = some o := fun b o hb e => hs'.extBut b o hb e
        have lt_cell : ∀ y c, cl.lookup y = some c → c ≠ s2.heap.objs.size := fun y c e => by
          obtain ⟨v, q⟩ := I2.cell y c (n.sub' y c e)
          exact Nat.ne_of_lt q.lt
        have nst : s2.heap.objs.size ∉ frs X.stack := fun z => by
          rcases List.mem_cons.mp (I2.stkSub _ z) with e | e
          · exact absurd (Nat.lt_of_lt_of_le I2.lt (by rw [← e]; exact Nat.le_refl _)) (Nat.lt_irrefl _)
          · exact I2.nofs (Nat.le_refl _) e
        have I10 : Inv (cmpCx X (xs ++ ys) scope cl G.objs.size fp s2 H2) [] (cstL xs.length ix σ) H8 { s8 with heap := h', toks := s8.toks } :=
          (I9.pins_of (pins' := []) fun p hp => absurd hp (by simp)).turned (it := s2.heap.objs.size) kp nD neL (.inr (Nat.le_refl _)) lt_cell fun p hp => absurd (show p ∈ ([] : List (Addr × Obj)) from hp) (by simp)
        refine ⟨m', hm, i + 1, zs ++ [z8], its ++ [v8], k + 1, H8, I10.pins_of fun p hp => ?_, rv.append (.cons r8 .nil), T.keep _ _ _ st9 fun b hb o e => kp b o (below b (fo b hb)).2 e, fr9, w8⟩
        have e := List.mem_singleton.mp hp
        subst e
        refine ⟨?_, nD, hDC, nst, fun v z => by cases z⟩
        rw [← List.push_toArray]
        exact hD'
  exact codeAny_compStart_list (loop _ rfl) (T.self X.A 0 _ _ _ st1 (loop _ rfl))
end

/-! the targets of two and of three names -/
theorem gs2 (vs : List V) (cs : St) (H : Hp) (Q : St → Hp → Prop) (h : vs.length = 2) (q : Q (vs.map some ++ cs) H) : gCons (gName 0) (gCons (gName 1) gNil) vs (List.replicate 2 none ++ cs) H Q := by
  match vs, h with
  | [a, b], _ => exact ⟨a, [b], rfl, b, [], rfl, rfl, q⟩
end L2

namespace L2
open PySem PySem.Spec PyProof.Rows
/-! ### xs[::-1] of a list; is True, is not True; the other rules that laws of reaches want -/
section
variable {X : Cx}
def tRevL (K : PySem.W.Frag) (te ts : TE) : TE := fun σ H Q => te σ H fun x H1 => ts σ H1 fun y H2 => ∃ a xs, x = .ref a ∧ y = .int (-1) ∧ SqL K H2 a xs ∧ ∀ p, H2 p = none → Q (.ref p) (upd H2 p (.lst xs.reverse))
end
end L2

namespace L2
open PySem PySem.Spec PyProof.Rows PySem.SeqAt PySem.MeetsSeq
/-! ### deep values that are the same: ==, != ; lists against []; insert(0, x); reversed(xs); divmod by greater numbers -/
/-- x and y have the same plain values in the same places, n deep -/
def DSame (H : Hp) : Nat → V → V → Prop
  | 0, x, y => flatV x = true ∧ x = y
  | n + 1, x, y => (flatV x = true ∧ x = y) ∨ (∃ p q xs ys, x = .ref p ∧ y = .ref q ∧ H p = some (.lst xs) ∧ H q = some (.lst ys) ∧ xs.length = ys.length ∧ ∀ (j : Nat) (u v : V), xs[j]? = some u → ys[j]? = some v → DSame H n u v) ∨
    (∃ p q xs ys, x = .ref p ∧ y = .ref q ∧ H p = some (.tup xs) ∧ H q = some (.tup ys) ∧ xs.length = ys.length ∧ ∀ (j : Nat) (u v : V), xs[j]? = some u → ys[j]? = some v → DSame H n u v)
theorem eqV_refl : ∀ {x : V}, flatV x = true → eqV x x = true
  | .non, _ => rfl
  | .bl b, _ => by show (b == b) = true; simp
  | .int i, _ => by show (i == i) = true; simp
  | .str z, _ => by show (z == z) = true; simp
section
variable {X : Cx} {pins : List (Addr × Obj)} {σ : St} {H : Hp} {s : Shared}
/-- != of two lists that are the same, n deep below them -/
def rNeD (n : Nat) : R2 := fun x y H Q => ∃ p q xs ys, x = .ref p ∧ y = .ref q ∧ H p = some (.lst xs) ∧ H q = some (.lst ys) ∧ xs.length = ys.length ∧ (∀ (j : Nat) (u v : V), xs[j]? = some u → ys[j]? = some v → DSame H n u v) ∧ Q (.bl false) H
/-- xs == [], xs != [] -/
def rNil (neg : Bool) : R2 := fun x y H Q => ∃ p q xs, x = .ref p ∧ y = .ref q ∧ H p = some (.lst xs) ∧ H q = some (.lst []) ∧ Q (.bl (if neg then !xs.isEmpty else xs.isEmpty)) H
/-- xs.insert(0, y) -/
def rInsert0 : V → List V → Hp → VK → Prop := fun x vs H Q => ∃ l xs y, x = .ref l ∧ vs = [.int 0, y] ∧ H l = some (.lst xs) ∧ xs.length < sizeLine ∧ Q .non (upd H l (.lst (y :: xs)))
/-- for x in reversed(xs) -/
def Itv (a : Addr) (xs : List V) : It :=
  ⟨fun i H => i < xs.length ∧ H a = some (.lst xs), fun i H x H' => H' = H ∧ xs[xs.length - 1 - i]? = some x, fun i H => i = xs.length⟩
def iRev (ta : TA) : TI := fun σ H R => ta σ H fun vs H1 => ∃ (a : Addr) (xs : List V), vs = [.ref a] ∧ H1 a = some (.lst xs) ∧ R (Itv a xs) H1
end
end L2

namespace L2
open PySem PySem.Spec PyProof.Rows
/-! ### repr of made data, where no repr is under way -/
mutual
/-- x is read as d -/
inductive RdV (H : Hp) : V → PyData → Prop
  | non : RdV H .non .none
  | bl (b : Bool) : RdV H (.bl b) (.bool b)
  | int (i : Int) : RdV H (.int i) (.int i)
  | str (z : Str) : RdV H (.str z) (.str z)
  | lst {p : Addr} {xs : List V} {ds : List PyData} : H p = some (.lst xs) → RdVs H xs ds → RdV H (.ref p) (.list ds)
  | tup {p : Addr} {xs : List V} {ds : List PyData} : H p = some (.tup xs) → RdVs H xs ds → RdV H (.ref p) (.tuple ds)
inductive RdVs (H : Hp) : List V → List PyData → Prop
  | nil : RdVs H [] []
  | cons {x : V} {d : PyData} {xs : List V} {ds : List PyData} : RdV H x d → RdVs H xs ds → RdVs H (x :: xs) (d :: ds)
end
mutual
theorem RdV.mono {H H' : Hp} (s : Same H H') : ∀ {x : V} {d : PyData}, RdV H x d → RdV H' x d
  | _, _, .non => .non
  | _, _, .bl b => .bl b
  | _, _, .int i => .int i
  | _, _, .str z => .str z
  | _, _, .lst h r => .lst (s _ _ h) (RdVs.mono s r)
  | _, _, .tup h r => .tup (s _ _ h) (RdVs.mono s r)
theorem RdVs.mono {H H' : Hp} (s : Same H H') : ∀ {xs : List V} {ds : List PyData}, RdVs H xs ds → RdVs H' xs ds
  | _, _, .nil => .nil
  | _, _, .cons a b => .cons (RdV.mono s a) (RdVs.mono s b)
end
section
variable {X : Cx} {pins : List (Addr × Obj)} {σ : St} {H : Hp} {s : Shared}
mutual
theorem RdV.reads (I : Inv X pins σ H s) : ∀ {x : V} {d : PyData} {u : Value}, RdV H x d → RelV x u → (∃ as, Reads s.heap u d as) ∧ d.hasDict = false
  | _, _, _, .non, r => by cases r; exact ⟨⟨_, .none⟩, by simp only [PyData.hasDict]⟩
  | _, _, _, .bl b, r => by cases r; exact ⟨⟨_, .bool b⟩, by simp only [PyData.hasDict]⟩
  | _, _, _, .int i, r => by obtain ⟨t, rfl⟩ := r; exact ⟨⟨_, .int i t⟩, by simp only [PyData.hasDict]⟩
  | _, _, _, .str z, r => by obtain ⟨t, rfl⟩ := r; exact ⟨⟨_, .str z t⟩, by simp only [PyData.hasDict]⟩
  | _, _, _, .lst h q, r => by
    cases r
    obtain ⟨_, its, n, rv, e⟩ := (show ObjOk X.prog X.w H s.heap _ (.lst _) from I.hok _ _ h)
    obtain ⟨⟨as, ra⟩, hd⟩ := RdVs.reads I q rv
    exact ⟨⟨_, .list e rfl rfl (by simpa using ra)⟩, by simp only [PyData.hasDict]; exact hd⟩
  | _, _, _, .tup h q, r => by
    cases r
    obtain ⟨_, its, rv, o, e, c, n, d⟩ := (show ObjOk X.prog X.w H s.heap _ (.tup _) from I.hok _ _ h)
    obtain ⟨⟨as, ra⟩, hd⟩ := RdVs.reads I q rv
    exact ⟨⟨_, .tuple e c d (by simpa using ra)⟩, by simp only [PyData.hasDict]; exact hd⟩
theorem RdVs.reads (I : Inv X pins σ H s) : ∀ {xs : List V} {ds : List PyData} {us : List Value}, RdVs H xs ds → Vals xs us → (∃ as, ReadsAll s.heap us ds as) ∧ PyData.hasDictAll ds = false
  | _, _, _, .nil, r => by cases r; exact ⟨⟨_, .nil⟩, by simp only [PyData.hasDictAll]⟩
  | _, _, _, .cons a b, r => by
    cases r with
    | cons r1 r2 =>
      obtain ⟨⟨as, ra⟩, h1⟩ := RdV.reads I a r1
      obtain ⟨⟨bs, rb⟩, h2⟩ := RdVs.reads I b r2
      exact ⟨⟨_, .cons ra rb⟩, by simp only [PyData.hasDictAll, h1, h2, Bool.or_self]⟩
end
end
end L2

namespace L2
open PySem PySem.Spec PyProof.Rows
structure FnOkC (P : Program) (w : World) (K : PySem.W.Frag) (mg : Str → Option Value) (base : Heap) (CX : CXT) (k : Nat) (f : Addr) (fd : FuncData) (ps : List Str) (sp : Sp) : Prop where
  len : ∀ vs H Q E, sp vs H Q E → vs.length = ps.length
  run : ∀ (outer : List Env) (s : Shared) (H : Hp) (args : Args) (us : List Value) (vs : List V) (Q : VK) (E : XK), Room k callerA → Env0 P w K mg base callerA outer s H → BindsTo s fd args (ps.zip us) → Vals vs us → sp vs H Q E →
    codeAny (model P w) callerA (.call (.ref f) args) (CR CX outer P w H s Q E) s
section
variable {P : Program} {w : World} {K : PySem.W.Frag} {mg : Str → Option Value} {base : Heap}
end
end L2

namespace Mr
open PySem L2
theorem bt_len : bootBuiltins "len" = some (.builtin "len") := by decide +kernel
theorem bt_all : bootBuiltins "all" = some (.builtin "all") := by decide +kernel
theorem bt_max : bootBuiltins "max" = some (.builtin "max") := by decide +kernel
theorem bt_min : bootBuiltins "min" = some (.builtin "min") := by decide +kernel
theorem bt_divmod : bootBuiltins "divmod" = some (.builtin "divmod") := by decide +kernel
theorem bt_isinstance : bootBuiltins "isinstance" = some (.builtin "isinstance") := by decide +kernel
theorem bt_str : bootBuiltins "str" = some (.type "str") := by decide +kernel
theorem bt_int : bootBuiltins "int" = some (.type "int") := by decide +kernel
theorem e_nil : ("" : Str) = tx [] := by decide +kernel
/-- letters a to z -/
def Let (l : List Nat) : Prop := ∀ c ∈ l, 97 ≤ c ∧ c ≤ 122
/-- all that is tracked, but what stands at b, is as it was -/
def But (b : Addr) (H H' : Hp) : Prop := ∀ c o, H c = some o → c ≠ b → H' c = some o
theorem But.trans {b : Addr} {H H1 H2 : Hp} (x : But b H H1) (y : But b H1 H2) : But b H H2 := fun c o e n => y c o (x c o e n) n
theorem cut_to {l : List Nat} (k : Nat) : cutL l none (some (k : Int)) = l.take k := by
  unfold cutL
  rw [HT.sIx_nat, HT.sIx_none, Nat.sub_zero, List.drop_zero]
  by_cases h : k ≤ l.length
  · rw [Nat.min_eq_left h]
  · rw [Nat.min_eq_right (by omega), List.take_of_length_le (Nat.le_refl _), List.take_of_length_le (by omega)]
theorem cut_le (l : List Nat) (lo hi : Option Int) : (cutL l lo hi).length ≤ l.length := by
  unfold cutL
  rw [List.length_take, List.length_drop]
  omega
section
variable (K : PySem.W.Frag)
def spCell : Sp := fun vs H Q _ => ∃ (a : Addr) (ns : List Int) (k : Int), vs = [.ref a, .int k] ∧ SqL K H a (ns.map V.int) ∧ 0 ≤ k ∧ ∀ i, Q (.int i) H
def spMix : Sp := fun vs H Q _ => ∃ (c k : Int), vs = [.int c, .int k] ∧ 0 ≤ k ∧ k ≤ 1000 ∧ ∀ (i : Int) (H' : Hp), 0 ≤ i → Same H H' → Q (.int i) H'
def spBox : Sp := fun vs H Q _ => ∃ (a : Addr) (ns : List Int) (k : Int), vs = [.ref a, .int k] ∧ SqL K H a (ns.map V.int) ∧ 0 ≤ k ∧ ∀ (b : Addr) (n : Int) (H' : Hp), 0 ≤ n → H b = none → H' b = some (.lst [.int n]) → Same H H' → Q (.ref b) H'
def spTake : Sp := fun vs H Q _ => ∃ (b : Addr) (n m : Int), vs = [.ref b, .int m] ∧ H b = some (.lst [.int n]) ∧ 0 ≤ n ∧ 0 < m ∧ m < 1000000 ∧
  ∀ (d n' : Int) (H' : Hp), 0 ≤ d → d < m → 0 ≤ n' → H' b = some (.lst [.int n']) → But b H H' → Q (.int d) H'
def spTruth : Sp := fun vs H Q _ => ∃ (a b : Bool), vs = [.bl a, .bl b] ∧ Q (.bl (decide (a = b))) H
def spBehind : Sp := fun vs H Q _ => ∃ (l : List Nat), vs = [.str (tx l)] ∧ l.length ≤ sizeLine ∧ Q (.str (tx l.reverse)) H
def spAlike : Sp := fun vs H Q _ => ∃ (l : List Nat), vs = [.str (tx l)] ∧ l.length ≤ 1000000 ∧ ∀ H', Same H H' → Q (.bl (decide (l = l.reverse))) H'
def spClosed : Sp := fun vs H Q _ => ∃ (l : List Nat), vs = [.str (tx l)] ∧ Let l ∧ l.length ≤ 10000 ∧ ∀ (m : List Nat) (H' : Hp), Let m → m.length ≤ 2 * l.length → Same H H' → Q (.str (tx m)) H'
def spRow : Sp := fun vs H Q _ => ∃ (b : Addr) (n most : Int), vs = [.ref b, .int most] ∧ H b = some (.lst [.int n]) ∧ 0 ≤ n ∧ 0 ≤ most ∧ most ≤ 1000 ∧
  ∀ (m : List Nat) (n' : Int) (H' : Hp), Let m → (m.length : Int) ≤ most → 0 ≤ n' → H' b = some (.lst [.int n']) → But b H H' → Q (.str (tx m)) H'
end
theorem int_at {ns : List Int} {k : Int} (h0 : 0 ≤ k) (h1 : k < (ns.map V.int).length) : ∃ z, atI (ns.map V.int) k = some (V.int z) := by
  obtain ⟨j, rfl⟩ := Int.eq_ofNat_of_zero_le h0
  have hj : j < ns.length := by rw [List.length_map] at h1; omega
  exact ⟨ns[j], atI_nat (by rw [List.getElem?_map, List.getElem?_eq_getElem hj]; rfl)⟩
theorem at_ofInt {α : Type} {xs : List α} {k : Int} (h0 : 0 ≤ k) (h1 : k < xs.length) : ∃ z, atI xs k = some z ∧ z ∈ xs := by
  obtain ⟨j, rfl⟩ := Int.eq_ofNat_of_zero_le h0
  have hj : j < xs.length := by omega
  exact ⟨xs[j], atI_nat (List.getElem?_eq_getElem hj), List.getElem_mem hj⟩
theorem yes_ok {σ : St} {H : Hp} {Q : Bool → Hp → Prop} (h : Q true H) : tYes σ H Q := h
theorem e_a : ("a" : Str) = tx [97] := by decide +kernel
/-- the odd things -/
inductive Odd (H : Hp) : V → Prop
  | non : Odd H .non
  | bl (b : Bool) : Odd H (.bl b)
  | int (i : Int) (h : i = 0 ∨ i = 10 ^ 39 ∨ i = -1) : Odd H (.int i)
  | str (l : List Nat) (h : l = [65] ∨ l = [97, 32, 98] ∨ l = [97, 10] ∨ l = [49]) : Odd H (.str (tx l))
  | long : Odd H (.str (tx (repL [97] 201)))
  | la (p : Addr) (h : H p = some (.lst [.str (tx [97])])) : Odd H (.ref p)
  | ta (p : Addr) (h : H p = some (.tup [.str (tx [97])])) : Odd H (.ref p)
  | da (p : Addr) (h : H p = some (.dK [(Sum.inr (tx [97]), .int 1)])) : Odd H (.ref p)
  | t01 (p : Addr) (h : H p = some (.tup [.int 0, .int 1])) : Odd H (.ref p)
  | l0 (p : Addr) (h : H p = some (.lst [])) : Odd H (.ref p)
def spOdd : Sp := fun vs H Q _ => ∃ (b : Addr) (n : Int), vs = [.ref b] ∧ H b = some (.lst [.int n]) ∧ 0 ≤ n ∧
  ∀ (x : V) (n' : Int) (H' : Hp), Odd H' x → 0 ≤ n' → H' b = some (.lst [.int n']) → But b H H' → Q x H'
def lets : List Nat := [97, 98, 99, 100, 101, 102, 103, 104, 105, 106, 107, 108, 109, 110, 111, 112, 113, 114, 115, 116, 117, 118, 119, 120, 121, 122]
theorem e_lets : ("abcdefghijklmnopqrstuvwxyz" : Str) = tx lets := by decide +kernel
theorem mem_lets {c : Nat} : c ∈ lets ↔ 97 ≤ c ∧ c ≤ 122 := by
  rw [show lets = (List.range 26).map (97 + ·) from rfl, List.mem_map]
  constructor
  · rintro ⟨i, hi, rfl⟩
    have := List.mem_range.mp hi
    omega
  · rintro ⟨h1, h2⟩
    exact ⟨c - 97, List.mem_range.mpr (by omega), by omega⟩
def rowL (l : List Nat) : Bool := decide (l.length ≤ 200) && l.all fun c => decide (c ∈ lets)
def rowV : V → Bool
  | .str z => rowL z.cps.toList
  | _ => false
def mirV : V → Bool
  | .str z => rowL z.cps.toList && (!decide (z.cps.toList = []) && decide (z.cps.toList = z.cps.toList.reverse))
  | _ => false
theorem rowL_iff {l : List Nat} : rowL l = true ↔ l.length ≤ 200 ∧ Let l := by
  unfold rowL
  rw [Bool.and_eq_true, decide_eq_true_iff, List.all_eq_true]
  constructor
  · intro h
    exact ⟨h.1, fun c hc => mem_lets.mp (of_decide_eq_true (h.2 c hc))⟩
  · intro h
    exact ⟨h.1, fun c hc => decide_eq_true (mem_lets.mpr (h.2 c hc))⟩
section
variable (K : PySem.W.Frag)
/-- a text of moderate length, or a thing that is no text -/
def Thing (H : Hp) (x : V) : Prop := (∃ l : List Nat, x = .str (tx l) ∧ l.length ≤ 100000) ∨ (rowV x = false ∧ mirV x = false ∧ ∃ t, TyOf K H x t ∧ PySem.W.kitOne K t (.type "str") = some false)
def spIsRow : Sp := fun vs H Q _ => ∃ x, vs = [x] ∧ Thing K H x ∧ ∀ H', Same H H' → Q (.bl (rowV x)) H'
def spIsMirror : Sp := fun vs H Q _ => ∃ x, vs = [x] ∧ Thing K H x ∧ ∀ H', Same H H' → Q (.bl (mirV x)) H'
def spNeed : Sp := fun vs H Q _ => ∃ l : List Nat, vs = [.str (tx l)] ∧ rowL l = true ∧ ∀ H', Same H H' → Q .non H'
def spBack : Sp := fun vs H Q _ => ∃ l : List Nat, vs = [.str (tx l)] ∧ rowL l = true ∧ ∀ H', Same H H' → Q (.str (tx l.reverse)) H'
end
section
variable {P : Program} {w : World} {K : PySem.W.Frag} {mg : Str → Option Value} {base : Heap}
end
section
variable {P : Program} {w : World} {K : PySem.W.Frag} {mg : Str → Option Value} {base : Heap}
theorem row_thing {H : Hp} {l : List Nat} (h : rowL l = true) : Thing K H (.str (tx l)) := .inl ⟨l, rfl, by have := (rowL_iff.mp h).1; omega⟩
end
theorem same_but {b : Addr} {H H1 H2 : Hp} (s : Same H H1) (fr : H b = none) (k : But b H1 H2) : Same H H2 := fun c o e => k c o (s c o e) (ne_of_none e fr)
def spLaw (K : PySem.W.Frag) : Sp := fun vs H Q _ => ∃ (a : Addr) (ns : List Int), vs = [.ref a] ∧ SqL K H a (ns.map V.int) ∧ ns.length ≤ 63 ∧ ∀ H', Q (.bl true) H'
section
variable {P : Program} {w : World} {K : PySem.W.Frag} {mg : Str → Option Value} {base : Heap}
end
end Mr

namespace Mr
open PySem L2
/-- plain values -/
def Scal : V → Prop
  | .non => True
  | .bl _ => True
  | .int _ => True
  | .str _ => True
  | _ => False
def wholeV : V → Bool
  | .int _ => true
  | _ => false
/-- a stretch of a row of n signs -/
def stL (n : Int) : List V → Bool
  | [.int i, .int j] => decide (0 ≤ i) && (decide (i ≤ j) && decide (j ≤ n))
  | _ => false
def cutAl (l : List Nat) : List V → Bool
  | [.int i, .int j] => decide (cutL l (some i) (some j) = (cutL l (some i) (some j)).reverse)
  | _ => false
def rdL (l : List Nat) (xs : List V) : Bool := stL (l.length : Int) xs && cutAl l xs
section
variable (K : PySem.W.Frag)
def NoTup (H : Hp) (x : V) : Prop := ∃ t, TyOf K H x t ∧ PySem.W.kitOne K t (.type "tuple") = some false
def spWhole : Sp := fun vs H Q _ => ∃ x, vs = [x] ∧ Scal x ∧ Q (.bl (wholeV x)) H
def spStretch : Sp := fun vs H Q _ => ∃ (x : V) (n : Int), vs = [x, .int n] ∧ ((NoTup K H x ∧ Q (.bl false) H) ∨ ∃ p xs, x = .ref p ∧ H p = some (.tup xs) ∧ (xs.length = 2 → ∀ y ∈ xs, Scal y) ∧ Q (.bl (stL n xs)) H)
def spReads : Sp := fun vs H Q _ => ∃ (l : List Nat) (x : V), vs = [.str (tx l), x] ∧ rowL l = true ∧ ((NoTup K H x ∧ ∀ H', Same H H' → Q (.bl false) H') ∨ ∃ p xs, x = .ref p ∧ H p = some (.tup xs) ∧ (xs.length = 2 → ∀ y ∈ xs, Scal y) ∧ ∀ H', Same H H' → Q (.bl (rdL l xs)) H')
end
end Mr

namespace Mr
open PySem L2
/-! readings that only lay new things -/
def EOk (σ : St) (Φ : Hp → V → Prop) (te : TE) : Prop := ∀ (H : Hp) (Q : VK), (∀ x H', Same H H' → Φ H' x → Q x H') → te σ H Q
def AOk (σ : St) (Φ : Hp → V → Prop) (n : Nat) (t : TA) : Prop := ∀ (H : Hp) (Q : List V → Hp → Prop), (∀ xs H', Same H H' → xs.length = n → (∀ x ∈ xs, Φ H' x) → Q xs H') → t σ H Q
section
variable {σ : St} {Φ : Hp → V → Prop} {te : TE} {t : TA} {n : Nat}
end
/-- the things that are looked at as stretches, in the row l -/
inductive Th2 (l : List Nat) (H : Hp) : V → Prop
  | tup (p : Addr) (xs : List V) (h : H p = some (.tup xs)) (hs : ∀ y ∈ xs, Scal y) (g : rdL l xs = (eqVs xs [.int 0, .int 1] && decide (0 < l.length))) : Th2 l H (.ref p)
  | nest (p r : Addr) (zs : List V) (h : H p = some (.tup [.ref r])) (h' : H r = some (.tup zs)) : Th2 l H (.ref p)
  | lst (p : Addr) (xs : List V) (h : H p = some (.lst xs)) : Th2 l H (.ref p)
  | dk (p : Addr) (kvs : List (Key × V)) (h : H p = some (.dK kvs)) : Th2 l H (.ref p)
  | non : Th2 l H .non
  | bl (b : Bool) : Th2 l H (.bl b)
  | int (i : Int) : Th2 l H (.int i)
  | str (z : Str) : Th2 l H (.str z)
section
variable {K : PySem.W.Frag}
end
end Mr

namespace Mr
open PySem L2
/-- n, n - 1, .. 1 -/
def downs (n : Nat) : List Nat := (List.range n).map fun i => n - i
theorem downs_len (n : Nat) : (downs n).length = n := by simp [downs]
theorem downs_take {n i : Nat} (h : i < n) : (downs n).take (i + 1) = (downs n).take i ++ [n - i] := by
  rw [List.take_succ]
  congr 1
  unfold downs
  rw [List.getElem?_map, List.getElem?_range h]
  rfl
theorem downs_all (n : Nat) : (downs n).take n = downs n := List.take_of_length_le (by rw [downs_len]; exact Nat.le_refl _)
theorem filt_take {n i : Nat} (p : Nat → Bool) (h : i < n) : ((downs n).take (i + 1)).filter p = ((downs n).take i).filter p ++ (if p (n - i) = true then [n - i] else []) := by
  rw [downs_take h, List.filter_append]
  congr 1
  by_cases hp : p (n - i) = true
  · rw [List.filter_cons_of_pos hp, if_pos hp]; rfl
  · rw [List.filter_cons_of_neg hp, if_neg hp]; rfl
def lensV (ks : List Nat) : List V := ks.map fun (k : Nat) => V.int (k : Int)
theorem lensV_app (a b : List Nat) : lensV (a ++ b) = lensV a ++ lensV b := List.map_append
theorem lensV_len (ks : List Nat) : (lensV ks).length = ks.length := by simp [lensV]
theorem lensV_flat (ks : List Nat) : (lensV ks).all flatV = true := by
  rw [List.all_eq_true]
  intro x hx
  obtain ⟨k, _, rfl⟩ := List.mem_map.mp hx
  rfl
def bordersN (l : List Nat) : List Nat := (downs (l.length - 1)).filter fun k => decide (l.take k = l.drop (l.length - k))
def endsN (l : List Nat) : List Nat := (downs l.length).filter fun k => decide (l.drop (l.length - k) = (l.drop (l.length - k)).reverse)
def beginsN (l : List Nat) : List Nat := (downs l.length).filter fun k => decide (l.take k = (l.take k).reverse)
theorem filt_le (n : Nat) (p : Nat → Bool) : ((downs n).filter p).length ≤ n := Nat.le_trans (List.length_filter_le _ _) (Nat.le_of_eq (downs_len n))
/-- a def that tells a list of lengths of a row, a new one -/
def spLens (f : List Nat → List Nat) : Sp := fun vs H Q _ => ∃ l : List Nat, vs = [.str (tx l)] ∧ rowL l = true ∧ ∀ (p : Addr) (H' : Hp), H p = none → H' p = some (.lst (lensV (f l))) → Same H H' → Q (.ref p) H'
theorem same_upd {H H' : Hp} {p : Addr} {o : HO} (s : Same H H') (h : H p = none) : Same H (upd H' p o) := fun c u e => by
  rw [upd_ne (ne_of_none e h)]
  exact s c u e
section
variable {K : PySem.W.Frag}
end
end Mr

namespace Mr
/-! stretches that read alike, by places; the reach around a middle -/
def PalI (l : List Nat) (a b : Nat) : Prop := ∀ i, a ≤ i → i < b → l[i]? = l[a + b - 1 - i]?
def sub (l : List Nat) (a b : Nat) : List Nat := (l.drop a).take (b - a)
theorem sub_len {l : List Nat} {a b : Nat} (hb : b ≤ l.length) : (sub l a b).length = b - a := by
  unfold sub
  rw [List.length_take, List.length_drop]
  omega
theorem sub_at {l : List Nat} {a b i : Nat} (hi : i < b - a) : (sub l a b)[i]? = l[a + i]? := by
  unfold sub
  rw [List.getElem?_take_of_lt hi, List.getElem?_drop]
theorem pal_iff {l : List Nat} {a b : Nat} (hb : b ≤ l.length) : sub l a b = (sub l a b).reverse ↔ PalI l a b := by
  have hn := sub_len (a := a) hb
  constructor
  · intro h i h1 h2
    have e1 := sub_at (l := l) (a := a) (b := b) (i := i - a) (by omega)
    have e2 : (sub l a b).reverse[i - a]? = (sub l a b)[(sub l a b).length - 1 - (i - a)]? := List.getElem?_reverse (by omega)
    rw [← h, e1, hn, sub_at (by omega)] at e2
    have x1 : a + (i - a) = i := by omega
    have x2 : a + (b - a - 1 - (i - a)) = a + b - 1 - i := by omega
    rw [x1, x2] at e2
    exact e2
  · intro h
    apply List.ext_getElem?
    intro i
    by_cases hi : i < b - a
    · rw [List.getElem?_reverse (by omega), hn, sub_at hi, sub_at (by omega)]
      have := h (a + i) (by omega) (by omega)
      rw [this]
      congr 1
      omega
    · rw [List.getElem?_eq_none (by omega), List.getElem?_eq_none (by rw [List.length_reverse]; omega)]
theorem PalI.inner {l : List Nat} {a b c d : Nat} (h : PalI l a b) (he : a + b = c + d) (hc : a ≤ c) : PalI l c d := fun i h1 h2 => by
  have := h i (by omega) (by omega)
  rw [this, he]
/-- going outward from a stretch that reads alike -/
def grow (l : List Nat) : Nat → Nat → Nat
  | 0, b => b
  | f + 1, b => if b < l.length ∧ l[f]? = l[b]? then grow l f (b + 1) else b - (f + 1)
theorem grow_spec {l : List Nat} : ∀ {f b : Nat}, f ≤ b → b ≤ l.length → PalI l f b → ∀ {a c : Nat}, a + c = f + b → a ≤ c → c ≤ l.length → (PalI l a c ↔ c - a ≤ grow l f b)
  | 0, b, _, _, hp, a, c, he, hac, _ => by
    unfold grow
    exact ⟨fun _ => by omega, fun _ => hp.inner (by omega) (by omega)⟩
  | f + 1, b, hfb, hb, hp, a, c, he, hac, hc => by
    unfold grow
    by_cases hg : b < l.length ∧ l[f]? = l[b]?
    · rw [if_pos hg]
      refine grow_spec (by omega) (by omega) ?_ (by omega) hac hc
      intro i h1 h2
      by_cases e1 : i = f
      · subst e1
        have x : i + (b + 1) - 1 - i = b := by omega
        rw [x]; exact hg.2
      · by_cases e2 : i = b
        · subst e2
          have x : f + (i + 1) - 1 - i = f := by omega
          rw [x]; exact hg.2.symm
        · have := hp i (by omega) (by omega)
          rw [this]
          congr 1
          omega
    · rw [if_neg hg]
      constructor
      · intro h
        apply Nat.le_of_not_lt
        intro hlt
        apply hg
        refine ⟨by omega, ?_⟩
        have := h f (by omega) (by omega)
        rw [this]
        congr 1
        omega
      · intro h
        exact hp.inner (by omega) (by omega)
def reachN (l : List Nat) (m : Nat) : Nat := grow l ((m + 1) / 2) (m + 1 - (m + 1) / 2)
theorem reach_spec {l : List Nat} {m a c : Nat} (hm : m + 1 < 2 * l.length) (he : a + c = m + 1) (hac : a ≤ c) (hc : c ≤ l.length) : PalI l a c ↔ c - a ≤ reachN l m := by
  unfold reachN
  refine grow_spec (by omega) (by omega) ?_ (by omega) hac hc
  intro i h1 h2
  congr 1
  omega
def reachesN (l : List Nat) : List Nat := (List.range (2 * l.length - 1)).map (reachN l)
theorem reachesN_at {l : List Nat} {m : Nat} (h : m < 2 * l.length - 1) : (reachesN l)[m]? = some (reachN l m) := by
  unfold reachesN
  rw [List.getElem?_map, List.getElem?_range h]
  rfl
theorem sub_take {l : List Nat} {a b : Nat} : (l.take b).drop a = sub l a b := by
  unfold sub
  rw [List.drop_take]
/-- the ends of the signs ahead of b, by the reaches of the whole -/
theorem ends_ahead_eq {l : List Nat} {b : Nat} (hb : b ≤ l.length) : endsN (l.take b) = (downs b).filter fun k => decide (k ≤ reachN l (b - k + b - 1)) := by
  unfold endsN
  have e : (l.take b).length = b := by rw [List.length_take]; omega
  rw [e]
  apply List.filter_congr
  intro k hk
  obtain ⟨i, hi, rfl⟩ := List.mem_map.mp hk
  have hi' := List.mem_range.mp hi
  have h1 := pal_iff (l := l) (a := b - (b - i)) (b := b) hb
  have h2 := reach_spec (l := l) (m := b - (b - i) + b - 1) (a := b - (b - i)) (c := b) (by omega) (by omega) (by omega) hb
  rw [sub_take]
  have h3 : b - (b - (b - i)) = b - i := by omega
  rw [h3] at h2
  exact decide_eq_decide.mpr (h1.trans h2)
end Mr

namespace Mr
open PySem L2
def spReachA : Sp := fun vs H Q _ => ∃ (l : List Nat) (m : Nat), vs = [.str (tx l), .int (m : Int)] ∧ rowL l = true ∧ m + 1 < 2 * l.length ∧ Q (.int ((reachN l m : Nat) : Int)) H
/-- ends_ahead: of the reaches of a row of at most 200 signs -/
def spEA : Sp := fun vs H Q _ => ∃ (p : Addr) (l : List Nat) (b : Nat), vs = [.ref p, .int (b : Int)] ∧ l.length ≤ 200 ∧ b ≤ l.length ∧ H p = some (.lst (lensV (reachesN l))) ∧
  ∀ (p' : Addr) (H' : Hp), H p' = none → H' p' = some (.lst (lensV (endsN (l.take b)))) → Same H H' → Q (.ref p') H'
end Mr

namespace Mr
/-! sums over 0 .. n - 1 -/
def sm : Nat → (Nat → Nat) → Nat
  | 0, _ => 0
  | n + 1, f => sm n f + f n
/-- does the stretch read alike -/
def palB (l : List Nat) (a c : Nat) : Bool := decide (sub l a c = (sub l a c).reverse)
/-- how many stretches are mirrors: by their first place -/
def manyN (l : List Nat) : Nat := sm l.length fun a => sm (l.length - a) fun j => if palB l a (a + 1 + j) = true then 1 else 0
/-- the first longest mirror stretch -/
def BestP (l : List Nat) (x y : Nat) : Prop := x < y ∧ y ≤ l.length ∧ PalI l x y ∧ ∀ a c, a < c → c ≤ l.length → PalI l a c → c - a < y - x ∨ (c - a = y - x ∧ x ≤ a)
/-- best so far, of those ahead of (i, j) -/
def BestSo (l : List Nat) (S : Nat → Nat → Prop) (x y : Nat) : Prop := S x y ∧ PalI l x y ∧ ∀ a c, S a c → PalI l a c → c - a < y - x ∨ (c - a = y - x ∧ x ≤ a)
end Mr

namespace Mr
open PySem L2
def spMany : Sp := fun vs H Q _ => ∃ l : List Nat, vs = [.str (tx l)] ∧ rowL l = true ∧ ∀ H', Same H H' → Q (.int ((manyN l : Nat) : Int)) H'
def spLongest : Sp := fun vs H Q _ => ∃ l : List Nat, vs = [.str (tx l)] ∧ rowL l = true ∧ (l = [] → ∀ H', Same H H' → Q .non H') ∧
  ∀ (x y : Nat) (p : Addr) (H' : Hp), BestP l x y → H p = none → H' p = some (.tup [.int (x : Int), .int (y : Int)]) → Same H H' → Q (.ref p) H'
end Mr

namespace Mr
open PySem L2
/-- the stretches ahead of (i, i + 1 + t), in the order of two loops -/
def Ah (n i t : Nat) (x y : Nat) : Prop := x < y ∧ y ≤ n ∧ (x < i ∨ (x = i ∧ y < i + 1 + t))
def BestV (l : List Nat) (S : Nat → Nat → Prop) (H : Hp) (v : V) : Prop := (v = .non ∧ ∀ x y, S x y → ¬ PalI l x y) ∨ ∃ (p : Addr) (x y : Nat), v = .ref p ∧ H p = some (.tup [.int (x : Int), .int (y : Int)]) ∧ BestSo l S x y
section
variable {K : PySem.W.Frag}
end
end Mr

namespace Mr
open PySem L2
theorem lensV_at {ks : List Nat} {j : Nat} {x : V} (h : (lensV ks)[j]? = some x) : ∃ k : Nat, ks[j]? = some k ∧ x = .int (k : Int) := by
  unfold lensV at h
  rw [List.getElem?_map] at h
  cases e : ks[j]? with
  | none => rw [e] at h; cases h
  | some k => rw [e] at h; exact ⟨k, rfl, (Option.some.inj h).symm⟩
end Mr

namespace Mr
/-! ends, begins and borders of one another -/
theorem mem_downs {n k : Nat} : k ∈ downs n ↔ 1 ≤ k ∧ k ≤ n := by
  unfold downs
  rw [List.mem_map]
  constructor
  · rintro ⟨i, hi, rfl⟩
    have := List.mem_range.mp hi
    omega
  · rintro ⟨h1, h2⟩
    exact ⟨n - k, List.mem_range.mpr (by omega), by omega⟩
def sufB (l : List Nat) (k : Nat) : Bool := decide (l.drop (l.length - k) = (l.drop (l.length - k)).reverse)
theorem endsN_def (l : List Nat) : endsN l = (downs l.length).filter (sufB l) := rfl
/-- a sign more at the end -/
def moreB (l : List Nat) (c : Nat) (k : Nat) : Bool := decide (k < l.length ∧ l[l.length - k - 1]? = some c)
def dueN (l : List Nat) (c : Nat) : List Nat := ((endsN l).filter (moreB l c)).map (· + 2) ++ (if moreB l c 0 = true then [2] else []) ++ [1]
end Mr
namespace Mr
open PySem L2
/-- what is due behind j of the lengths, 0 and -1 -/
def dueTo (l : List Nat) (c j : Nat) : List Nat := (((endsN l).take j).filter (moreB l c)).map (· + 2) ++ (if (endsN l).length < j ∧ moreB l c 0 = true then [2] else []) ++ (if (endsN l).length + 1 < j then [1] else [])
end Mr

namespace Mr
/-! reaches turned about, within mirrors, in the middle -/
theorem rev_get {l : List Nat} {i : Nat} (h : i < l.length) : l.reverse[i]? = l[l.length - 1 - i]? := List.getElem?_reverse h
theorem pal_rev {l : List Nat} {a c : Nat} (hc : c ≤ l.length) (h : PalI l a c) : PalI l.reverse (l.length - c) (l.length - a) := by
  intro i h1 h2
  rw [rev_get (by omega), rev_get (by omega)]
  have := h (l.length - 1 - i) (by omega) (by omega)
  rw [this]
  congr 1
  omega
end Mr

namespace Mr
open PySem L2
def spSame : Sp := fun vs H Q _ => ∃ (x : V) (n : Int), vs = [x, .int n] ∧ Scal x ∧ Q (.bl (decide (x = .int n))) H
/-- are_reaches, of a list of plain values -/
def spAreL : Sp := fun vs H Q _ => ∃ (p : Addr) (xs : List V) (l : List Nat), vs = [.ref p, .str (tx l)] ∧ rowL l = true ∧ H p = some (.lst xs) ∧ (∀ x ∈ xs, Scal x) ∧ ∀ H', Same H H' → Q (.bl (decide (xs = lensV (reachesN l)))) H'
def spOpp : Sp := fun vs H Q _ => ∃ (p : Addr) (l : List Nat) (m : Nat), vs = [.str (tx l), .ref p, .int (m : Int)] ∧ l.length ≤ 200 ∧ m + 1 < 2 * l.length ∧ H p = some (.lst (lensV (reachesN l))) ∧ Q (.bl true) H
theorem lensV_get {ks : List Nat} {j k : Nat} (h : ks[j]? = some k) : (lensV ks)[j]? = some (.int (k : Int)) := by
  unfold lensV
  rw [List.getElem?_map, h]; rfl
end Mr

namespace L2
open PySem
end L2
namespace Mr
open PySem L2
/-- no whole number, by its kind: not even a truth -/
def NoInt (K : PySem.W.Frag) (H : Hp) (x : V) : Prop := wholeV x = false ∧ ∃ t, TyOf K H x t ∧ PySem.W.kitOne K t (.type "int") = some false
def spWholeG (K : PySem.W.Frag) : Sp := fun vs H Q _ => ∃ x, vs = [x] ∧ (Scal x ∨ NoInt K H x) ∧ Q (.bl (wholeV x)) H
/-- no middle of the row -/
def NoMid (K : PySem.W.Frag) (l : List Nat) (H : Hp) (x : V) : Prop := (Scal x ∨ NoInt K H x) ∧ ∀ m : Nat, x = .int (m : Int) → ¬ m + 1 < 2 * l.length
def spReachX (K : PySem.W.Frag) (C : Addr) : Sp := fun vs H Q E => ∃ (l : List Nat) (x : V), vs = [.str (tx l), x] ∧ rowL l = true ∧
  ((∃ m : Nat, x = .int (m : Int) ∧ m + 1 < 2 * l.length ∧ ∀ H', Same H H' → Q (.int ((reachN l m : Nat) : Int)) H') ∨ (NoMid K l H x ∧ ∀ H', Same H H' → E (.ref C) none H'))
def spReach1 : Sp := fun vs H Q _ => ∃ (l : List Nat) (m : Nat), vs = [.str (tx l), .int (m : Int)] ∧ rowL l = true ∧ m + 1 < 2 * l.length ∧ ∀ H', Same H H' → Q (.int ((reachN l m : Nat) : Int)) H'
def spToldM (K : PySem.W.Frag) : Sp := fun vs H Q _ => ∃ (l : List Nat) (x : V), vs = [.str (tx l), x] ∧ rowL l = true ∧ NoMid K l H x ∧ ∀ H', Same H H' → Q (.str "middle") H'
end Mr
namespace Mr
open PySem L2
end Mr

namespace Mr
open PySem L2
/-! groups of falling lengths -/
abbrev Gp := Int × Int × Int
def hd0 : List Int → Int
  | [] => 0
  | a :: _ => a
def stepsI : List Int → List Int
  | [] => []
  | a :: r => (a - hd0 r) :: stepsI r
def merge (x : Gp) : List Gp → List Gp
  | [] => [x]
  | y :: t => if y.2.1 = x.2.1 then (x.1, x.2.1, x.2.2 + y.2.2) :: t else x :: y :: t
def dueG : List Int → List Gp
  | [] => []
  | a :: r => merge (a, a - hd0 r, 1) (dueG r)
/-- one turn of the program's loop -/
def turnG (acc : List Gp) (l s : Int) : List Gp :=
  match acc.getLast? with
  | some g => if g.2.1 = s then acc.dropLast ++ [(g.1, s, g.2.2 + 1)] else acc ++ [(l, s, 1)]
  | none => [(l, s, 1)]
def runG : List Gp → List Int → List Gp
  | acc, [] => acc
  | acc, a :: r => runG (turnG acc a (a - hd0 r)) r
/-- what the loop has behind i turns -/
def toG (ls : List Int) (i : Nat) : List Gp := (List.range i).foldl (fun acc j => turnG acc ((ls[j]?).getD 0) (((stepsI ls)[j]?).getD 0)) []
/-- falling lengths -/
def Fall (ls : List Int) : Prop := (∀ l ∈ ls, 0 < l) ∧ ∀ (i : Nat) (a b : Int), ls[i]? = some a → ls[i + 1]? = some b → b < a
def gpV (g : Gp) : HO := .tup [.int g.1, .int g.2.1, .int g.2.2]
/-- xs: the groups gs, each a tuple -/
def GrpsV (H : Hp) (xs : List V) (gs : List Gp) : Prop := xs.length = gs.length ∧ ∀ (j : Nat) (x : V) (g : Gp), xs[j]? = some x → gs[j]? = some g → ∃ p : Addr, x = .ref p ∧ H p = some (gpV g)
end Mr

namespace Mr
open PySem L2
def posV : V → Bool
  | .int i => decide (0 < i)
  | _ => false
/-- are_lengths, of a list -/
def spAreLen (K : PySem.W.Frag) : Sp := fun vs H Q _ => ∃ x, vs = [x] ∧ ((∃ t, TyOf K H x t ∧ PySem.W.kitOne K t (.type "list") = some false ∧ ∀ H', Same H H' → Q (.bl false) H') ∨
  ∃ (p : Addr) (xs : List V), x = .ref p ∧ H p = some (.lst xs) ∧ xs.length ≤ 1000 ∧ (∀ y ∈ xs, Scal y ∨ NoInt K H y) ∧ (∀ ls : List Int, xs = ls.map V.int → Fall ls → ∀ H', Same H H' → Q (.bl true) H') ∧ ((¬ ∃ ls : List Int, xs = ls.map V.int ∧ Fall ls) → ∀ H', Same H H' → Q (.bl false) H'))
def spSteps : Sp := fun vs H Q _ => ∃ (p : Addr) (ls : List Int), vs = [.ref p] ∧ H p = some (.lst (ls.map V.int)) ∧ ls.length ≤ 1000 ∧ ∀ (p' : Addr) (H' : Hp), H p' = none → H' p' = some (.lst ((stepsI ls).map V.int)) → Same H H' → Q (.ref p') H'
/-- groups: of falling lengths the groups, else NoLengths -/
def spGroupsX (K : PySem.W.Frag) (C : Addr) : Sp := fun vs H Q E => ∃ x, vs = [x] ∧ ((∃ (p : Addr) (ls : List Int), x = .ref p ∧ H p = some (.lst (ls.map V.int)) ∧ ls.length ≤ 1000 ∧ Fall ls ∧ ∀ (p' : Addr) (H' : Hp) (xs : List V), H p' = none → H' p' = some (.lst xs) → GrpsV H' xs (dueG ls) → Same H H' → Q (.ref p') H') ∨
  ((∃ t, TyOf K H x t ∧ PySem.W.kitOne K t (.type "list") = some false) ∧ ∀ H', Same H H' → E (.ref C) none H') ∨
  (∃ (p : Addr) (xs : List V), x = .ref p ∧ H p = some (.lst xs) ∧ xs.length ≤ 1000 ∧ (∀ y ∈ xs, Scal y ∨ NoInt K H y) ∧ (¬ ∃ ls : List Int, xs = ls.map V.int ∧ Fall ls) ∧ ∀ H', Same H H' → E (.ref C) none H'))
def spGroups : Sp := fun vs H Q _ => ∃ (p : Addr) (ls : List Int), vs = [.ref p] ∧ H p = some (.lst (ls.map V.int)) ∧ ls.length ≤ 1000 ∧ Fall ls ∧ ∀ (p' : Addr) (H' : Hp) (xs : List V), H p' = none → H' p' = some (.lst xs) → GrpsV H' xs (dueG ls) → Same H H' → Q (.ref p') H'
theorem atI_last' {α : Type} {xs : List α} {v : α} (h : xs.getLast? = some v) : atI xs (-1) = some v := by
  obtain ⟨ys, rfl⟩ := List.getLast?_eq_some_iff.mp h
  exact atI_last ys v
end Mr
namespace Mr
open PySem L2
def spTakeB : Sp := fun vs H Q _ => ∃ (b : Addr) (n m : Int), vs = [.ref b, .int m] ∧ H b = some (.lst [.int n]) ∧ 0 ≤ n ∧ 0 < m ∧ m ≤ 10 ^ 40 ∧
  ∀ (d n' : Int) (H' : Hp), 0 ≤ d → d < m → 0 ≤ n' → H' b = some (.lst [.int n']) → But b H H' → Q (.int d) H'
/-- falling lengths drawn from the box -/
def spLensD : Sp := fun vs H Q _ => ∃ (b : Addr) (n : Int), vs = [.ref b] ∧ H b = some (.lst [.int n]) ∧ 0 ≤ n ∧
  ∀ (p : Addr) (ls : List Int) (n' : Int) (H' : Hp), ls.length ≤ 1000 → Fall ls → H p = none → H' p = some (.lst (ls.map V.int)) → 0 ≤ n' → H' b = some (.lst [.int n']) → But b H H' → Q (.ref p) H'
def spDueG : Sp := fun vs H Q _ => ∃ (p : Addr) (ls : List Int), vs = [.ref p] ∧ H p = some (.lst (ls.map V.int)) ∧ ls.length ≤ 1000 ∧
  ∀ (p' : Addr) (H' : Hp) (xs : List V), H p' = none → H' p' = some (.lst xs) → GrpsV H' xs (dueG ls) → Same H H' → Q (.ref p') H'
end Mr

namespace Mr
open PySem L2
/-! the mirrors of a row in the order in which they come; their inner and their less -/
def topT (l : List Nat) (b : Nat) : List Nat := sub l (b - ((endsN (l.take b))[0]?).getD 0) b
def mirs (l : List Nat) : Nat → List (List Nat)
  | 0 => []
  | b + 1 => if topT l (b + 1) ∈ mirs l b then mirs l b else mirs l b ++ [topT l (b + 1)]
/-- a mirror that ends at c -/
def EndsAt (l : List Nat) (c : Nat) (t : List Nat) : Prop := ∃ k, 1 ≤ k ∧ k ≤ c ∧ t = sub l (c - k) c ∧ PalI l (c - k) c
theorem ends_mem {l : List Nat} {c k : Nat} (hc : c ≤ l.length) : k ∈ endsN (l.take c) ↔ 1 ≤ k ∧ k ≤ c ∧ PalI l (c - k) c := by
  have e : (l.take c).length = c := by rw [List.length_take]; omega
  rw [endsN_def, List.mem_filter, mem_downs, e]
  unfold sufB
  rw [decide_eq_true_iff, e, sub_take, pal_iff hc]
  exact ⟨fun ⟨⟨a, b⟩, d⟩ => ⟨a, b, d⟩, fun ⟨a, b, d⟩ => ⟨⟨a, b⟩, d⟩⟩
def inner (t : List Nat) : List Nat := (t.drop 1).take (t.length - 2)
def lessN (t : List Nat) : List Nat := t.take (((endsN t)[1]?).getD 0)
/-- where a text stands in the list -/
def idxO (ms : List (List Nat)) (x : List Nat) : Option Nat := if x ∈ ms then some (ms.idxOf x) else none
abbrev Ent := List Nat × Option Nat × Option Nat
def entT (ms : List (List Nat)) (t : List Nat) : Ent := (t, idxO ms (inner t), idxO ms (lessN t))
def treeN (l : List Nat) : List Ent := (mirs l l.length).map (entT (mirs l l.length))
end Mr

namespace L2
open PySem PySem.Spec PyProof.Rows PySem.SeqAt PySem.MeetsSeq
section
variable {X : Cx}
def isS (z : Str) : Value → Bool
  | .str c _ => c == z
  | _ => false
/-- xs.index(text) of texts -/
def rIndexS : V → List V → Hp → VK → Prop := fun x vs H Q => ∃ (l : Addr) (ts : List (List Nat)) (t : List Nat) (j : Nat), x = .ref l ∧ vs = [.str (tx t)] ∧ H l = some (.lst (ts.map fun t => V.str (tx t))) ∧ ts[j]? = some t ∧ (∀ m, m < j → ts[m]? ≠ some t) ∧ Q (.int (j : Nat)) H
end
end L2
namespace Mr
open PySem L2
/-- a list of objects that stand for es, each by f -/
def ReV {α : Type} (f : α → HO) (H : Hp) (xs : List V) (es : List α) : Prop := xs.length = es.length ∧ ∀ (j : Nat) (x : V) (e : α), xs[j]? = some x → es[j]? = some e → ∃ p : Addr, x = .ref p ∧ H p = some (f e)
theorem ReV.mono {α : Type} {f : α → HO} {H H' : Hp} {xs : List V} {es : List α} (h : ReV f H xs es) (k : ∀ p e, H p = some (f e) → H' p = some (f e)) : ReV f H' xs es := ⟨h.1, fun j x g h1 h2 => let ⟨p, e, q⟩ := h.2 j x g h1 h2; ⟨p, e, k _ _ q⟩⟩
theorem ReV.nil {α : Type} {f : α → HO} {H : Hp} : ReV f H [] [] := ⟨rfl, fun j x g h => by simp at h⟩
theorem ReV.push {α : Type} {f : α → HO} {H : Hp} {xs : List V} {gs : List α} {p : Addr} {g : α} (h : ReV f H xs gs) (hp : H p = some (f g)) : ReV f H (xs ++ [.ref p]) (gs ++ [g]) := by
  refine ⟨by simp [h.1], fun j x g' h1 h2 => ?_⟩
  by_cases hj : j < xs.length
  · rw [List.getElem?_append_left hj] at h1
    rw [List.getElem?_append_left (by rw [← h.1]; exact hj)] at h2
    exact h.2 j x g' h1 h2
  · rw [List.getElem?_append_right (by omega)] at h1
    rw [List.getElem?_append_right (by rw [← h.1]; omega), ← h.1] at h2
    have e0 : j - xs.length = 0 := by
      have := (List.getElem?_eq_some_iff.mp h1).1
      simp at this; omega
    rw [e0] at h1 h2
    have e1 : V.ref p = x := Option.some.inj h1
    have e2 : g = g' := Option.some.inj h2
    subst e1 e2
    exact ⟨p, rfl, hp⟩
def optV : Option Nat → V
  | none => .non
  | some i => .int (i : Int)
def entV (e : Ent) : HO := .tup [.str (tx e.1), optV e.2.1, optV e.2.2]
abbrev TreeV := ReV entV
def spTree : Sp := fun vs H Q _ => ∃ l : List Nat, vs = [.str (tx l)] ∧ rowL l = true ∧ ∀ (p : Addr) (xs : List V) (H' : Hp), H p = none → H' p = some (.lst xs) → TreeV H' xs (treeN l) → Same H H' → Q (.ref p) H'
def txV (ms : List (List Nat)) : List V := ms.map fun t => V.str (tx t)
/-- _law_mirrors -/
def spMirs : Sp := fun vs H Q _ => ∃ l : List Nat, vs = [.str (tx l)] ∧ rowL l = true ∧ ∀ (p : Addr) (H' : Hp), H p = none → H' p = some (.lst (txV (mirs l l.length))) → Same H H' → Q (.ref p) H'
/-- the dict of the numbers -/
def NumD (H : Hp) (p : Addr) (ms : List (List Nat)) : Prop := ∃ kvs : List (Key × V), H p = some (.dK kvs) ∧ kvs.length ≤ 1000 + ms.length ∧ ∀ x, valV kvs (Sum.inr (tx x)) = (idxO ms x).map fun i => V.int (i : Int)
/-- the tree as data -/
def entD (e : Ent) : PyData := .tuple [.str (tx e.1), (match e.2.1 with | none => .none | some i => .int (i : Int)), (match e.2.2 with | none => .none | some i => .int (i : Int))]
end Mr

namespace Mr
open PySem L2
/-! the tree's data: it may be shown, and is not too long -/
def optD (o : Option Nat) : PyData := match o with | none => .none | some i => .int (i : Int)
/-- may be shown: n deep at most, of weight w at most -/
def ShOk (d : PyData) (n w : Nat) : Prop := d.showable = true ∧ d.depth ≤ n ∧ d.leavesShort 13 = true ∧ d.weight ≤ w
def ShAll (ds : List PyData) (n w : Nat) : Prop := PyData.showableAll ds = true ∧ PyData.depthAll ds ≤ n ∧ PyData.leavesShortAll 13 ds = true ∧ PyData.weightAll ds ≤ w
end Mr

namespace L2
open PySem PySem.Spec PyProof.Rows
section
variable {X : Cx} {K : PySem.W.Frag} {o e : Expr} {es : List Expr} {to : TE} {t : TA} {name : Str} {apos cpos : Pos} {T id : String} {r : V → List V → Hp → VK → Prop}
end
end L2
namespace Mr
open PySem L2
/-! the way of a mirror: its ends, by their numbers -/
def dueW (ms : List (List Nat)) (t : List Nat) : List Nat := (endsN t).map fun k => ms.idxOf (t.take k)
/-- the step behind number i of the way -/
def stepW (ms : List (List Nat)) (t : List Nat) (i : Nat) : Option Nat := ((endsN t)[i]?).map fun k => ms.idxOf (t.take k)
/-! number_of and way -/
def spNumX (K : PySem.W.Frag) (C : Addr) : Sp := fun vs H Q E => ∃ (l : List Nat) (x : V), vs = [.str (tx l), x] ∧ rowL l = true ∧
  ((∃ t : List Nat, x = .str (tx t) ∧ mirV x = true ∧ t.length ≤ 100000 ∧ ∀ H', Same H H' → Q (optV (idxO (mirs l l.length) t)) H') ∨ (Thing K H x ∧ mirV x = false ∧ ∀ H', Same H H' → E (.ref C) none H'))
def NoNum (K : PySem.W.Frag) (l : List Nat) (H : Hp) (x : V) : Prop := (Scal x ∨ NoInt K H x) ∧ ∀ m : Nat, x = .int (m : Int) → ¬ m < (mirs l l.length).length
def spWayX (K : PySem.W.Frag) (C : Addr) : Sp := fun vs H Q E => ∃ (l : List Nat) (x : V), vs = [.str (tx l), x] ∧ rowL l = true ∧
  ((∃ (j : Nat) (t : List Nat), x = .int (j : Int) ∧ (mirs l l.length)[j]? = some t ∧ ∀ (p : Addr) (H' : Hp), H p = none → H' p = some (.lst (lensV (dueW (mirs l l.length) t))) → Same H H' → Q (.ref p) H') ∨ (NoNum K l H x ∧ ∀ H', Same H H' → E (.ref C) none H'))
def spTold17 (K : PySem.W.Frag) : Sp := fun vs H Q _ => ∃ (k : Int) (l : List Nat) (x : V), vs = [.int k, .str (tx l), x] ∧ rowL l = true ∧
  ((k = 0 ∧ ((∃ t : List Nat, x = .str (tx t) ∧ mirV x = true ∧ t.length ≤ 100000 ∧ ∀ H', Same H H' → Q (optV (idxO (mirs l l.length) t)) H') ∨ (Thing K H x ∧ mirV x = false ∧ ∀ H', Same H H' → Q (.str "mirror") H'))) ∨
   (k = 1 ∧ ((∃ (j : Nat) (t : List Nat), x = .int (j : Int) ∧ (mirs l l.length)[j]? = some t ∧ ∀ (p : Addr) (H' : Hp), H p = none → H' p = some (.lst (lensV (dueW (mirs l l.length) t))) → Same H H' → Q (.ref p) H') ∨ (NoNum K l H x ∧ ∀ H', Same H H' → Q (.str "number") H'))))
/-! rows of a, b, z; texts made mirrors -/
def Abz (l : List Nat) : Prop := ∀ c ∈ l, c = 97 ∨ c = 98 ∨ c = 122
def spClosedP : Sp := fun vs H Q _ => ∃ (l : List Nat), vs = [.str (tx l)] ∧ l.length ≤ 10000 ∧ ∀ (m : List Nat) (H' : Hp), (∀ c ∈ m, c ∈ l) → m.length ≤ 2 * l.length → m = m.reverse → (l ≠ [] → m ≠ []) → Same H H' → Q (.str (tx m)) H'
def spClosedZ : Sp := fun vs H Q _ => ∃ (l : List Nat), vs = [.str (tx l)] ∧ Abz l ∧ l.length ≤ 10000 ∧ ∀ (m : List Nat) (H' : Hp), Abz m → m.length ≤ 2 * l.length → Same H H' → Q (.str (tx m)) H'
def spRowZ : Sp := fun vs H Q _ => ∃ (b : Addr) (n most : Int), vs = [.ref b, .int most] ∧ H b = some (.lst [.int n]) ∧ 0 ≤ n ∧ 0 ≤ most ∧ most ≤ 1000 ∧
  ∀ (m : List Nat) (n' : Int) (H' : Hp), Abz m → (m.length : Int) ≤ most → 0 ≤ n' → H' b = some (.lst [.int n']) → But b H H' → Q (.str (tx m)) H'
/-! lists of numbers, shown -/
def lensD (ks : List Nat) : PyData := .list (ks.map fun (k : Nat) => PyData.int (k : Int))
theorem e_z : ("z" : Str) = tx [122] := by decide +kernel
end Mr

namespace L2
open PySem PySem.Spec PyProof.Rows PySem.SeqAt PySem.MeetsSeq
/-! ### sorted of texts, endswith, == of lists that are the same or of unlike length -/
section
variable {X : Cx}
theorem bt_sorted : bootBuiltins "sorted" = some (.builtin "sorted") := by decide +kernel
def rEndsS : V → List V → Hp → VK → Prop := fun x vs H Q => ∃ t u : List Nat, x = .str (tx t) ∧ vs = [.str (tx u)] ∧ u.length ≤ t.length ∧ u = t.drop (t.length - u.length) ∧ Q (.bl true) H
/-- == of two lists that are the same, n deep below them, or of unlike length -/
def rEqDL (n : Nat) : R2 := fun x y H Q => ∃ p q xs ys, x = .ref p ∧ y = .ref q ∧ H p = some (.lst xs) ∧ H q = some (.lst ys) ∧ ((xs.length = ys.length ∧ (∀ (j : Nat) (u v : V), xs[j]? = some u → ys[j]? = some v → DSame H n u v) ∧ Q (.bl true) H) ∨ (xs.length ≠ ys.length ∧ Q (.bl false) H))
end
/-! what is sorted is one list -/
end L2

namespace Mr
open PySem L2
/-! the tree of a beginning; elder ones; the row turned about -/
/-! the row turned about has the same mirrors -/
end Mr

namespace Mr
open PySem L2
/-! trees looked at, entries looked at -/
def spElder : Sp := fun vs H Q _ => ∃ o : Option Nat, vs = [optV o, optV o] ∧ Q (.bl true) H
def spEntry : Sp := fun vs H Q _ => ∃ (p q : Addr) (e : Ent), vs = [.ref p, .ref q] ∧ H p = some (entV e) ∧ H q = some (entV e) ∧ Q (.bl true) H
def spIsTree : Sp := fun vs H Q _ => ∃ (p : Addr) (xs : List V) (l : List Nat), vs = [.ref p, .str (tx l)] ∧ rowL l = true ∧ H p = some (.lst xs) ∧
  ((TreeV H xs (treeN l) ∧ ∀ H', Same H H' → Q (.bl true) H') ∨ (xs.length ≠ (treeN l).length ∧ ∀ H', Same H H' → Q (.bl false) H'))
def spEntryR : Sp := fun vs H Q _ => ∃ (p : Addr) (xs : List V) (l : List Nat) (j : Nat), vs = [.ref p, .int (j : Int)] ∧ rowL l = true ∧ H p = some (.lst xs) ∧ TreeV H xs (treeN l) ∧ j < (mirs l l.length).length ∧ ∀ H', Same H H' → Q (.bl true) H'
def spNum1 : Sp := fun vs H Q _ => ∃ (l t : List Nat), vs = [.str (tx l), .str (tx t)] ∧ rowL l = true ∧ mirV (.str (tx t)) = true ∧ t.length ≤ 100000 ∧ ∀ H', Same H H' → Q (optV (idxO (mirs l l.length) t)) H'
def spWay1 : Sp := fun vs H Q _ => ∃ (l : List Nat) (j : Nat) (t : List Nat), vs = [.str (tx l), .int (j : Int)] ∧ rowL l = true ∧ (mirs l l.length)[j]? = some t ∧ ∀ (p : Addr) (H' : Hp), H p = none → H' p = some (.lst (lensV (dueW (mirs l l.length) t))) → Same H H' → Q (.ref p) H'
end Mr

namespace L2
open PySem PySem.Spec PyProof.Rows
/-! ### sorted(xs, reverse=True) of ints, set(xs) of ints, len of it -/
theorem ints_are : ∀ {ns : List Int} {us : List Value}, Vals (ns.map V.int) us → IntsAre us ns
  | [], _, r => by cases r; exact .nil
  | n :: ns, _, r => by
    cases r with
    | cons a b =>
      obtain ⟨k, rfl⟩ := a
      exact .cons _ _ (ints_are b)
theorem are_ints : ∀ {us : List Value} {ns : List Int}, IntsAre us ns → Vals (ns.map V.int) us
  | _, _, .nil => .nil
  | _, _, .cons y t r => .cons ⟨t, rfl⟩ (are_ints r)
section
variable {X : Cx} {x : Str} {p pos : Pos} {e : Expr} {es : List Expr} {kws : List Keyword} {t tk : TA} {id : String} {ks : List Str} {r : List V → List V → Hp → VK → Prop}
theorem bt_set : bootBuiltins "set" = some (.type "set") := by decide +kernel
/-- a call of a built-in with keywords -/
def CallKR (X : Cx) (f : Value) (ks : List Str) (r : List V → List V → Hp → VK → Prop) : Prop :=
  ∀ (pins : List (Addr × Obj)) (s : Shared) (σ : St) (H : Hp) (xs zs : List V) (us ws : List Value) (Q : VK), Inv X pins σ H s → Vals xs us → Vals zs ws → r xs zs H Q → wpAny (model X.prog X.w) X.A (call f us (ks.zip ws)) (EP X pins σ Q) X.xe s
def tCBK (r : List V → List V → Hp → VK → Prop) (t tk : TA) : TE := fun σ H Q => t σ H fun vs H1 => tk σ H1 fun zs H2 => r vs zs H2 Q
def setOfI (ns : List Int) : List Int := firstMet (fun i => ns.getD i 0) ns.length
end
end L2

namespace L2
open PySem PySem.Spec PyProof.Rows
section
variable {X : Cx} {scope : Scope} {cl : List (Str × Addr)} {xs ys : List Str} {ix : List Nat}
end
end L2

namespace Mr
open PySem L2
/-! the steps of the ends: they never rise, and where they fall the length is more than the next two together -/
/-- lengths whose steps never rise, with what is promised where they fall -/
def Good : List Int → Prop
  | [] => True
  | a :: r => 0 < a ∧ hd0 r < a ∧ (r ≠ [] → hd0 r - hd0 r.tail ≤ a - hd0 r ∧ (hd0 r - hd0 r.tail < a - hd0 r → hd0 r + hd0 r.tail < a)) ∧ Good r
def castI (l : List Nat) : List Int := l.map fun k : Nat => (k : Int)
/-! groups told apart -/
def lenG (g : Gp) : List Int := (List.range g.2.2.toNat).map fun k : Nat => g.1 - g.2.1 * (k : Int)
def lensG (gs : List Gp) : List Int := (gs.map lenG).flatten
def HdG (r : List Int) (D : List Gp) : Prop := match D with
  | [] => r = []
  | y :: _ => r ≠ [] ∧ y.1 = hd0 r ∧ y.2.1 = hd0 r - hd0 r.tail ∧ 1 ≤ y.2.2
def stepG (D : List Gp) : List Int := D.map (·.2.1)
def leastI : Nat → Int
  | 0 => 1
  | 1 => 3
  | n + 2 => leastI (n + 1) + leastI n + 1
end Mr

namespace L2
open PySem PySem.Spec PyProof.Rows
end L2
namespace Mr
open PySem L2
/-- the lengths of the groups -/
def spLenG : Sp := fun vs H Q _ => ∃ (p : Addr) (xs : List V) (gs : List Gp), vs = [.ref p] ∧ H p = some (.lst xs) ∧ GrpsV H xs gs ∧ (lensG gs).length ≤ 1000 ∧ (∀ g ∈ gs, 1 ≤ g.2.2) ∧
  ∀ (p' : Addr) (H' : Hp), H p' = none → H' p' = some (.lst ((lensG gs).map V.int)) → Same H H' → Q (.ref p') H'
theorem atI_neg {α : Type} {xs : List α} {d : Nat} (h1 : 1 ≤ d) (h2 : d ≤ xs.length) : atI xs (-(d : Int)) = xs[xs.length - d]? := by
  unfold atI ixN
  rw [if_neg (by omega), if_pos (by omega)]
  have e : (-(d : Int) + (xs.length : Int)).toNat = xs.length - d := by omega
  first | (rw [e]; rfl) | (show xs[_]? = _; congr 1; omega)
def leasts (k : Nat) : List V := ((List.range k).map leastI).map V.int
def spRight : Sp := fun vs H Q _ => ∃ (p : Addr) (ls : List Int), vs = [.ref p] ∧ H p = some (.lst (ls.map V.int)) ∧ Good ls ∧ ls.length ≤ 60 ∧ ∀ H', Same H H' → Q (.bl true) H'
end Mr

namespace L2
open PySem PySem.Spec PyProof.Rows PySem.SeqAt PySem.MeetsSeq
open PySem.AutoSeq1 (wpAny_loadPart')
/-! ### a dict against a number; a list of whatever against a list of numbers -/
/-- x == n, x whatever of the odd things -/
def eqN : V → Int → Bool
  | .int i, n => i == n
  | .bl b, n => (if b then 1 else 0) == n
  | _, _ => false
/-- what may stand against a number -/
def Vs (H : Hp) (x : V) : Prop := match x with
  | .non => True
  | .bl _ => True
  | .int _ => True
  | .str _ => True
  | .ref p => (∃ xs, H p = some (.lst xs)) ∨ (∃ xs, H p = some (.tup xs)) ∨ ∃ kvs, H p = some (.dK kvs)
  | _ => False
section
variable {X : Cx} {pins : List (Addr × Obj)} {σ : St} {H : Hp} {s : Shared}
def eqNs (xs : List V) (ns : List Int) : Bool := decide (xs.length = ns.length) && (List.range xs.length).all fun j => eqN (xs.getD j .non) (ns.getD j 0)
def rEqN : R2 := fun x y H Q => ∃ p q xs ns, x = .ref p ∧ y = .ref q ∧ H p = some (.lst xs) ∧ H q = some (.lst (ns.map V.int)) ∧ (∀ x ∈ xs, Vs H x) ∧ Q (.bl (eqNs xs ns)) H
end
/-! ### repr of made data with small dicts -/
mutual
inductive RdW (H : Hp) : V → PyData → Prop
  | non : RdW H .non .none
  | bl (b : Bool) : RdW H (.bl b) (.bool b)
  | int (i : Int) : RdW H (.int i) (.int i)
  | str (z : Str) : RdW H (.str z) (.str z)
  | lst {p : Addr} {xs : List V} {ds : List PyData} : H p = some (.lst xs) → RdWs H xs ds → RdW H (.ref p) (.list ds)
  | tup {p : Addr} {xs : List V} {ds : List PyData} : H p = some (.tup xs) → RdWs H xs ds → RdW H (.ref p) (.tuple ds)
  | dic {p : Addr} {z : Str} {i : Int} : H p = some (.dK [(Sum.inr z, .int i)]) → RdW H (.ref p) (.dict [(.str z, .int i)])
inductive RdWs (H : Hp) : List V → List PyData → Prop
  | nil : RdWs H [] []
  | cons {x : V} {d : PyData} {xs : List V} {ds : List PyData} : RdW H x d → RdWs H xs ds → RdWs H (x :: xs) (d :: ds)
end
mutual
theorem RdW.mono {H H' : Hp} (s : Same H H') : ∀ {x : V} {d : PyData}, RdW H x d → RdW H' x d
  | _, _, .non => .non
  | _, _, .bl b => .bl b
  | _, _, .int i => .int i
  | _, _, .str z => .str z
  | _, _, .lst h r => .lst (s _ _ h) (RdWs.mono s r)
  | _, _, .tup h r => .tup (s _ _ h) (RdWs.mono s r)
  | _, _, .dic h => .dic (s _ _ h)
theorem RdWs.mono {H H' : Hp} (s : Same H H') : ∀ {xs : List V} {ds : List PyData}, RdWs H xs ds → RdWs H' xs ds
  | _, _, .nil => .nil
  | _, _, .cons a b => .cons (RdW.mono s a) (RdWs.mono s b)
end
section
variable {X : Cx} {pins : List (Addr × Obj)} {σ : St} {H : Hp} {s : Shared}
mutual
theorem RdW.reads (I : Inv X pins σ H s) : ∀ {x : V} {d : PyData} {u : Value}, RdW H x d → RelV x u → ∃ as, Reads s.heap u d as ∧ ∀ a ∈ as, H a ≠ none
  | _, _, _, .non, r => by cases r; exact ⟨_, .none, fun a h => by cases h⟩
  | _, _, _, .bl b, r => by cases r; exact ⟨_, .bool b, fun a h => by cases h⟩
  | _, _, _, .int i, r => by obtain ⟨t, rfl⟩ := r; exact ⟨_, .int i t, fun a h => by cases h⟩
  | _, _, _, .str z, r => by obtain ⟨t, rfl⟩ := r; exact ⟨_, .str z t, fun a h => by cases h⟩
  | _, _, _, .lst (p := p) h q, r => by
    cases r
    obtain ⟨_, its, n, rv, e⟩ := (show ObjOk X.prog X.w H s.heap _ (.lst _) from I.hok _ _ h)
    obtain ⟨as, ra, ha⟩ := RdWs.reads I q rv
    refine ⟨_, .list e rfl rfl (by simpa using ra), fun a hm => ?_⟩
    rcases List.mem_cons.mp hm with rfl | hm
    · rw [h]; simp
    · exact ha a hm
  | _, _, _, .tup h q, r => by
    cases r
    obtain ⟨_, its, rv, o, e, c, n, d⟩ := (show ObjOk X.prog X.w H s.heap _ (.tup _) from I.hok _ _ h)
    obtain ⟨as, ra, ha⟩ := RdWs.reads I q rv
    exact ⟨_, .tuple e c d (by simpa using ra), ha⟩
  | _, _, _, .dic (p := p) (z := z0) (i := i0) h, r => by
    cases r
    obtain ⟨_, _, vs, kv, o, es, ep, h1, h2, h3, _, h5, _⟩ := (show ObjOk X.prog X.w H s.heap _ (.dK _) from I.hok _ _ h)
    cases kv with
    | cons e1 e2 =>
      cases e2
      obtain ⟨e1, rv⟩ := e1
      cases hes : es.toList with
      | nil => rw [hes] at h5; cases h5
      | cons e0 er =>
        rw [hes] at h5
        cases h5 with
        | cons k1 k2 k3 =>
          cases k3
          obtain ⟨t2, e3⟩ := rv
          have k1' : keyIs (Sum.inr z0) e0.key = true := by rw [mixKind_is, ← e1] at k1; exact k1
          rcases keyIs_shape k1' with ⟨i, t, a, b⟩ | ⟨x, t, a, b⟩
          · cases a
          · cases a
            refine ⟨_, .dict (kvs := [(.str _, .int _)]) h1 h2.1 h3 (as := []) (bs := []) ?_ ?_, fun a hm => ?_⟩
            · rw [hes]
              show ReadsAll s.heap [e0.key] [.str _] []
              rw [b]
              exact .cons (as := []) (bs := []) (.str _ _) .nil
            · rw [hes]
              show ReadsAll s.heap [e0.val] [.int _] []
              rw [k2, e3]
              exact .cons (as := []) (bs := []) (.int _ _) .nil
            · have : a = p := by simpa using hm
              rw [this, h]; simp
theorem RdWs.reads (I : Inv X pins σ H s) : ∀ {xs : List V} {ds : List PyData} {us : List Value}, RdWs H xs ds → Vals xs us → ∃ as, ReadsAll s.heap us ds as ∧ ∀ a ∈ as, H a ≠ none
  | _, _, _, .nil, r => by cases r; exact ⟨_, .nil, fun a h => by cases h⟩
  | _, _, _, .cons a b, r => by
    cases r with
    | cons r1 r2 =>
      obtain ⟨as, ra, h1⟩ := RdW.reads I a r1
      obtain ⟨bs, rb, h2⟩ := RdWs.reads I b r2
      refine ⟨_, .cons ra rb, fun a hm => ?_⟩
      rcases List.mem_append.mp hm with hm | hm
      · exact h1 a hm
      · exact h2 a hm
end
end
end L2

namespace L2
open PySem PySem.Spec PyProof.Rows
end L2

namespace Mr
open PySem L2
/-! things of whatever kind: what may stand in a list, what may be handed in -/
inductive Elt (H : Hp) : V → Prop
  | bl (b : Bool) : Elt H (.bl b)
  | int (i : Int) (h : i.natAbs < 10 ^ 40) : Elt H (.int i)
  | str (z : Str) (h : z.cps.size ≤ 300) (hc : (z.cps.toList.all fun c => decide (c < 16 ^ 8)) = true) : Elt H (.str z)
  | odd (x : V) (h : Odd H x) : Elt H x
/-- a thing that is handed in -/
inductive Thg (b : Addr) (H : Hp) : V → Prop
  | elt (x : V) (h : Elt H x) : Thg b H x
  | lst (p : Addr) (xs : List V) (hp : H p = some (.lst xs)) (hb : p ≠ b) (hl : xs.length ≤ 60) (he : ∀ x ∈ xs, Elt H x) : Thg b H (.ref p)
  | tup (p : Addr) (xs : List V) (hp : H p = some (.tup xs)) (hl : xs.length ≤ 60) (he : ∀ x ∈ xs, Elt H x) : Thg b H (.ref p)
/-- may be shown: n deep at most, of weight w at most -/
def Sh2 (d : PyData) (n w : Nat) : Prop := d.showable = true ∧ d.depth ≤ n ∧ d.leavesShort 50 = true ∧ d.weight ≤ w
def Sh2s (ds : List PyData) (n w : Nat) : Prop := PyData.showableAll ds = true ∧ PyData.depthAll ds ≤ n ∧ PyData.leavesShortAll 50 ds = true ∧ PyData.weightAll ds ≤ w
section
variable {K : PySem.W.Frag}
end
def spSameG (K : PySem.W.Frag) : Sp := fun vs H Q _ => ∃ (x : V) (n : Int), vs = [x, .int n] ∧ (Scal x ∨ NoInt K H x) ∧ Q (.bl (decide (x = .int n))) H
def spAreG (K : PySem.W.Frag) : Sp := fun vs H Q _ => ∃ (x : V) (l : List Nat), vs = [x, .str (tx l)] ∧ rowL l = true ∧
  ((∃ (p : Addr) (xs : List V), x = .ref p ∧ H p = some (.lst xs) ∧ (∀ x ∈ xs, Scal x ∨ NoInt K H x) ∧ ∀ H', Same H H' → Q (.bl (decide (xs = lensV (reachesN l)))) H') ∨
   ((∃ t, TyOf K H x t ∧ PySem.W.kitOne K t (.type "list") = some false) ∧ ∀ H', Same H H' → Q (.bl false) H'))
def spBent04 : Sp := fun vs H Q _ => ∃ (b pd : Addr) (n : Int) (ks : List Nat) (x : V), vs = [.ref b, .ref pd, x] ∧ H b = some (.lst [.int n]) ∧ 0 ≤ n ∧ b ≠ pd ∧ H pd = some (.lst (lensV ks)) ∧ ks.length ≤ 29 ∧ (∀ k ∈ ks, k < 100) ∧ Odd H x ∧
  ∀ (y : V) (n' : Int) (H' : Hp), Thg b H' y → (∀ p, y = .ref p → H p = none) → 0 ≤ n' → H' b = some (.lst [.int n']) → But b H H' → Q y H'
end Mr

namespace L2
open PySem PySem.Spec PyProof.Rows PySem.SeqAt PySem.MeetsSeq
open PySem.AutoSeq1 (wpAny_loadPart')
/-! ### != of whatever thing and a text -/
section
variable {X : Cx}
def rNeS : R2 := fun x y H Q => ∃ z : Str, y = .str z ∧ Vs H x ∧ Q (.bl (!decide (x = .str z))) H
end
end L2

namespace Mr
open PySem L2
/-! things that are shown alike are alike: the tree's side is known -/
def cp (z : Str) : List Nat := z.cps.toList
def joinC : List (List Nat) → List Nat
  | [] => []
  | [x] => x
  | x :: y :: r => x ++ 44 :: 32 :: joinC (y :: r)
/-- the signs of what is shown -/
def shC (d : PyData) : List Nat := cp d.shown
/-- numbers that may stand there -/
def NiceI (i : Int) : Prop := i = 10 ^ 39 ∨ i = -1 ∨ ∃ n : Nat, n < 40 ∧ i = (n : Int)
def dig (n : Nat) : List Nat := cp ((toString (n : Int) : String) : Str)
/-! texts -/
def inn (l : List Nat) : List Nat := (l.map (Builtin.Str.reprChar 39)).flatten
def NiceS (l : List Nat) : Prop := Let l ∨ l = [65] ∨ l = [97, 32, 98] ∨ l = [97, 10] ∨ l = [49]
/-- what may stand anywhere: its numbers and texts are nice -/
def Leaf (d : PyData) : Prop := match d with
  | .int i => NiceI i
  | .str z => ∃ l, z = tx l ∧ NiceS l
  | _ => True
def dgB (c : Nat) : Bool := decide (48 ≤ c ∧ c ≤ 57)
/-- the first sign -/
def FirstC (d : PyData) (c : Nat) : Prop := match d with
  | .none => c = 78
  | .bool _ => c = 84 ∨ c = 70
  | .int _ => dgB c = true ∨ c = 45
  | .str _ => c = 39
  | .list _ => c = 91
  | .tuple _ => c = 40
  | .dict _ => c = 123
/-! entries and trees -/
def Ent2 (d : PyData) : Prop := Leaf d ∧ ∀ ds, d = .tuple ds → ∀ x ∈ ds, Leaf x
def Top2 (d : PyData) : Prop := Leaf d ∧ ∀ ds, d = .list ds → ∀ x ∈ ds, Ent2 x
/-- an entry of letters and small numbers -/
def SmallE (e : Ent) : Prop := Let e.1 ∧ (∀ i, e.2.1 = some i → i < 40) ∧ ∀ i, e.2.2 = some i → i < 40
end Mr

namespace Mr
open PySem L2
/-! things that are handed in where trees are asked for -/
def NiceV (x : V) : Prop := match x with
  | .int i => NiceI i
  | .str z => ∃ l, z = tx l ∧ NiceS l
  | _ => True
mutual
theorem rdw_one {H : Hp} : ∀ {x : V} {d d' : PyData}, RdW H x d → RdW H x d' → d = d'
  | _, _, _, .non, .non => rfl
  | _, _, _, .bl b, .bl _ => rfl
  | _, _, _, .int i, .int _ => rfl
  | _, _, _, .str z, .str _ => rfl
  | _, _, _, .lst h q, .lst h' q' => by rw [h] at h'; cases h'; rw [rdws_one q q']
  | _, _, _, .lst h q, .tup h' q' => by rw [h] at h'; cases h'
  | _, _, _, .lst h q, .dic h' => by rw [h] at h'; cases h'
  | _, _, _, .tup h q, .tup h' q' => by rw [h] at h'; cases h'; rw [rdws_one q q']
  | _, _, _, .tup h q, .lst h' q' => by rw [h] at h'; cases h'
  | _, _, _, .tup h q, .dic h' => by rw [h] at h'; cases h'
  | _, _, _, .dic h, .dic h' => by rw [h] at h'; cases h'; rfl
  | _, _, _, .dic h, .lst h' q' => by rw [h] at h'; cases h'
  | _, _, _, .dic h, .tup h' q' => by rw [h] at h'; cases h'
theorem rdws_one {H : Hp} : ∀ {xs : List V} {ds ds' : List PyData}, RdWs H xs ds → RdWs H xs ds' → ds = ds'
  | _, _, _, .nil, .nil => rfl
  | _, _, _, .cons a b, .cons a' b' => by rw [rdw_one a a', rdws_one b b']
end
/-- what stands in a list of entries -/
inductive En (b : Addr) (H : Hp) : V → Prop
  | lf (x : V) (h : Elt H x) (n : NiceV x) : En b H x
  | tup (p : Addr) (xs : List V) (hp : H p = some (.tup xs)) (hl : xs.length ≤ 5) (he : ∀ x ∈ xs, Elt H x ∧ NiceV x) : En b H (.ref p)
  | lst (p : Addr) (xs : List V) (hp : H p = some (.lst xs)) (hb : p ≠ b) (hl : xs.length ≤ 3) (he : ∀ x ∈ xs, Elt H x ∧ NiceV x) : En b H (.ref p)
inductive Tg (b : Addr) (H : Hp) : V → Prop
  | en (x : V) (h : En b H x) : Tg b H x
  | lst (p : Addr) (xs : List V) (hp : H p = some (.lst xs)) (hb : p ≠ b) (hl : xs.length ≤ 60) (he : ∀ x ∈ xs, En b H x) : Tg b H (.ref p)
  | tup (p : Addr) (xs : List V) (hp : H p = some (.tup xs)) (hl : xs.length ≤ 60) (he : ∀ x ∈ xs, En b H x) : Tg b H (.ref p)
section
variable {K : PySem.W.Frag}
end
/-- small entries -/
def SmE (e : Ent) : Prop := SmallE e ∧ e.1.length ≤ 100
def spElderG (K : PySem.W.Frag) : Sp := fun vs H Q _ => ∃ (x : V) (o : Option Nat) (d : PyData), vs = [x, optV o] ∧ (Scal x ∨ NoInt K H x) ∧ RdW H x d ∧ ∀ r : Bool, (r = true ↔ d = optD o) → Q (.bl r) H
def spEntryG : Sp := fun vs H Q _ => ∃ (b : Addr) (x : V) (q : Addr) (d : PyData) (e : Ent), vs = [x, .ref q] ∧ En b H x ∧ RdW H x d ∧ H q = some (entV e) ∧ ∀ r : Bool, (r = true ↔ d = entD e) → Q (.bl r) H
def spIsTreeG : Sp := fun vs H Q _ => ∃ (b : Addr) (x : V) (l : List Nat) (d : PyData), vs = [x, .str (tx l)] ∧ rowL l = true ∧ Tg b H x ∧ RdW H x d ∧ ∀ (r : Bool) (H' : Hp), (r = true ↔ d = .list ((treeN l).map entD)) → Same H H' → Q (.bl r) H'
def spBent16 : Sp := fun vs H Q _ => ∃ (b pd : Addr) (n : Int) (xs : List V) (es : List Ent) (x : V), vs = [.ref b, .ref pd, x] ∧ H b = some (.lst [.int n]) ∧ 0 ≤ n ∧ b ≠ pd ∧ H pd = some (.lst xs) ∧ TreeV H xs es ∧ es.length ≤ 20 ∧ (∀ e ∈ es, SmE e) ∧ Odd H x ∧
  ∀ (y : V) (n' : Int) (H' : Hp), Tg b H' y → (∀ p, y = .ref p → H p = none) → 0 ≤ n' → H' b = some (.lst [.int n']) → But b H H' → Q y H'
end Mr

namespace Mr
open PySem L2
/-! boxes of the later laws: the number in a box may be below nought -/
def Abcz (l : List Nat) : Prop := ∀ c ∈ l, c = 97 ∨ c = 98 ∨ c = 99 ∨ c = 122
theorem Abcz.app {l m : List Nat} (a : Abcz l) (b : Abcz m) : Abcz (l ++ m) := fun c h => (List.mem_append.mp h).elim (a c) (b c)
theorem Abcz.rev {l : List Nat} (a : Abcz l) : Abcz l.reverse := fun c h => a c (List.mem_reverse.mp h)
theorem Abcz.sub {l m : List Nat} (a : Abcz l) (h : ∀ c ∈ m, c ∈ l) : Abcz m := fun c q => a c (h c q)
theorem Abcz.nil : Abcz [] := fun _ h => absurd h (by simp)
theorem Abcz.take {l : List Nat} (a : Abcz l) (n : Nat) : Abcz (l.take n) := a.sub fun _ h => List.mem_of_mem_take h
theorem Abcz.drop {l : List Nat} (a : Abcz l) (n : Nat) : Abcz (l.drop n) := a.sub fun _ h => List.mem_of_mem_drop h
theorem Abcz.cut {l : List Nat} (a : Abcz l) (lo hi : Option Int) : Abcz (cutL l lo hi) := (a.drop _).take _
theorem Abcz.lets {l : List Nat} (a : Abcz l) : Let l := fun c h => by have := a c h; omega
theorem e_abcz : ("abcz" : Str) = tx [97, 98, 99, 122] := by decide +kernel
section
variable (K : PySem.W.Frag)
def spBoxI : Sp := fun vs H Q _ => ∃ (a : Addr) (ns : List Int) (k : Int), vs = [.ref a, .int k] ∧ SqL K H a (ns.map V.int) ∧ 0 ≤ k ∧ ∀ (b : Addr) (n : Int) (H' : Hp), H b = none → H' b = some (.lst [.int n]) → Same H H' → Q (.ref b) H'
end
def spTakeI : Sp := fun vs H Q _ => ∃ (b : Addr) (n m : Int), vs = [.ref b, .int m] ∧ H b = some (.lst [.int n]) ∧ 0 < m ∧ m < 1000000 ∧
  ∀ (d n' : Int) (H' : Hp), 0 ≤ d → d < m → H' b = some (.lst [.int n']) → But b H H' → Q (.int d) H'
def spRowI : Sp := fun vs H Q _ => ∃ (b : Addr) (n most : Int), vs = [.ref b, .int most] ∧ H b = some (.lst [.int n]) ∧ 0 ≤ most ∧ most ≤ 1000 ∧
  ∀ (m : List Nat) (n' : Int) (H' : Hp), Abcz m → (m.length : Int) ≤ most → H' b = some (.lst [.int n']) → But b H H' → Q (.str (tx m)) H'
/-- _law_mirror -/
def spMirI : Sp := fun vs H Q _ => ∃ l : List Nat, vs = [.str (tx l)] ∧ l.length ≤ sizeLine ∧ Q (.bl (!decide (l = []) && decide (l = l.reverse))) H
/-! the ends by place -/
def lstV (ls : List Nat) : HO := .lst (lensV ls)
abbrev LenV := ReV lstV
def endsAt (l : List Nat) : List (List Nat) := (List.range (l.length + 1)).map fun b => endsN (l.take b)
theorem endsAt_len (l : List Nat) : (endsAt l).length = l.length + 1 := by unfold endsAt; rw [List.length_map, List.length_range]
theorem endsAt_get {l : List Nat} {b : Nat} (h : b ≤ l.length) : (endsAt l)[b]? = some (endsN (l.take b)) := by
  unfold endsAt
  rw [List.getElem?_map, List.getElem?_range (by omega)]
  rfl
def spEBP : Sp := fun vs H Q _ => ∃ l : List Nat, vs = [.str (tx l)] ∧ rowL l = true ∧ ∀ (p : Addr) (xs : List V) (H' : Hp), H p = none → H' p = some (.lst xs) → LenV H' xs (endsAt l) → Same H H' → Q (.ref p) H'
theorem ReV.at {α : Type} {f : α → HO} {H : Hp} {xs : List V} {es : List α} (h : ReV f H xs es) {j : Nat} {e : α} (he : es[j]? = some e) : ∃ p : Addr, xs[j]? = some (.ref p) ∧ H p = some (f e) := by
  have hj : j < xs.length := by rw [h.1]; exact (List.getElem?_eq_some_iff.mp he).1
  obtain ⟨p, e1, e2⟩ := h.2 j xs[j] e (List.getElem?_eq_getElem hj) he
  exact ⟨p, by rw [List.getElem?_eq_getElem hj, e1], e2⟩
theorem ends_count (l : List Nat) : (endsN l).length ≤ l.length := by
  have := filt_le l.length (sufB l)
  rw [endsN_def]
  exact this
/-- longest_entry: of a row with its ends, and numbers -/
def spLE : Sp := fun vs H Q _ => ∃ (l : List Nat) (pl pn : Addr) (ms : List (List Nat)), vs = [.str (tx l), .ref pl, .ref pn] ∧ 1 ≤ l.length ∧ l.length ≤ 200 ∧ H pl = some (.lst (lensV (endsN l))) ∧ NumD H pn ms ∧
  ∀ (p : Addr) (H' : Hp), H p = none → H' p = some (entV (entT ms (topT l l.length))) → Same H H' → Q (.ref p) H'
end Mr
namespace Mr
open PySem L2
/-- need_mirror -/
def spNM (K : PySem.W.Frag) (C : Addr) : Sp := fun vs H Q E => ∃ x : V, vs = [x] ∧
  ((∃ t : List Nat, x = .str (tx t) ∧ mirV x = true ∧ t.length ≤ 100000 ∧ ∀ H', Same H H' → Q .non H') ∨ (Thing K H x ∧ mirV x = false ∧ ∀ H', Same H H' → E (.ref C) none H'))
end Mr

namespace L2
open PySem PySem.Spec PyProof.Rows PySem.SeqAt PySem.MeetsSeq
/-! ### min of a list of ints; len of a dict -/
section
variable {X : Cx}
theorem call_minI (hc : X.calm = true) : CallR X (.builtin "min") (fun xs H Q => ∃ (p : Addr) (ns : List Int), xs = [.ref p] ∧ SqL X.K H p (ns.map V.int) ∧ 0 < ns.length ∧ ∀ M, M ∈ ns → (∀ a, a ∈ ns → M ≤ a) → Q (.int M) H) := by
  intro pins s σ H xs us Q I r h
  obtain ⟨p, ns, rfl, hq, hne, q⟩ := h
  obtain ⟨u, rfl, ru⟩ := vals1 r
  cases ru
  obtain ⟨its, rv, pl, _⟩ := I.list hq
  have hi := intsAre_of rv
  have hl := pl.isList
  obtain ⟨xs, e⟩ := hi.allInts.items
  have hns : ns = xs.toList.map (·.1) := by rw [← hi.numsOf, ← nums_intItems, ← e]
  have hsz : 0 < xs.size := by have h3 := hne; rw [hns, List.length_map, Array.length_toList] at h3; exact h3
  rw [e] at hl
  refine min_intList (I.ok.hd hc) hl hsz fun v h' tk hv hk => ?_
  obtain ⟨t, rfl⟩ := intItems_at hv
  obtain ⟨h1, h2⟩ := argBest_lt (numAt xs) (xs.size - 1)
  refine ⟨.int _, H, I.kept hk, ⟨t, rfl⟩, q _ ?_ fun a ha => ?_⟩
  · rw [hns, numAt_eq]; exact getD_mem (by rw [List.length_map, Array.length_toList]; omega)
  · rw [hns] at ha
    obtain ⟨j, hj, rfl⟩ := mem_getD ha
    rw [List.length_map, Array.length_toList] at hj
    rw [← numAt_eq]; exact h2 j (by omega)
/-- where the ways of a statement meet again: J is what holds there -/
def tJoin (t : TS) : TS := fun D σ H => ∃ J : St → Hp → Prop, (∀ σ' H', J σ' H' → D.nx σ' H') ∧ t { D with nx := J } σ H
end
end L2

namespace Mr
/-! the fewest stretches by place, of which the lengths are told that may end there -/
def minL : List Nat → Nat
  | [] => 0
  | x :: r => if r = [] then x else min x (minL r)
theorem minL_mem : ∀ {xs : List Nat}, xs ≠ [] → minL xs ∈ xs
  | [], h => absurd rfl h
  | x :: r, _ => by
    unfold minL
    by_cases e : r = []
    · rw [if_pos e]; exact List.mem_cons_self
    · rw [if_neg e]
      have ih := minL_mem e
      by_cases h : x ≤ minL r
      · rw [Nat.min_eq_left h]; exact List.mem_cons_self
      · rw [Nat.min_eq_right (by omega)]; exact List.mem_cons_of_mem _ ih
theorem minL_le : ∀ {xs : List Nat} {a : Nat}, a ∈ xs → minL xs ≤ a
  | x :: r, a, h => by
    unfold minL
    by_cases e : r = []
    · rw [if_pos e]; subst e
      have : a = x := by simpa using h
      omega
    · rw [if_neg e]
      rcases List.mem_cons.mp h with rfl | h
      · exact Nat.min_le_left _ _
      · have := minL_le h
        exact Nat.le_trans (Nat.min_le_right _ _) this
theorem minL_eq {xs : List Nat} {m : Nat} (h1 : m ∈ xs) (h2 : ∀ a ∈ xs, m ≤ a) : m = minL xs := by
  have := minL_le h1
  have := h2 _ (minL_mem (List.ne_nil_of_mem h1))
  omega
/-- the numbers that are known, of the places that one stretch leads from -/
def knownN (told : List (Option Nat)) (b : Nat) (L : List Nat) : List Nat := L.filterMap fun k => (told[b - k]?).getD none
def nextF (told : List (Option Nat)) (b : Nat) (L : List Nat) : Option Nat := if knownN told b L = [] then none else some (minL (knownN told b L) + 1)
def fewAt (L : Nat → List Nat) : Nat → List (Option Nat)
  | 0 => [some 0]
  | n + 1 => fewAt L n ++ [nextF (fewAt L n) (n + 1) (L (n + 1))]
theorem fewAt_len (L : Nat → List Nat) : ∀ n, (fewAt L n).length = n + 1
  | 0 => rfl
  | n + 1 => by
    show (fewAt L n ++ [_]).length = _
    rw [List.length_append, fewAt_len L n]; rfl
def few (L : Nat → List Nat) (b : Nat) : Option Nat := ((fewAt L b)[b]?).getD none
theorem fewAt_get (L : Nat → List Nat) : ∀ {n b : Nat}, b ≤ n → (fewAt L n)[b]? = some (few L b)
  | 0, b, h => by
    have : b = 0 := by omega
    subst this; rfl
  | n + 1, b, h => by
    by_cases e : b = n + 1
    · subst e
      unfold few
      rw [List.getElem?_eq_getElem (by rw [fewAt_len]; omega)]; rfl
    · show (fewAt L n ++ [_])[b]? = _
      rw [List.getElem?_append_left (by rw [fewAt_len]; omega)]
      exact fewAt_get L (by omega)
theorem few_zero (L : Nat → List Nat) : few L 0 = some 0 := rfl
theorem few_succ (L : Nat → List Nat) (n : Nat) : few L (n + 1) = nextF (fewAt L n) (n + 1) (L (n + 1)) := by
  show ((fewAt L n ++ [_])[n + 1]?).getD none = _
  rw [List.getElem?_append_right (by rw [fewAt_len]; omega), fewAt_len, Nat.sub_self]
  rfl
theorem fewAt_map (L : Nat → List Nat) (n : Nat) : fewAt L n = (List.range (n + 1)).map (few L) := by
  apply List.ext_getElem?
  intro b
  by_cases h : b ≤ n
  · rw [fewAt_get L h, List.getElem?_map, List.getElem?_range (by omega)]; rfl
  · rw [List.getElem?_eq_none (by rw [fewAt_len]; omega), List.getElem?_eq_none (by rw [List.length_map, List.length_range]; omega)]
/-- lengths that may end at the place b -/
def Fits (L : Nat → List Nat) : Prop := ∀ b k, k ∈ L b → 1 ≤ k ∧ k ≤ b
theorem fm_congr {f g : Nat → Option Nat} : ∀ {xs : List Nat}, (∀ x ∈ xs, f x = g x) → xs.filterMap f = xs.filterMap g
  | [], _ => rfl
  | x :: r, h => by
    rw [List.filterMap_cons, List.filterMap_cons, h x List.mem_cons_self, fm_congr fun y hy => h y (List.mem_cons_of_mem _ hy)]
theorem known_few {L : Nat → List Nat} (hL : Fits L) (n : Nat) : knownN (fewAt L n) (n + 1) (L (n + 1)) = (L (n + 1)).filterMap fun k => few L (n + 1 - k) := by
  unfold knownN
  apply fm_congr
  intro k hk
  have := hL _ _ hk
  rw [fewAt_get L (by omega)]; rfl
/-- what the number at a place says: from one place that one stretch leads from, the least of all -/
theorem few_iff {L : Nat → List Nat} (hL : Fits L) {b m : Nat} (hb : 1 ≤ b) : few L b = some m ↔ ∃ k j, k ∈ L b ∧ few L (b - k) = some j ∧ m = j + 1 ∧ ∀ k' j', k' ∈ L b → few L (b - k') = some j' → j ≤ j' := by
  obtain ⟨n, rfl⟩ : ∃ n, b = n + 1 := ⟨b - 1, by omega⟩
  rw [few_succ]
  unfold nextF
  rw [known_few hL]
  constructor
  · intro h
    by_cases e : ((L (n + 1)).filterMap fun k => few L (n + 1 - k)) = []
    · rw [if_pos e] at h; cases h
    · rw [if_neg e] at h
      obtain ⟨k, hk, hk2⟩ := List.mem_filterMap.mp (minL_mem e)
      refine ⟨k, _, hk, hk2, (Option.some.inj h).symm, fun k' j' h1 h2 => minL_le (List.mem_filterMap.mpr ⟨k', h1, h2⟩)⟩
  · rintro ⟨k, j, hk, hj, rfl, hall⟩
    have hm : j ∈ ((L (n + 1)).filterMap fun k => few L (n + 1 - k)) := List.mem_filterMap.mpr ⟨k, hk, hj⟩
    rw [if_neg (List.ne_nil_of_mem hm)]
    congr 2
    exact (minL_eq hm fun a ha => let ⟨k', h1, h2⟩ := List.mem_filterMap.mp ha; hall k' a h1 h2).symm
theorem few_none {L : Nat → List Nat} (hL : Fits L) {b : Nat} (hb : 1 ≤ b) : few L b = none ↔ ∀ k, k ∈ L b → few L (b - k) = none := by
  obtain ⟨n, rfl⟩ : ∃ n, b = n + 1 := ⟨b - 1, by omega⟩
  rw [few_succ]
  unfold nextF
  rw [known_few hL]
  constructor
  · intro h k hk
    by_cases e : ((L (n + 1)).filterMap fun k => few L (n + 1 - k)) = []
    · exact List.filterMap_eq_nil_iff.mp e k hk
    · rw [if_neg e] at h; cases h
  · intro h
    rw [if_pos (List.filterMap_eq_nil_iff.mpr h)]
end Mr

namespace Mr
open PySem L2
/-! cuts: the fewest stretches by place -/
def lenOf (Ls : List (List Nat)) (b : Nat) : List Nat := (Ls[b]?).getD []
def fewV (os : List (Option Nat)) : List V := os.map optV
def spFBP : Sp := fun vs H Q _ => ∃ (p : Addr) (xs : List V) (Ls : List (List Nat)), vs = [.ref p] ∧ H p = some (.lst xs) ∧ LenV H xs Ls ∧ 1 ≤ Ls.length ∧ Ls.length ≤ 1000 ∧ Fits (lenOf Ls) ∧ (∀ b, (lenOf Ls b).length ≤ 1000) ∧
  ∀ (p' : Addr) (H' : Hp), H p' = none → H' p' = some (.lst (fewV (fewAt (lenOf Ls) (Ls.length - 1)))) → Same H H' → Q (.ref p') H'
theorem known_step {told : List (Option Nat)} {b j k : Nat} {L : List Nat} (h : L[j]? = some k) : knownN told b (L.take (j + 1)) = knownN told b (L.take j) ++ (match (told[b - k]?).getD none with | none => [] | some m => [m]) := by
  unfold knownN
  rw [List.take_succ, h, List.filterMap_append]
  congr 1
  show List.filterMap _ [k] = _
  rw [List.filterMap_cons]
  cases (told[b - k]?).getD none <;> rfl
theorem lens_ints (ks : List Nat) : lensV ks = (ks.map fun (k : Nat) => (k : Int)).map V.int := by unfold lensV; rw [List.map_map]; rfl
theorem min_lens {ks : List Nat} {M : Int} (h1 : M ∈ ks.map fun (k : Nat) => (k : Int)) (h2 : ∀ a, a ∈ (ks.map fun (k : Nat) => (k : Int)) → M ≤ a) : M = ((minL ks : Nat) : Int) := by
  obtain ⟨m, hm, rfl⟩ := List.mem_map.mp h1
  congr 1
  refine minL_eq hm fun a ha => ?_
  have := h2 _ (List.mem_map.mpr ⟨a, ha, rfl⟩)
  omega
theorem lenOf_ends {l : List Nat} {b : Nat} (h : b ≤ l.length) : lenOf (endsAt l) b = endsN (l.take b) := by unfold lenOf; rw [endsAt_get h]; rfl
theorem lenOf_out {l : List Nat} {b : Nat} (h : ¬ b ≤ l.length) : lenOf (endsAt l) b = [] := by
  unfold lenOf
  rw [List.getElem?_eq_none (by rw [endsAt_len]; omega)]
  rfl
theorem fits_ends (l : List Nat) : Fits (lenOf (endsAt l)) := fun b k hk => by
  by_cases h : b ≤ l.length
  · rw [lenOf_ends h] at hk
    have := (ends_mem h).mp hk
    omega
  · rw [lenOf_out h] at hk; cases hk
theorem lenOf_len (l : List Nat) (hl : l.length ≤ 200) (b : Nat) : (lenOf (endsAt l) b).length ≤ 1000 := by
  by_cases h : b ≤ l.length
  · rw [lenOf_ends h]
    have := ends_count (l.take b)
    rw [List.length_take] at this
    omega
  · rw [lenOf_out h]; simp
theorem one_end {l : List Nat} {b : Nat} (h1 : 1 ≤ b) (h : b ≤ l.length) : 1 ∈ endsN (l.take b) := (ends_mem h).mpr ⟨Nat.le_refl _, h1, fun i h2 h3 => by
  have : i = b - 1 := by omega
  subst this
  congr 1
  omega⟩
theorem few_all {l : List Nat} : ∀ {b : Nat}, b ≤ l.length → ∃ m, few (lenOf (endsAt l)) b = some m
  | 0, _ => ⟨0, rfl⟩
  | b + 1, h => by
    obtain ⟨m, hm⟩ := few_all (l := l) (b := b) (by omega)
    cases e : few (lenOf (endsAt l)) (b + 1) with
    | some j => exact ⟨j, rfl⟩
    | none =>
      have := (few_none (fits_ends l) (by omega)).mp e 1 (by rw [lenOf_ends h]; exact one_end (by omega) h)
      rw [show b + 1 - 1 = b by omega, hm] at this
      cases this
def fewI (l : List Nat) (b : Nat) : Nat := (few (lenOf (endsAt l)) b).getD 0
theorem few_fewI {l : List Nat} {b : Nat} (h : b ≤ l.length) : few (lenOf (endsAt l)) b = some (fewI l b) := by
  obtain ⟨m, hm⟩ := few_all h
  unfold fewI
  rw [hm]; rfl
def boundsN (l : List Nat) : List Nat := (List.range (l.length + 1)).map (fewI l)
theorem few_lens (l : List Nat) : fewV (fewAt (lenOf (endsAt l)) l.length) = lensV (boundsN l) := by
  rw [fewAt_map]
  unfold fewV lensV boundsN
  rw [List.map_map, List.map_map]
  refine List.map_congr_left fun b hb => ?_
  have := List.mem_range.mp hb
  show optV (few _ b) = V.int ((fewI l b : Nat) : Int)
  rw [few_fewI (by omega)]
  rfl
/-- where a stretch of a length may begin -/
def begN (l : List Nat) (b : Nat) : List Nat := (endsN (l.take b)).map (b - ·)
theorem fm_map {α : Type} {f : Nat → Option α} {g : Nat → α} : ∀ {xs : List Nat}, (∀ x ∈ xs, f x = some (g x)) → xs.filterMap f = xs.map g
  | [], _ => rfl
  | x :: r, h => by
    rw [List.filterMap_cons, h x List.mem_cons_self, fm_map fun y hy => h y (List.mem_cons_of_mem _ hy)]; rfl
theorem begN_ne {l : List Nat} {b : Nat} (h1 : 1 ≤ b) (h : b ≤ l.length) : begN l b ≠ [] := fun z => by
  have := one_end h1 h
  unfold begN at z
  rw [List.map_eq_nil_iff.mp z] at this
  cases this
theorem fewI_succ {l : List Nat} {b : Nat} (h1 : 1 ≤ b) (h : b ≤ l.length) : fewI l b = minL ((begN l b).map (fewI l)) + 1 := by
  obtain ⟨n, rfl⟩ : ∃ n, b = n + 1 := ⟨b - 1, by omega⟩
  have e : few (lenOf (endsAt l)) (n + 1) = some (fewI l (n + 1)) := few_fewI h
  rw [few_succ] at e
  unfold nextF at e
  rw [known_few (fits_ends l), lenOf_ends h, fm_map (g := fun k => fewI l (n + 1 - k)) (fun k hk => few_fewI (by omega))] at e
  have em : (endsN (l.take (n + 1))).map (fun k => fewI l (n + 1 - k)) = (begN l (n + 1)).map (fewI l) := by unfold begN; rw [List.map_map]; rfl
  rw [em, if_neg (fun z => begN_ne h1 h (List.map_eq_nil_iff.mp z))] at e
  exact (Option.some.inj e).symm
theorem fewI_le {l : List Nat} {b k : Nat} (h : b ≤ l.length) (hk : k ∈ endsN (l.take b)) : fewI l b ≤ fewI l (b - k) + 1 := by
  have := (ends_mem h).mp hk
  rw [fewI_succ (by omega) h]
  have := minL_le (xs := (begN l b).map (fewI l)) (a := fewI l (b - k)) (List.mem_map.mpr ⟨b - k, List.mem_map.mpr ⟨k, hk, rfl⟩, rfl⟩)
  omega
/-- _law_begins -/
def spBeg : Sp := fun vs H Q _ => ∃ (l : List Nat) (b : Nat), vs = [.str (tx l), .int (b : Int)] ∧ b ≤ l.length ∧ l.length ≤ 1000 ∧ ∀ (p : Addr) (H' : Hp), H p = none → H' p = some (.lst (lensV (begN l b))) → Same H H' → Q (.ref p) H'
/-- bounds, and _law_bounds, are spLens boundsN -/
def keepsB (ns : List Int) (b : Nat) (L : List Nat) : Bool := L.all fun k => decide (ns.getD b 0 ≤ ns.getD (b - k) 0 + 1)
def spKeeps : Sp := fun vs H Q _ => ∃ (p pl : Addr) (ns : List Int) (b : Nat) (L : List Nat), vs = [.ref p, .int (b : Int), .ref pl] ∧ H p = some (.lst (ns.map V.int)) ∧ b < ns.length ∧ H pl = some (.lst (lensV L)) ∧ L.length ≤ 1000 ∧ (∀ k ∈ L, k ≤ b) ∧
  ∀ H', Same H H' → Q (.bl (keepsB ns b L)) H'
def areB (l : List Nat) (ns : List Int) : Bool := decide (ns.length = l.length + 1) && (decide (ns.getD 0 0 = 0) && (List.range (l.length + 1)).all fun b => keepsB ns b (endsN (l.take b)))
def spAreB : Sp := fun vs H Q _ => ∃ (p : Addr) (ns : List Int) (l : List Nat), vs = [.ref p, .str (tx l)] ∧ rowL l = true ∧ H p = some (.lst (ns.map V.int)) ∧ ns.length ≤ 1000 ∧ ∀ H', Same H H' → Q (.bl (areB l ns)) H'
end Mr

namespace Mr
open PySem L2
/-! how many unlike mirrors -/
def kindsN (l : List Nat) : Nat := (mirs l l.length).length
def spKinds : Sp := fun vs H Q _ => ∃ l : List Nat, vs = [.str (tx l)] ∧ rowL l = true ∧ ∀ H', Same H H' → Q (.int (kindsN l : Nat)) H'
def spFull : Sp := fun vs H Q _ => ∃ l : List Nat, vs = [.str (tx l)] ∧ rowL l = true ∧ ∀ H', Same H H' → Q (.bl (decide (kindsN l = l.length))) H'
/-- a dict of which the keys are the texts of S -/
def SetL (kvs : List (Key × V)) (S : List Nat → Prop) (B : Nat) : Prop := ∃ ts : List (List Nat), ts.Nodup ∧ ts.length ≤ B ∧ kvs.length = ts.length ∧ (∀ x, (valV kvs (Sum.inr (tx x))).isSome = decide (x ∈ ts)) ∧ ∀ t, t ∈ ts ↔ S t
/-- the mirror stretches that end up to a place -/
def MirTo (l : List Nat) (i j : Nat) (t : List Nat) : Prop := ∃ f c, f < c ∧ c ≤ l.length ∧ (c ≤ i ∨ (c = i + 1 ∧ f < j)) ∧ t = sub l f c ∧ PalI l f c
end Mr

namespace Mr
open PySem L2
/-! cuts told: lists of pairs -/
def pairV (c : Nat × Nat) : HO := .tup [.int (c.1 : Int), .int (c.2 : Int)]
abbrev PairV := ReV pairV
/-- a cut from a place on -/
def CutFrom (l : List Nat) : Nat → List (Nat × Nat) → Prop
  | a, [] => a = l.length
  | a, c :: r => c.1 = a ∧ a < c.2 ∧ c.2 ≤ l.length ∧ PalI l a c.2 ∧ CutFrom l c.2 r
def firstsN (l : List Nat) (b : Nat) : List Nat := (begN l b).filter fun f => decide (fewI l f < fewI l b)
def nextB (l : List Nat) (b : Nat) : Nat := ((firstsN l b)[0]?).getD 0
def cutAcc (l : List Nat) : Nat → Nat → List (Nat × Nat) → List (Nat × Nat)
  | 0, _, acc => acc
  | n + 1, b, acc => if b = 0 then acc else cutAcc l n (nextB l b) ((nextB l b, b) :: acc)
def cutN (l : List Nat) : List (Nat × Nat) := cutAcc l l.length l.length []
def spFewest : Sp := fun vs H Q _ => ∃ l : List Nat, vs = [.str (tx l)] ∧ rowL l = true ∧ ∀ H', Same H H' → Q (.int (fewI l l.length : Nat)) H'
def spCut : Sp := fun vs H Q _ => ∃ l : List Nat, vs = [.str (tx l)] ∧ rowL l = true ∧ ∀ (p : Addr) (xs : List V) (H' : Hp), H p = none → H' p = some (.lst xs) → PairV H' xs (cutN l) → Same H H' → Q (.ref p) H'
/-- _law_is_cut of a cut -/
def spLIC : Sp := fun vs H Q _ => ∃ (p : Addr) (xs : List V) (cs : List (Nat × Nat)) (l : List Nat), vs = [.ref p, .str (tx l)] ∧ H p = some (.lst xs) ∧ PairV H xs cs ∧ cs.length ≤ 1000 ∧ l.length ≤ 1000 ∧ CutFrom l 0 cs ∧ ∀ H', Same H H' → Q (.bl true) H'
theorem bounds_last (l : List Nat) : (boundsN l).getLast? = some (fewI l l.length) := by
  unfold boundsN
  rw [List.range_succ, List.map_append]
  simp
end Mr

namespace Mr
open PySem L2
/-! where a text stands -/
def occF (l t : List Nat) : List Nat := (List.range l.length).filter fun f => decide ((l.drop f).take t.length = t)
def occN (l t : List Nat) : List (Nat × Nat) := (occF l t).map fun f => (f, f + t.length)
def occTo (l t : List Nat) (i : Nat) : List (Nat × Nat) := ((List.range i).filter fun f => decide ((l.drop f).take t.length = t)).map fun f => (f, f + t.length)
def spStrX (K : PySem.W.Frag) (C : Addr) : Sp := fun vs H Q E => ∃ (l : List Nat) (x : V), vs = [.str (tx l), x] ∧ rowL l = true ∧
  ((∃ t : List Nat, x = .str (tx t) ∧ mirV x = true ∧ t.length ≤ 1000 ∧ ∀ (p : Addr) (xs : List V) (H' : Hp), H p = none → H' p = some (.lst xs) → PairV H' xs (occN l t) → Same H H' → Q (.ref p) H') ∨ (Thing K H x ∧ mirV x = false ∧ ∀ H', Same H H' → E (.ref C) none H'))
def spTold32 (K : PySem.W.Frag) : Sp := fun vs H Q _ => ∃ (l : List Nat) (x : V), vs = [.str (tx l), x] ∧ rowL l = true ∧
  ((∃ t : List Nat, x = .str (tx t) ∧ mirV x = true ∧ t.length ≤ 1000 ∧ ∀ (p : Addr) (xs : List V) (H' : Hp), H p = none → H' p = some (.lst xs) → PairV H' xs (occN l t) → Same H H' → Q (.ref p) H') ∨ (Thing K H x ∧ mirV x = false ∧ ∀ H', Same H H' → Q (.str "mirror") H'))
def spStrL : Sp := fun vs H Q _ => ∃ (l t : List Nat), vs = [.str (tx l), .str (tx t)] ∧ l.length ≤ 1000 ∧ t.length ≤ 1000 ∧ ∀ (p : Addr) (xs : List V) (H' : Hp), H p = none → H' p = some (.lst xs) → PairV H' xs (occN l t) → Same H H' → Q (.ref p) H'
def pairD (c : Nat × Nat) : PyData := .tuple [.int (c.1 : Int), .int (c.2 : Int)]
theorem e_b1 : ("b" : Str) = tx [98] := by decide +kernel
end Mr

namespace L2
open PySem PySem.Spec PyProof.Rows
/-! ### methods of an own class, and making an instance -/
structure AtM (K : PySem.W.Frag) (C : Addr) (m qual : Str) (st : Stmt) (ps : List Str) : Prop where
  ex : ∃ (f : Addr) (fd : FuncData), Fun K m qual st f fd ∧ Meth K C m f ∧ Binds K fd ps []
section
variable {P : Program} {w : World} {K : PySem.W.Frag} {mg : Str → Option Value} {base : Heap}
structure Mt (P : Program) (w : World) (K : PySem.W.Frag) (mg : Str → Option Value) (base : Heap) (k : Nat) (C : Addr) (m : Str) (ps : List Str) (sp : Sp) : Prop where
  ex : ∃ (f : Addr) (fd : FuncData), FnOk P w K mg base CX0 k f fd ps sp ∧ Meth K C m f ∧ Binds K fd ps []
structure MtX (P : Program) (w : World) (K : PySem.W.Frag) (mg : Str → Option Value) (base : Heap) (k : Nat) (C : Addr) (m : Str) (ps : List Str) (sp : Sp) : Prop where
  ex : ∃ (f : Addr) (fd : FuncData), FnOk P w K mg base (CX1 P w) k f fd ps sp ∧ Meth K C m f ∧ Binds K fd ps []
/-- a class that may be made without arguments -/
structure MkC (P : Program) (w : World) (K : PySem.W.Frag) (mg : Str → Option Value) (base : Heap) (k : Nat) (C : Addr) (sp : Sp) : Prop where
  ex : ∃ (f : Addr) (fd : FuncData), FnOk P w K mg base CX0 k f fd ["self"] sp ∧ Mk K C f ∧ Binds K fd ["self"] []
end
section
variable {X : Cx} {k j : Nat} {C : Addr} {m x : Str} {ps : List Str} {sp : Sp} {e o : Expr} {es : List Expr} {p apos pos : Pos} {ta : TE} {t : TA} {pl : Sem Bool}
end
end L2
namespace L2
open PySem PySem.Spec PyProof.Rows
def tMethX (C : Addr) (m : Str) (sp : Sp) (Ex : XS) (ta : TE) (t : TA) : TE := fun σ H Q => ta σ H fun x H1 => ∃ a dx fs, x = .ref a ∧ H1 a = some (.ins C dx fs) ∧ fs.lookup m = none ∧ t σ H1 fun vs H2 => sp (x :: vs) H2 Q (Ex σ)
section
variable {X : Cx} {k j : Nat} {C : Addr} {m : Str} {ps : List Str} {sp : Sp} {o : Expr} {apos pos : Pos} {ta : TE} {pl : Sem Bool} {Ex : XS}
end
end L2

namespace Mr
open PySem L2
/-! how many unlike mirrors: a sign more, rows turned about, beginnings and ends -/
end Mr

namespace Mr
open PySem L2
/-! growers -/
structure GrA where
  g : Addr
  dx : Addr
  pe : Addr
  pb : Addr
  pt : Addr
  pn : Addr
def grF (A : GrA) (l : List Nat) : List (Str × V) := [("signs", .str (tx l)), ("endings", .ref A.pe), ("brought", .ref A.pb), ("entries", .ref A.pt), ("numbers", .ref A.pn)]
section
variable {A : GrA} {l : List Nat}
end
/-- the ends that the row had with each of its signs, and whether each brought a mirror -/
def grEnds (l : List Nat) : List (List Nat) := (List.range l.length).map fun i => endsN (l.take (i + 1))
def newsN (l : List Nat) : List Bool := (List.range l.length).map fun i => decide (topT l (i + 1) ∉ mirs l i)
def topL (l : List Nat) : List Nat := topT l l.length
/-- a grower at A with the row l; what it has made itself lies nowhere in B -/
structure GrV (B : Hp) (C : Addr) (H : Hp) (A : GrA) (l : List Nat) : Prop where
  dom : ∀ c, H c = none → B c = none
  row : rowL l = true
  ins : H A.g = some (.ins C A.dx (grF A l))
  ends : ∃ xs, H A.pe = some (.lst xs) ∧ LenV H xs (grEnds l) ∧ ∀ p, V.ref p ∈ xs → p ≠ A.pe ∧ p ≠ A.pb ∧ p ≠ A.pt ∧ B p = none
  news : H A.pb = some (.lst ((newsN l).map V.bl))
  tree : ∃ ts, H A.pt = some (.lst ts) ∧ TreeV H ts (treeN l)
  nums : NumD H A.pn (mirs l l.length)
  d1 : A.pe ≠ A.pb
  d2 : A.pe ≠ A.pt
  d3 : A.pb ≠ A.pt
/-- all but the grower's own things stays -/
def ButG (A : GrA) (H H' : Hp) : Prop := ∀ c o, H c = some o → c ≠ A.g → c ≠ A.pe → c ≠ A.pb → c ≠ A.pt → c ≠ A.pn → H' c = some o
/-- the things of a grower that was made behind H -/
def GrFree (A : GrA) (H : Hp) : Prop := H A.g = none ∧ H A.pe = none ∧ H A.pb = none ∧ H A.pt = none ∧ H A.pn = none
structure ClG (K : PySem.W.Frag) (mg : Str → Option Value) (C : Addr) : Prop where
  cl : Cls K C
  n1 : NoAttr K C "signs"
  n2 : NoAttr K C "endings"
  n3 : NoAttr K C "brought"
  n4 : NoAttr K C "entries"
  n5 : NoAttr K C "numbers"
  mgC : mg "Grower" = some (.ref C)
def spGInit (C : Addr) : Sp := fun vs H Q _ => ∃ (x dx : Addr) (B : Hp), vs = [.ref x] ∧ H x = some (.ins C dx []) ∧ (∀ c, H c = none → B c = none) ∧ ∀ (A : GrA) (H' : Hp), A.g = x → GrV B C H' A [] → H A.pe = none → H A.pb = none → H A.pt = none → H A.pn = none → (∀ c o, H c = some o → c ≠ x → H' c = some o) → Q .non H'
/-- what its ends want of a grower -/
structure GrE (C : Addr) (H : Hp) (A : GrA) (l : List Nat) : Prop where
  len : l.length ≤ 200
  ins : H A.g = some (.ins C A.dx (grF A l))
  ends : ∃ xs, H A.pe = some (.lst xs) ∧ LenV H xs (grEnds l)
def spGEnds (C : Addr) : Sp := fun vs H Q _ => ∃ (A : GrA) (l : List Nat), vs = [.ref A.g] ∧ GrE C H A l ∧ ∀ (p : Addr) (H' : Hp), H p = none → H' p = some (.lst (lensV (endsN l))) → Same H H' → Q (.ref p) H'
def spEW : Sp := fun vs H Q _ => ∃ (l : List Nat) (p : Addr) (c : Nat), vs = [.str (tx l), .ref p, .str (tx [c])] ∧ l.length ≤ 200 ∧ H p = some (.lst (lensV (endsN l))) ∧ ∀ (p' : Addr) (H' : Hp), H p' = none → H' p' = some (.lst (lensV (endsN (l ++ [c])))) → Same H H' → Q (.ref p') H'
def spAdd (C : Addr) : Sp := fun vs H Q _ => ∃ (B : Hp) (A : GrA) (l : List Nat) (c : Nat), vs = [.ref A.g, .str (tx [c])] ∧ GrV B C H A l ∧ 97 ≤ c ∧ c ≤ 122 ∧ l.length < 200 ∧
  ∀ (p : Addr) (H' : Hp), H p = none → H' p = some (.tup [.int (((mirs (l ++ [c]) (l ++ [c]).length).idxOf (topL (l ++ [c])) : Nat) : Int), .bl (decide (topL (l ++ [c]) ∉ mirs l l.length))]) → GrV B C H' A (l ++ [c]) → ButG A H H' → Q (.ref p) H'
end Mr

namespace Mr
open PySem L2
/-! how deep, and the tops -/
def topsN (l : List Nat) : List Nat := (List.range l.length).map fun i => (mirs l l.length).idxOf (topT l (i + 1))
def deepsN (l : List Nat) : List Nat := (List.range l.length).map fun i => (endsN (l.take (i + 1))).length
end Mr

namespace Mr
open PySem L2
/-! what growers tell -/
def spGRow (C : Addr) : Sp := fun vs H Q _ => ∃ (B : Hp) (A : GrA) (l : List Nat), vs = [.ref A.g] ∧ GrV B C H A l ∧ Q (.str (tx l)) H
def spGMany (C : Addr) : Sp := fun vs H Q _ => ∃ (B : Hp) (A : GrA) (l : List Nat), vs = [.ref A.g] ∧ GrV B C H A l ∧ Q (.int ((mirs l l.length).length : Nat)) H
def spGTree (C : Addr) : Sp := fun vs H Q _ => ∃ (B : Hp) (A : GrA) (l : List Nat), vs = [.ref A.g] ∧ GrV B C H A l ∧ ∀ (p : Addr) (xs : List V) (H' : Hp), H p = none → H' p = some (.lst xs) → TreeV H' xs (treeN l) → Same H H' → Q (.ref p) H'
def deepN (l : List Nat) : Nat := (deepsN l).sum
def spGMM (C : Addr) : Sp := fun vs H Q _ => ∃ (B : Hp) (A : GrA) (l : List Nat), vs = [.ref A.g] ∧ GrV B C H A l ∧ ∀ H', Same H H' → Q (.int (deepN l : Nat)) H'
def spAsked (C : Addr) : Sp := fun vs H Q _ => ∃ (B : Hp) (A : GrA) (l : List Nat) (kind : Int), vs = [.ref A.g, .str (tx l), .int kind] ∧ GrV B C H A l ∧ ∀ H', Same H H' → Q (.bl true) H'
end Mr
namespace Mr
open PySem L2
end Mr
namespace Mr
open PySem L2
def spTakeX (C c6 : Addr) : Sp := fun vs H Q E => ∃ (B : Hp) (A : GrA), vs = [.ref A.g] ∧
  ((∃ (l : List Nat) (c : Nat), GrV B C H A (l ++ [c]) ∧ ∀ H', GrV B C H' A l → ButG A H H' → Q (.str (tx [c])) H') ∨ (GrV B C H A [] ∧ ∀ H', Same H H' → E (.ref c6) none H'))
def spTakeG (C : Addr) : Sp := fun vs H Q _ => ∃ (B : Hp) (A : GrA) (l : List Nat) (c : Nat), vs = [.ref A.g] ∧ GrV B C H A (l ++ [c]) ∧ ∀ H', GrV B C H' A l → ButG A H H' → Q (.str (tx [c])) H'
end Mr

namespace L2
open PySem PySem.Spec PyProof.Rows
structure FnOkG (P : Program) (w : World) (K : PySem.W.Frag) (mg : Str → Option Value) (base : Heap) (CX : CXT) (k : Nat) (f : Addr) (fd : FuncData) (ps : List Str) (sp : Sp) : Prop where
  len : ∀ vs H Q E, sp vs H Q E → vs.length = ps.length
  run : ∀ (A : Around) (outer : List Env) (s : Shared) (H : Hp) (args : Args) (us : List Value) (vs : List V) (Q : VK) (E : XK), Room k A → A.guards = some [] → Env0 P w K mg base A outer s H → BindsTo s fd args (ps.zip us) → Vals vs us → sp vs H Q E →
    codeAny (model P w) A (.call (.ref f) args) (CR CX outer P w H s Q E) s
section
variable {P : Program} {w : World} {K : PySem.W.Frag} {mg : Str → Option Value} {base : Heap}
end
end L2

namespace L2
open PySem PySem.Spec PyProof.Rows
/-! ### defs that are called where no repr is under way -/
structure DfG (P : Program) (w : World) (K : PySem.W.Frag) (mg : Str → Option Value) (base : Heap) (k : Nat) (x : Str) (ps : List Str) (sp : Sp) : Prop where
  ex : ∃ (f : Addr) (fd : FuncData), FnOkG P w K mg base CX0 k f fd ps sp ∧ mg x = some (.ref f) ∧ PySem.W.keepIn K (.ref f) = true ∧ Binds K fd ps []
section
variable {X : Cx} {k j : Nat} {x : Str} {ps : List Str} {sp : Sp} {e : Expr} {es : List Expr} {p pos : Pos} {t : TA}
end
end L2

namespace Mr
open PySem L2
/-! two growers -/
/-- the things of one are none of the other's -/
def Apart (A A' : GrA) : Prop := ∀ c, (c = A.g ∨ c = A.pe ∨ c = A.pb ∨ c = A.pt ∨ c = A.pn) → c ≠ A'.g ∧ c ≠ A'.pe ∧ c ≠ A'.pb ∧ c ≠ A'.pt ∧ c ≠ A'.pn
def spRight25 (C : Addr) : Sp := fun vs H Q _ => ∃ (B : Hp) (A : GrA) (l : List Nat), vs = [.ref A.g, .str (tx l)] ∧ GrV B C H A l ∧ ∀ H', Same H H' → Q (.bl true) H'
end Mr
namespace Mr
open PySem L2
abbrev Not5 (c : Addr) (A : GrA) : Prop := c ≠ A.g ∧ c ≠ A.pe ∧ c ≠ A.pb ∧ c ≠ A.pt ∧ c ≠ A.pn
structure TwoS (B : Hp) (A1 A2 : GrA) (pg pr b : Addr) : Prop where
  ap : Apart A1 A2
  b1 : B A1.pe ≠ none ∧ B A1.pb ≠ none ∧ B A1.pt ≠ none
  b2 : B A2.pe ≠ none ∧ B A2.pb ≠ none ∧ B A2.pt ≠ none
  nb1 : Not5 b A1
  nb2 : Not5 b A2
  np1 : Not5 pr A1
  np2 : Not5 pr A2
  ng1 : Not5 pg A1
  ng2 : Not5 pg A2
  Bb : B b ≠ none
  Bp : B pr ≠ none
  bp : b ≠ pr
  bg : b ≠ pg
  pp : pg ≠ pr
structure Two (B : Hp) (C : Addr) (H : Hp) (A1 A2 : GrA) (pg pr b : Addr) (l1 l2 : List Nat) (n : Int) : Prop where
  g1 : GrV B C H A1 l1
  g2 : GrV B C H A2 l2
  hg : H pg = some (.lst [.ref A1.g, .ref A2.g])
  hr : H pr = some (.lst [.str (tx l1), .str (tx l2)])
  n0 : 0 ≤ n
  hb : H b = some (.lst [.int n])
section
variable {B H H' : Hp} {C : Addr} {A1 A2 : GrA} {pg pr b : Addr} {l1 l2 l1' l2' : List Nat} {n n' : Int}
end
end Mr

namespace Mr
open PySem L2
def spTaken (C : Addr) : Sp := fun vs H Q _ => ∃ (B : Hp) (A : GrA), vs = [.ref A.g] ∧
  ((∃ (l : List Nat) (c : Nat), GrV B C H A (l ++ [c]) ∧ ∀ H', GrV B C H' A l → ButG A H H' → Q (.str (tx [c])) H') ∨ (GrV B C H A [] ∧ ∀ H', Same H H' → Q (.str (tx [98, 97, 114, 101])) H'))
end Mr

namespace Mr
open PySem L2
/-! how many stretches are mirrors: place by place -/
def p01 (l : List Nat) (a b : Nat) : Nat := if palB l a b = true then 1 else 0
end Mr

namespace L2
open PySem
section
variable {X : Cx} {pos : Pos} {t u : TS}
/-- an if of which the test tells J: the ways through the test meet ahead of both branches -/
def tIfJ (c : TT) (t u : TS) : TS := fun D σ H => ∃ J : Bool → Hp → Prop, c σ H J ∧ ∀ b H1, J b H1 → if b = true then t D σ H1 else u D σ H1
end
end L2
namespace Mr
open PySem L2
/-! all that a grower tells, in a list -/
def toldV (l : List Nat) (pe pt : Addr) : List V := [.str (tx l), .int ((mirs l l.length).length : Nat), .ref pe, .ref pt, .int (deepN l : Nat)]
def spTold27 (C : Addr) : Sp := fun vs H Q _ => ∃ (B : Hp) (A : GrA) (l : List Nat), vs = [.ref A.g] ∧ GrV B C H A l ∧
  ∀ (p pe pt : Addr) (xs : List V) (H' : Hp), H p = none → H' p = some (.lst (toldV l pe pt)) → H' pe = some (.lst (lensV (endsN l))) → H' pt = some (.lst xs) → TreeV H' xs (treeN l) → Same H H' → Q (.ref p) H'
end Mr

namespace Mr
open PySem L2
/-! what is no row is refused -/
def spNR1 (K : PySem.W.Frag) (C : Addr) : Sp := fun vs H _ E => ∃ x : V, vs = [x] ∧ Thing K H x ∧ rowV x = false ∧ ∀ H', Same H H' → E (.ref C) none H'
def spNRa (K : PySem.W.Frag) (C : Addr) : Sp := fun vs H _ E => ∃ x y : V, vs = [x, y] ∧ Thing K H x ∧ rowV x = false ∧ ∀ H', Same H H' → E (.ref C) none H'
def spNRb (K : PySem.W.Frag) (C : Addr) : Sp := fun vs H _ E => ∃ x y : V, vs = [y, x] ∧ Thing K H x ∧ rowV x = false ∧ ∀ H', Same H H' → E (.ref C) none H'
def spWay07 (K : PySem.W.Frag) (C : Addr) (n : Nat) : Sp := fun vs H _ E => ∃ (x : V) (v : Nat), vs = [.int (v : Int), x] ∧ v < n ∧ Thing K H x ∧ rowV x = false ∧ ∀ H', Same H H' → E (.ref C) none H'
def spTold07 (K : PySem.W.Frag) : Sp := fun vs H Q _ => ∃ (x : V) (h v : Nat), vs = [.int (h : Int), .int (v : Int), x] ∧ ((h = 0 ∧ v < 10) ∨ (h = 1 ∧ v < 9)) ∧ Thing K H x ∧ rowV x = false ∧ ∀ H', Same H H' → Q (.str ("row" : Str)) H'
/-- need_row: nothing where it is a row, else NoRow -/
def spNeedX (K : PySem.W.Frag) (C : Addr) : Sp := fun vs H Q E => ∃ x, vs = [x] ∧ Thing K H x ∧ (rowV x = true → ∀ H', Same H H' → Q .non H') ∧ (rowV x = false → ∀ H', Same H H' → E (.ref C) none H')
end Mr

namespace L2
open PySem PySem.Spec PyProof.Rows
section
variable {X : Cx} {k j : Nat} {C : Addr} {m : Str} {ps : List Str} {sp : Sp} {o e : Expr} {es : List Expr} {apos pos : Pos} {ta : TE} {t : TA} {pl : Sem Bool} {Ex : XS}
end
end L2
namespace Mr
open PySem L2
/-! a grower that is handed whatever -/
def spAddX (K : PySem.W.Frag) (C c5 c7 : Addr) : Sp := fun vs H Q E => ∃ (B : Hp) (A : GrA) (x : V), vs = [.ref A.g, x] ∧
  ((∃ (l : List Nat) (c : Nat), x = .str (tx [c]) ∧ GrV B C H A l ∧ 97 ≤ c ∧ c ≤ 122 ∧ l.length < 200 ∧
      ∀ (p : Addr) (H' : Hp), H p = none → H' p = some (.tup [.int (((mirs (l ++ [c]) (l ++ [c]).length).idxOf (topL (l ++ [c])) : Nat) : Int), .bl (decide (topL (l ++ [c]) ∉ mirs l l.length))]) → GrV B C H' A (l ++ [c]) → ButG A H H' → Q (.ref p) H') ∨
   (∃ l : List Nat, GrV B C H A l ∧ Thing K H x ∧ (rowV x = false ∨ ∃ m : List Nat, x = .str (tx m) ∧ m.length ≤ 100000 ∧ m.length ≠ 1) ∧ ∀ H', Same H H' → E (.ref c5) none H') ∨
   (∃ (l : List Nat) (c : Nat), x = .str (tx [c]) ∧ GrV B C H A l ∧ 97 ≤ c ∧ c ≤ 122 ∧ l.length = 200 ∧ ∀ H', Same H H' → E (.ref c7) none H'))
def spState26 (C : Addr) : Sp := fun vs H Q _ => ∃ (B : Hp) (A : GrA) (l : List Nat), vs = [.ref A.g] ∧ GrV B C H A l ∧
  ∀ (p pe : Addr) (H' : Hp), H p = none → H pe = none → H' p = some (.tup [.str (tx l), .int ((mirs l l.length).length : Nat), .ref pe, .int ((mirs l l.length).length : Nat), .int (deepN l : Nat)]) → H' pe = some (.lst (lensV ((endsN l).take 3))) → Same H H' → Q (.ref p) H'
def spTold26 (K : PySem.W.Frag) (C : Addr) : Sp := fun vs H Q _ => ∃ (B : Hp) (A : GrA) (x : V), vs = [.ref A.g, x] ∧
  ((∃ l : List Nat, GrV B C H A l ∧ Thing K H x ∧ (rowV x = false ∨ ∃ m : List Nat, x = .str (tx m) ∧ m.length ≤ 100000 ∧ m.length ≠ 1) ∧ ∀ H', Same H H' → Q (.str ("sign" : Str)) H') ∨
   (∃ (l : List Nat) (c : Nat), x = .str (tx [c]) ∧ GrV B C H A l ∧ 97 ≤ c ∧ c ≤ 122 ∧ l.length = 200 ∧ ∀ H', Same H H' → Q (.str ("many" : Str)) H'))
end Mr

namespace L2
open PySem PySem.Spec PyProof.Rows PySem.SeqAt PySem.MeetsSeq
/-! ### xs.count(n) of ints; xs[i] op= e -/
section
variable {X : Cx}
def rCountI : V → List V → Hp → VK → Prop := fun x vs H Q => ∃ (l : Addr) (ns : List Int) (n : Int), x = .ref l ∧ vs = [.int n] ∧ H l = some (.lst (ns.map V.int)) ∧ Q (.int (ns.count n : Nat)) H
end
end L2

namespace L2
open PySem PySem.Spec PyProof.Rows PySem.SeqAt PySem.MeetsSeq
/-! ### a dict that stands at the top -/
def TopD (K : PySem.W.Frag) (a : Addr) (kvs : List (Key × V)) : Prop :=
  ∃ (o : Obj) (es : Array DictEntry) (ep : Nat) (vs : List (Key × Value)), K.lookup a = some o ∧ o.ExactDict ∧ o.data = .dict es ep ∧ (∀ (P : Program) (w : World), KeysOf (mixKind P w) es ∧ Pairs (mixKind P w) es.toList vs) ∧ (vs.map (·.1)).Nodup ∧ KV kvs vs ∧ (a == sysModules) = false
section
variable {X : Cx} {o i : Expr} {pos : Pos} {td ty : TE} {a : Addr} {kvs : List (Key × V)}
def tTGet (a : Addr) (kvs : List (Key × V)) (td ty : TE) : TE := fun σ H Q => td σ H fun x H1 => ty σ H1 fun y H2 => ∃ k v, x = .ref a ∧ y = kV k ∧ valV kvs k = some v ∧ Q v H2
end
end L2

namespace L2
open PySem PySem.Spec PyProof.Rows
/-! ### the end of a range while an exception is handled -/
/-- what is handled is an exception that is tracked -/
def Hand (A : Around) (H : Hp) : Prop := ∃ a cls, A.handled = some (.ref a) ∧ H a = some (excO a cls)
/-- what is walked while A stands around -/
structure TurnH (P : Program) (w : World) (K : PySem.W.Frag) (A : Around) (tg : Expr) (J : It) (fp : List Addr) (it : Addr) (tn : Nat → Heap → Prop) : Prop where
  obj : ∀ i h, tn i h → ∀ b ∈ fp, ∃ o, h.get? b = some o ∧ ∀ v, o.data ≠ .cell v
  keep : ∀ i h h', tn i h → (∀ b ∈ fp, ∀ o, h.get? b = some o → h'.get? b = some o) → tn i h'
  item : ∀ (X : Cx), X.prog = P → X.w = w → X.K = K → X.A = A → ∀ (i : Nat) (pins : List (Addr × Obj)) (s : Shared) (σ : St) (H : Hp) (E : Value → Shared → Prop), Inv X pins σ H s → (∀ b ∈ fp, FpOk X pins H b) → tn i s.heap → J.go i H →
    wpAny (model P w) X.A (pyNext (.ref it)) (fun r s1 => ∃ u, r = some u ∧ wpAny (model P w) X.A (letOwnedTupleGo tg (.ref it) u) (fun _ s2 => ∃ x H', Inv X pins σ H' s2 ∧ RelV x u ∧ J.yld i H x H' ∧ tn (i + 1) s2.heap ∧ ∀ b ∈ fp, H' b = none) E s1) E s
  done : ∀ (X : Cx), X.prog = P → X.w = w → X.K = K → X.A = A → ∀ (i : Nat) (pins : List (Addr × Obj)) (s : Shared) (σ : St) (H : Hp) (E : Value → Shared → Prop), Inv X pins σ H s → (∀ b ∈ fp, FpOk X pins H b) → tn i s.heap → J.stop i H →
    wpAny (model P w) X.A (pyNext (.ref it)) (fun r s1 => r = none ∧ Inv X pins σ H s1) E s
  self : ∀ (A : Around) (i : Nat) (s : Shared) (Q : Value → Shared → Prop) (E : Value → Shared → Prop), tn i s.heap → Q (.ref it) s → wpAny (model P w) A (pyIter (.ref it)) Q E s
/-- lo, lo + 1, .. while an exception is handled -/
def ItrH (A : Around) (lo : Int) (n : Nat) : It := ⟨fun i _ => i < n, fun i H x H' => H' = H ∧ x = .int (lo + i), fun i H => n ≤ i ∧ Hand A H⟩
def PIEH (X : Cx) (pins : List (Addr × Obj)) (σ : St) (tg : Expr) (R : It → Hp → Prop) (itv : Value) (s2 : Shared) : Prop :=
  ∃ (it : Addr) (fp : List Addr) (tn : Nat → Heap → Prop) (J : It) (H' : Hp), itv = .ref it ∧ Inv X pins σ H' s2 ∧ TurnH X.prog X.w X.K X.A tg J fp it tn ∧ tn 0 s2.heap ∧ (∀ b ∈ fp, FpOk X pins H' b) ∧ R J H'
def PIH (X : Cx) (tg iter : Expr) (wi : TI) : Prop :=
  ∀ (pins : List (Addr × Obj)) (s : Shared) (σ : St) (H : Hp) (R : It → Hp → Prop), Inv X pins σ H s → wi σ H R →
    wpAny (model X.prog X.w) X.A (eval iter X.env) (fun v s1 => wpAny (model X.prog X.w) X.A (pyIter v) (PIEH X pins σ tg R) X.xe s1) X.xe s
section
variable {X : Cx} {tg : Expr}
def iRngH (A : Around) (ta : TA) : TI := fun σ H R => ta σ H fun vs H1 => ∃ j : Int, vs = [.int j] ∧ -(2 ^ 62) ≤ j ∧ j < 2 ^ 62 ∧ R (ItrH A 0 j.toNat) H1
end
section
variable {X : Cx} {scope : Scope} {cl : List (Str × Addr)} {x : Str} {ys : List Str} {ix : List Nat}
end
/-! ### a def that is called while an exception is handled -/
structure FnOkH (P : Program) (w : World) (K : PySem.W.Frag) (mg : Str → Option Value) (base : Heap) (k : Nat) (f : Addr) (fd : FuncData) (ps : List Str) (sp : Sp) : Prop where
  len : ∀ vs H Q E, sp vs H Q E → vs.length = ps.length
  run : ∀ (A : Around) (outer : List Env) (s : Shared) (H : Hp) (args : Args) (us : List Value) (vs : List V) (Q : VK) (E : XK), RoomN k A → Hand A H → Env0 P w K mg base A outer s H → BindsTo s fd args (ps.zip us) → Vals vs us → sp vs H Q E →
    codeAny (model P w) A (.call (.ref f) args) (CR CX0 outer P w H s Q E) s
structure DfH (P : Program) (w : World) (K : PySem.W.Frag) (mg : Str → Option Value) (base : Heap) (k : Nat) (x : Str) (ps : List Str) (sp : Sp) : Prop where
  ex : ∃ (f : Addr) (fd : FuncData), FnOkH P w K mg base k f fd ps sp ∧ mg x = some (.ref f) ∧ PySem.W.keepIn K (.ref f) = true ∧ Binds K fd ps []
def tCallH (A : Around) (sp : Sp) (t : TA) : TE := fun σ H Q => t σ H fun vs H1 => Hand A H1 ∧ sp vs H1 Q E0
section
variable {P : Program} {w : World} {K : PySem.W.Frag} {mg : Str → Option Value} {base : Heap}
end
section
variable {X : Cx} {k j : Nat} {x : Str} {ps : List Str} {sp : Sp} {e : Expr} {es : List Expr} {p pos : Pos} {t : TA}
end
/-! ### the name of an exception, where a comprehension of the suite reads it: it lies in a cell -/
section
variable {X : Cx} {pins : List (Addr × Obj)} {σ : St} {H : Hp} {s : Shared}
end
/-! ### try: .. except C as n: .., the suite knows what is handled -/
def tTryE (tb : XS → TS) (K : PySem.W.Frag) (R : Value) (i : Nat) (ts : Value → TS) : TS := fun D σ H => ∃ Ex : XS, tb Ex D σ H ∧ ∀ σ' cls H', Ex σ' cls none H' → PySem.W.exmOne K cls R = some true ∧ ∀ a, H' a = none →
  ts (.ref a) { nx := fun σ2 H2 => D.nx (σ2.set i none) H2, rt := D.rt, bk := fun σ2 H2 => D.bk (σ2.set i none) H2, ct := fun σ2 H2 => D.ct (σ2.set i none) H2 } (σ'.set i (some (.ref a))) (upd H' a (excO a cls))
section
variable {X : Cx} {Ex : XS} {pins : List (Addr × Obj)} {tb : XS → TS} {ts : Value → TS} {c n : Str} {i : Nat} {R : Addr} {body suite : List Stmt} {b₀ : Stmt} {np hpos pos : Pos}
end
end L2

namespace L2
open PySem PySem.Spec PyProof.Rows
/-! ### a def with several promises -/
structure DfU (P : Program) (w : World) (K : PySem.W.Frag) (mg : Str → Option Value) (base : Heap) (k : Nat) (x : Str) (sp : Sp) : Prop where
  ex : ∃ f : Addr, mg x = some (.ref f) ∧ PySem.W.keepIn K (.ref f) = true ∧ ∀ (A : Around) (outer : List Env) (s : Shared) (H : Hp) (us : List Value) (vs : List V) (Q : VK) (E : XK), K.In s.heap → Room k A → Env0 P w K mg base A outer s H → Vals vs us → sp vs H Q E →
    codeAny (model P w) A (.call (.ref f) ⟨us, []⟩) (CR (CX1 P w) outer P w H s Q E) s
section
variable {P : Program} {w : World} {K : PySem.W.Frag} {mg : Str → Option Value} {base : Heap} {k : Nat} {x : Str} {ps : List Str} {sp sp' : Sp}
end
end L2

namespace Mr
open PySem L2
/-- the classes of the refusals, as the text has them -/
structure Errs12 (K : PySem.W.Frag) (mg : Str → Option Value) (R c0 c1 c2 c3 c4 c5 c6 c7 c8 c9 c10 c11 : Addr) : Prop where
  mR : mg "RowError" = some (.ref R)
  m0 : mg "NoRow" = some (.ref c0)
  m1 : mg "NoCount" = some (.ref c1)
  m2 : mg "TooLong" = some (.ref c2)
  m3 : mg "TooMany" = some (.ref c3)
  m4 : mg "NoReaches" = some (.ref c4)
  m5 : mg "NoLine" = some (.ref c5)
  m6 : mg "Bare" = some (.ref c6)
  m7 : mg "NoLengths" = some (.ref c7)
  m8 : mg "NoMirror" = some (.ref c8)
  m9 : mg "NoNumber" = some (.ref c9)
  m10 : mg "NoSign" = some (.ref c10)
  m11 : mg "NoMiddle" = some (.ref c11)
/-- the class c, the one at place i, is raised and may be asked for -/
structure Rsd (K : PySem.W.Frag) (R : Addr) (cs : List Addr) (i : Nat) (c : Addr) : Prop where
  lt : i < 12
  ex : X.ExC K c
  kr : PySem.W.kitOne K (.ref c) (.ref R) = some true
  kv : PySem.W.kitOne K (.ref c) (.type "ValueError") = some true
  kk : ∀ (j : Nat) (d : Addr), cs[j]? = some d → PySem.W.kitOne K (.ref c) (.ref d) = some (decide (i = j))
def cls12 (i : Nat) : List V := (List.range 12).map fun j => V.bl (decide (i = j))
def spClasses (K : PySem.W.Frag) (R : Addr) (cs : List Addr) : Sp := fun vs H Q _ => ∃ (a c : Addr) (i : Nat), vs = [.ref a] ∧ H a = some (excO a (.ref c)) ∧ Rsd K R cs i c ∧ ∀ p H', H p = none → H' p = some (.lst (cls12 i)) → Same H H' → Q (.ref p) H'
def spOnly (K : PySem.W.Frag) (R : Addr) (cs : List Addr) : Sp := fun vs H Q _ => ∃ (a c : Addr) (i j : Nat), vs = [.ref a, .int (j : Int)] ∧ H a = some (excO a (.ref c)) ∧ Rsd K R cs i c ∧ j < 12 ∧ ∀ H', Same H H' → Q (.bl (decide (i = j))) H'
/-- a thing that is no row -/
def spNoRow (K : PySem.W.Frag) : Sp := fun vs H Q _ => ∃ (b : Addr) (n : Int), vs = [.ref b] ∧ H b = some (.lst [.int n]) ∧ ∀ (x : V) (n' : Int) (H' : Hp), Thing K H' x → rowV x = false → H' b = some (.lst [.int n']) → But b H H' → Q x H'
end Mr

namespace L2
open PySem PySem.Spec PyProof.Rows
section
variable {X : Cx} {Ex : XS} {pins : List (Addr × Obj)} {tb : XS → TS} {ts : Value → TS} {c n : Str} {i : Nat} {R : Addr} {body suite : List Stmt} {b₀ : Stmt} {np hpos pos : Pos}
end
end L2

namespace L2
open PySem PySem.Spec PyProof.Rows PySem.StrLaws PySem.Builtin PySem.Builtin.Str
/-! ### text.split(sign), int(text of a number) -/
def splitL (c : Nat) : List Nat → List (List Nat)
  | [] => [[]]
  | x :: r => if x = c then [] :: splitL c r else match splitL c r with
    | [] => [[x]]
    | w :: ws => (x :: w) :: ws
section
variable {X : Cx}
def rSplit : V → List V → Hp → VK → Prop := fun x vs H Q => ∃ (l : List Nat) (c : Nat), x = .str (tx l) ∧ vs = [.str (tx [c])] ∧ c < 256 ∧ l.length ≤ 100000 ∧ ∀ p, H p = none → Q (.ref p) (upd H p (.lst ((splitL c l).map fun w => V.str (tx w))))
/-- the signs of a number -/
def numL (n : Nat) : List Nat := (Nat.toDigits 10 n).map Char.toNat
end
end L2

namespace L2
open PySem PySem.Spec PyProof.Rows PySem.SeqAt PySem.MeetsSeq
section
variable {X : Cx} {k : Nat} {y : Str} {p pos : Pos} {e : Expr} {es : List Expr} {te : TE} {t : TA}
/-! ### a function called by a local name; x in a dict that stands at the top -/
/-- a function that is known, with its promise -/
def KnF (P : Program) (w : World) (K : PySem.W.Frag) (mg : Str → Option Value) (base : Heap) (k : Nat) (f : Addr) (sp : Sp) : Prop := ∃ (fd : FuncData) (ps : List Str), FnOk P w K mg base CX0 k f fd ps sp ∧ PySem.W.keepIn K (.ref f) = true ∧ Binds K fd ps []
def tCallV (P : Program) (w : World) (K : PySem.W.Frag) (mg : Str → Option Value) (base : Heap) (k : Nat) (te : TE) (t : TA) : TE := fun σ H Q => te σ H fun v H1 => ∃ (f : Addr) (sp : Sp), v = .ref f ∧ KnF P w K mg base k f sp ∧ tCall sp [] E0 t σ H1 Q
end
section
variable {X : Cx} {o i : Expr} {td ty : TE} {a : Addr} {kvs : List (Key × V)}
def tTIn (a : Addr) (kvs : List (Key × V)) (ty td : TE) : TE := fun σ H Q => ty σ H fun y H1 => td σ H1 fun x H2 => ∃ k, x = .ref a ∧ y = kV k ∧ Q (.bl (valV kvs k).isSome) H2
/-- a dict that stands at the top, in this world: its keys may be texts -/
def TopW (P : Program) (w : World) (K : PySem.W.Frag) (a : Addr) (kvs : List (Key × V)) : Prop :=
  ∃ (o : Obj) (es : Array DictEntry) (ep : Nat) (vs : List (Key × Value)), K.lookup a = some o ∧ o.ExactDict ∧ o.data = .dict es ep ∧ KeysOf (mixKind P w) es ∧ Pairs (mixKind P w) es.toList vs ∧ (vs.map (·.1)).Nodup ∧ KV kvs vs ∧ (a == sysModules) = false
end
end L2

namespace L2
open PySem PySem.Spec PyProof.Rows
section
variable {X : Cx} {a b : Expr} {rest : List Expr} {pos : Pos} {ta tb : TE}
/-- a text, or what stands behind it -/
def tOrT (ta tb : TE) : TE := fun σ H Q => ta σ H fun x H1 => ∃ z : Str, x = .str z ∧ z.length ≤ sizeLine ∧ if z.length = 0 then tb σ H1 Q else Q (.str z) H1
end
end L2

namespace Mr
open PySem L2
/-! the desk -/
def wNone : List Nat := [110, 111, 110, 101]
def wClear : List Nat := [99, 108, 101, 97, 114]
def wTake : List Nat := [116, 97, 107, 101]
def wAdd : List Nat := [97, 100, 100]
def wRow : List Nat := [114, 111, 119]
def wBack : List Nat := [98, 97, 99, 107]
def figs : List Nat := [48, 49, 50, 51, 52, 53, 54, 55, 56, 57]
def tonL (l : List Nat) : List Nat := if l = [] then wNone else l
def spTON : Sp := fun vs H Q _ => ∃ l : List Nat, vs = [.str (tx l)] ∧ l.length ≤ 1000 ∧ Q (.str (tx (tonL l))) H
def spTellRow : Sp := fun vs H Q _ => ∃ l : List Nat, vs = [.str (tx l)] ∧ rowL l = true ∧ ∀ H', Same H H' → Q (.str (tx (tonL l))) H'
def spTellBack : Sp := fun vs H Q _ => ∃ l : List Nat, vs = [.str (tx l)] ∧ rowL l = true ∧ ∀ H', Same H H' → Q (.str (tx (tonL l.reverse))) H'
def isNumB (w : List Nat) : Bool := decide (1 ≤ w.length) && (decide (w.length ≤ 4) && (w.all (fun c => decide (c ∈ figs)) && (decide (w = [48]) || decide (w[0]? ≠ some 48))))
def spIsNum : Sp := fun vs H Q _ => ∃ w : List Nat, vs = [.str (tx w)] ∧ w.length ≤ 1000 ∧ ∀ H', Same H H' → Q (.bl (isNumB w)) H'
def spWA (C : Addr) : Sp := fun vs H Q E => ∃ l w : List Nat, vs = [.str (tx l), .str (tx w)] ∧ l.length ≤ 1000 ∧ w.length ≤ 1000 ∧ ((l.length + w.length ≤ 200 ∧ Q (.str (tx (l ++ w))) H) ∨ (200 < l.length + w.length ∧ E (.ref C) none H))
def spWT (C : Addr) : Sp := fun vs H Q E => ∃ (l : List Nat) (n : Nat), vs = [.str (tx l), .int (n : Int)] ∧ l.length ≤ 1000 ∧ ((n ≤ l.length ∧ Q (.str (tx (l.take (l.length - n)))) H) ∨ (l.length < n ∧ E (.ref C) none H))
def wordsV (ws : List (List Nat)) : List V := ws.map fun w => V.str (tx w)
/-- what a line makes of the row: Bare or TooMany where it is refused -/
def RBn (B T : Addr) (l : List Nat) (ws : List (List Nat)) (H : Hp) (Q : VK) (E : XK) : Prop :=
  (ws = [wClear] ∧ ∀ H', Same H H' → Q (.str (tx [])) H') ∨
  (∃ n : Nat, ((n = 1 ∧ ws = [wTake]) ∨ (n < 400 ∧ ws = [wTake, numL n])) ∧ ((n ≤ l.length ∧ ∀ H', Same H H' → Q (.str (tx (l.take (l.length - n)))) H') ∨ (l.length < n ∧ ∀ H', Same H H' → E (.ref B) none H'))) ∨
  (∃ w : List Nat, ws = [wAdd, w] ∧ rowL w = true ∧ w ≠ [] ∧ ((l.length + w.length ≤ 200 ∧ ∀ H', Same H H' → Q (.str (tx (l ++ w))) H') ∨ (200 < l.length + w.length ∧ ∀ H', Same H H' → E (.ref T) none H'))) ∨
  (∃ w : List Nat, ws = [w] ∧ w ≠ wClear ∧ w ≠ wTake ∧ ∀ H', Same H H' → Q .non H')
def spRB (B T : Addr) : Sp := fun vs H Q E => ∃ (l : List Nat) (p : Addr) (ws : List (List Nat)), vs = [.str (tx l), .ref p] ∧ rowL l = true ∧ H p = some (.lst (wordsV ws)) ∧ RBn B T l ws H Q E
/-- a line that asks: by the table of what is asked -/
def spAns (P : Program) (w : World) (K : PySem.W.Frag) (mg : Str → Option Value) (base : Heap) (k : Nat) (kvs : List (Key × V)) : Sp := fun vs H Q _ => ∃ (l : List Nat) (p : Addr) (a : List Nat) (f : Addr) (sp : Sp), vs = [.str (tx l), .ref p] ∧ H p = some (.lst (wordsV [a])) ∧
  valV kvs (Sum.inr (tx a)) = some (.ref f) ∧ KnF P w K mg base k f sp ∧ sp [.str (tx l)] H Q E0
end Mr

namespace Mr
open PySem L2
/-! a desk -/
structure ClD (K : PySem.W.Frag) (mg : Str → Option Value) (C : Addr) : Prop where
  cl : Cls K C
  n1 : NoAttr K C "kept"
  mgC : mg "Desk" = some (.ref C)
def dkO (C dx : Addr) (l : List Nat) : HO := .ins C dx [("kept", .str (tx l))]
def spDInit (C : Addr) : Sp := fun vs H Q _ => ∃ (x dx : Addr), vs = [.ref x] ∧ H x = some (.ins C dx []) ∧ Q .non (upd H x (dkO C dx []))
/-- what is behind a line: the row that it makes, or what it asks -/
def SayQ (P : Program) (w : World) (K : PySem.W.Frag) (mg : Str → Option Value) (base : Heap) (k : Nat) (kvs : List (Key × V)) (C dk dx : Addr) (l : List Nat) (ws : List (List Nat)) (H : Hp) (Q : VK) : VK := fun v H1 =>
  (∃ l' : List Nat, v = .str (tx l') ∧ l'.length ≤ 1000 ∧ ∀ H', H' dk = some (dkO C dx l') → But dk H H' → Q (.str (tx (numL l'.length))) H') ∨
  (v = .non ∧ ∃ (a : List Nat) (f : Addr) (sp : Sp), ws = [a] ∧ valV kvs (Sum.inr (tx a)) = some (.ref f) ∧ KnF P w K mg base k f sp ∧ sp [.str (tx l)] H1 Q E0)
def spSay (P : Program) (w : World) (K : PySem.W.Frag) (mg : Str → Option Value) (base : Heap) (k : Nat) (kvs : List (Key × V)) (C B T : Addr) : Sp := fun vs H Q E => ∃ (dk dx : Addr) (l line : List Nat), vs = [.ref dk, .str (tx line)] ∧ H dk = some (dkO C dx l) ∧ rowL l = true ∧ line.length ≤ 1000 ∧
  RBn B T l (splitL 32 line) H (SayQ P w K mg base k kvs C dk dx l (splitL 32 line) H Q) E
/-- what _law_said tells: the answer, or the place of the class -/
def spSaid (P : Program) (w : World) (K : PySem.W.Frag) (mg : Str → Option Value) (base : Heap) (k : Nat) (kvs : List (Key × V)) (C B T : Addr) : Sp := fun vs H Q _ => ∃ (dk dx : Addr) (l line : List Nat), vs = [.ref dk, .str (tx line)] ∧ H dk = some (dkO C dx l) ∧ rowL l = true ∧ line.length ≤ 1000 ∧
  RBn B T l (splitL 32 line) H (SayQ P w K mg base k kvs C dk dx l (splitL 32 line) H Q) (fun c _ _ => ∃ i : Nat, ((c = .ref B ∧ i = 6) ∨ (c = .ref T ∧ i = 3)) ∧ ∀ p H'', H p = none → H'' p = some (.lst [.int (i : Int)]) → Same H H'' → Q (.ref p) H'')
end Mr

namespace Mr
open PySem L2
/-! what a desk says to its lines -/
section
variable {P : Program} {w : World} {K : PySem.W.Frag} {mg : Str → Option Value} {base : Heap} {k : Nat} {kvs : List (Key × V)} {C B T dk dx f0 : Addr} {l : List Nat} {H : Hp} {Q : VK} {E : XK}
/-- the line that takes n signs: the bare word, or with a number -/
def TakeL (n : Nat) (line : List Nat) : Prop := (n = 1 ∧ line = wTake) ∨ (n < 400 ∧ line = wTake ++ 32 :: numL n)
end
/-- both the same text, or both a list with the same number -/
def FdV (H : Hp) (x y : V) : Prop := (∃ z : List Nat, x = .str (tx z) ∧ y = .str (tx z)) ∨ ∃ p q : Addr, x = .ref p ∧ y = .ref q ∧ H p = some (.lst [.int 6]) ∧ H q = some (.lst [.int 6])
end Mr

namespace L2
open PySem PySem.Spec PyProof.Rows PySem.SeqAt PySem.MeetsSeq
/-! ### sep.join(texts) -/
section
variable {X : Cx}
def joinL (sep : List Nat) : List (List Nat) → List Nat
  | [] => []
  | z :: zs => z ++ (zs.map (sep ++ ·)).flatten
end
end L2

namespace Mr
open PySem L2
/-! what a desk tells beside the row -/
section
variable {P : Program} {w : World} {K : PySem.W.Frag} {mg : Str → Option Value} {base : Heap} {k : Nat} {kvs : List (Key × V)} {C B T dk dx f0 : Addr} {l : List Nat} {H : Hp} {Q : VK} {E : XK}
end
/-- a number told as a text -/
def spTellN (f : List Nat → Nat) : Sp := fun vs H Q _ => ∃ l : List Nat, vs = [.str (tx l)] ∧ rowL l = true ∧ f l < 10 ^ 10 ∧ ∀ H', Same H H' → Q (.str (tx (numL (f l)))) H'
def wYes : List Nat := [121, 101, 115]
def wNo : List Nat := [110, 111]
def spTellFull : Sp := fun vs H Q _ => ∃ l : List Nat, vs = [.str (tx l)] ∧ rowL l = true ∧ ∀ H', Same H H' → Q (.str (tx (if kindsN l = l.length then wYes else wNo))) H'
end Mr
namespace Mr
open PySem L2
/-- the mirrors of the row in their order, each behind the other -/
def spTellTree : Sp := fun vs H Q _ => ∃ l : List Nat, vs = [.str (tx l)] ∧ rowL l = true ∧ (joinL [32] (mirs l l.length)).length ≤ 1000 ∧ ∀ H', Same H H' → Q (.str (tx (tonL (joinL [32] (mirs l l.length))))) H'
end Mr
namespace Mr
open PySem L2
end Mr
namespace Mr
open PySem L2
/-! what a desk does when it is told, with no error -/
section
variable {P : Program} {w : World} {K : PySem.W.Frag} {mg : Str → Option Value} {base : Heap} {k : Nat} {kvs : List (Key × V)} {C B T dk dx : Addr} {l : List Nat} {H : Hp} {Q : VK} {E : XK}
def spSay0 (P : Program) (w : World) (K : PySem.W.Frag) (mg : Str → Option Value) (base : Heap) (k : Nat) (kvs : List (Key × V)) (C B T : Addr) : Sp := fun vs H Q _ => spSay P w K mg base k kvs C B T vs H Q E0
end
end Mr
namespace Mr
open PySem L2
def wTree : List Nat := [116, 114, 101, 101]
end Mr

namespace Mr
open PySem L2
/-! two desks -/
def b2i (t : Bool) : Int := if t then 1 else 0
def set1 (t : Bool) (m : List Nat) (l : Bool → List Nat) : Bool → List Nat := fun s => if s = t then m else l s
structure TwoD (C : Addr) (dk dx : Bool → Addr) (pd pr b : Addr) (r l : Bool → List Nat) (nb : Int) (H : Hp) : Prop where
  hd : H pd = some (.lst [.ref (dk false), .ref (dk true)])
  hr : H pr = some (.lst [.str (tx (r false)), .str (tx (r true))])
  hk : ∀ t, H (dk t) = some (dkO C (dx t) (l t))
  hb : H b = some (.lst [.int nb])
section
variable {C pd pr b : Addr} {dk dx : Bool → Addr} {r l : Bool → List Nat} {nb : Int} {H H' : Hp}
end
end Mr

namespace L2
open PySem PySem.Spec PyProof.Rows
/-! ### f'{a}M{b}' of two numbers -/
section
variable {X : Cx} {a b : Expr} {p1 p2 p3 pos : Pos} {j : Bool} {ta tb : TE}
def tFNum (ml : List Nat) (ta tb : TE) : TE := fun σ H Q => ta σ H fun x H1 => ∃ n : Nat, x = .int (n : Int) ∧ n < 10 ^ 10 ∧ (numL n).length ≤ 100 ∧ tb σ H1 fun y H2 => ∃ k : Nat, y = .int (k : Int) ∧ k < 10 ^ 10 ∧ (numL k).length ≤ 100 ∧ Q (.str (tx (numL n ++ ml ++ numL k))) H2
end
end L2

namespace L2
open PySem PySem.Spec PyProof.Rows PySem.SeqAt PySem.MeetsSeq
/-! ### max(xs, default=d) of ints -/
section
variable {prog : Program} {w : World} {A : Around} {I : Addr} {fp wr : List Addr} {n : Nat} {P : Nat → Value → Prop} {St : Nat → Heap → Prop}
abbrev mxC (I S : Addr) (kw : List (Str × Value)) : Code := .builtin "max.loop" ⟨[.ref I, .none, .ref S], kw⟩
abbrev mxS (its : Array Value) (c : Nat) : Obj := { cls := .type "list", dict := none, data := .seq its c, slots := #[] }
abbrev mxK (wr : List Addr) (S : Addr) (h h' : Heap) : Prop := ∀ b o, b ∉ wr → b ≠ S → h.get? b = some o → h'.get? b = some o
end
section
variable {prog : Program} {w : World} {A : Around} {E : Value → Shared → Prop} {s : Shared}
end
section
variable {X : Cx}
end
end L2

namespace Mr
open PySem L2
/-! mirrors by signs behind -/
def behN (l : List Nat) : List Nat := l ++ (l.take (l.length - ((endsN l)[0]?).getD 0)).reverse
def spShort : Sp := fun vs H Q _ => ∃ l : List Nat, vs = [.str (tx l)] ∧ rowL l = true ∧ l.length ≤ 60 ∧ ∀ H', Same H H' → Q .non H'
def spBehN : Sp := fun vs H Q _ => ∃ l : List Nat, vs = [.str (tx l)] ∧ rowL l = true ∧ l.length ≤ 60 ∧ ∀ H', Same H H' → Q (.str (tx (behN l))) H'
def spAheN : Sp := fun vs H Q _ => ∃ l : List Nat, vs = [.str (tx l)] ∧ rowL l = true ∧ l.length ≤ 60 ∧ ∀ H', Same H H' → Q (.str (tx (behN l.reverse))) H'
def spLBeh : Sp := fun vs H Q _ => ∃ l : List Nat, vs = [.str (tx l)] ∧ l.length ≤ 1000 ∧ Q (.str (tx (behN l))) H
def per55 (p : List Nat) (d : Nat) : List Nat := (repL p 200).take (40 + d)
set_option maxHeartbeats 0
end Mr

namespace Mr
open PySem L2
/-! signs more: the table -/
def mendL (l : List Nat) : Nat → Nat → Nat
  | 0, _ => 0
  | 1, _ => 0
  | n + 2, f => if l[f]? = l[f + n + 1]? then mendL l n (f + 1) else min (mendL l (n + 1) (f + 1)) (mendL l (n + 1) f) + 1
def ky (a b : Nat) : List Key := [Sum.inl (a : Int), Sum.inl (b : Int)]
/-- the table has all stretches of less than n signs, and of those of n the first j -/
def Tab (l : List Nat) (n j : Nat) (kvs : List (List Key × V)) : Prop :=
  ∀ a b : Nat, valV kvs (ky a b) = if a < b ∧ b ≤ l.length ∧ (b - a < n ∨ (b - a = n ∧ a < j)) then some (.int (mendL l (b - a) a : Nat)) else none
/-- the whole table -/
def TabW (l : List Nat) (kvs : List (List Key × V)) : Prop := Tab l (l.length + 1) 0 kvs
def spMoreFor : Sp := fun vs H Q _ => ∃ (l : List Nat) (pt : Addr) (kvs : List (List Key × V)) (n f j : Nat), vs = [.str (tx l), .ref pt, .int (f : Int), .int ((f + n : Nat) : Int)] ∧ l.length ≤ 200 ∧ H pt = some (.dT kvs) ∧ Tab l n j kvs ∧ 1 ≤ n ∧ f + n ≤ l.length ∧
  ∀ H', Same H H' → Q (.int (mendL l n f : Nat)) H'
def spMendT : Sp := fun vs H Q _ => ∃ l : List Nat, vs = [.str (tx l)] ∧ rowL l = true ∧ l.length ≤ 60 ∧ ∀ (p : Addr) (kvs : List (List Key × V)) (H' : Hp), H p = none → H' p = some (.dT kvs) → TabW l kvs → Same H H' → Q (.ref p) H'
def spMore : Sp := fun vs H Q _ => ∃ l : List Nat, vs = [.str (tx l)] ∧ rowL l = true ∧ l.length ≤ 60 ∧ ∀ H', Same H H' → Q (.int (mendL l l.length 0 : Nat)) H'
/-! refusals: what is no row, then what is too long -/
def Ref2 (K : PySem.W.Frag) (H : Hp) (x : V) (c0 c2 C : Addr) : Prop := (Thing K H x ∧ rowV x = false ∧ C = c0) ∨ (∃ l : List Nat, x = .str (tx l) ∧ rowL l = true ∧ 60 < l.length ∧ C = c2)
def spNS (K : PySem.W.Frag) (c0 c2 : Addr) : Sp := fun vs H _ E => ∃ (x : V) (C : Addr), vs = [x] ∧ Ref2 K H x c0 c2 C ∧ ∀ H', Same H H' → E (.ref C) none H'
def spNSb (K : PySem.W.Frag) (c0 c2 : Addr) : Sp := fun vs H _ E => ∃ (x y : V) (C : Addr), vs = [y, x] ∧ Ref2 K H x c0 c2 C ∧ ∀ H', Same H H' → E (.ref C) none H'
/-- lies_in refuses -/
def RefL (K : PySem.W.Frag) (H : Hp) (x y : V) (c0 c2 C : Addr) : Prop :=
  (Thing K H x ∧ rowV x = false ∧ C = c0) ∨ ∃ l : List Nat, x = .str (tx l) ∧ rowL l = true ∧ ((Thing K H y ∧ rowV y = false ∧ C = c0) ∨
    ∃ m : List Nat, y = .str (tx m) ∧ rowL m = true ∧ (60 < l.length ∨ 120 < m.length) ∧ C = c2)
def spLiX (K : PySem.W.Frag) (c0 c2 : Addr) : Sp := fun vs H _ E => ∃ (x y z : V) (C : Addr), vs = [x, y, z] ∧ RefL K H x y c0 c2 C ∧ ∀ H', Same H H' → E (.ref C) none H'
/-- lies_in of None: no -/
def spLi0 : Sp := fun vs H Q _ => ∃ l m : List Nat, vs = [.str (tx l), .str (tx m), .non] ∧ rowL l = true ∧ l.length ≤ 60 ∧ rowL m = true ∧ m.length ≤ 120 ∧ ∀ H', Same H H' → Q (.bl false) H'
/-- the questions of the law: which refuse, which don't -/
def Ask56 (K : PySem.W.Frag) (H : Hp) (m : Nat) (x g : V) (c0 c2 C : Addr) : Prop := (m ≤ 6 ∧ Ref2 K H x c0 c2 C) ∨ (m = 7 ∧ RefL K H x g c0 c2 C) ∨ (m = 8 ∧ RefL K H g x c0 c2 C)
def AskR (m : Nat) (x g : V) : Prop := ∃ l r : List Nat, rowL l = true ∧ rowL r = true ∧ (((m = 0 ∨ m = 6) ∧ x = .str (tx l) ∧ l.length ≤ 60) ∨ (m = 7 ∧ x = .str (tx l) ∧ g = .str (tx r) ∧ l.length ≤ 60 ∧ r.length ≤ 120) ∨ (m = 8 ∧ g = .str (tx l) ∧ x = .str (tx r) ∧ l.length ≤ 60 ∧ r.length ≤ 120))
def spAskX (K : PySem.W.Frag) (c0 c2 : Addr) : Sp := fun vs H Q E => ∃ (m : Nat) (x g : V), vs = [.int (m : Int), x, g] ∧ ((∃ C, Ask56 K H m x g c0 c2 C ∧ ∀ H', Same H H' → E (.ref C) none H') ∨ (AskR m x g ∧ ∀ H', Same H H' → Q .non H'))
def spTold56 (K : PySem.W.Frag) (c0 c2 : Addr) : Sp := fun vs H Q _ => ∃ (m : Nat) (x g : V) (r : List V), vs = [.int (m : Int), x, g] ∧ ((Ask56 K H m x g c0 c2 c0 ∧ r = [.int 0]) ∨ (Ask56 K H m x g c0 c2 c2 ∧ r = [.int 2]) ∨ (AskR m x g ∧ r = [])) ∧ ∀ p H', H p = none → H' p = some (.lst r) → Same H H' → Q (.ref p) H'
def abN (j : Nat) : List Nat := repL [97, 98] (if j = 8 then 60 else 30)
end Mr

namespace Mr
open PySem L2
/-! how many cuts -/
def lastN (ms : List Nat) (b : Nat) (L : List Nat) : Nat := (L.map fun k => ms.getD (b - k) 0).sum
def wayAt (L : Nat → List Nat) : Nat → List Nat
  | 0 => [1]
  | n + 1 => wayAt L n ++ [lastN (wayAt L n) (n + 1) (L (n + 1))]
def ways (l : List Nat) (b : Nat) : Nat := (wayAt (lenOf (endsAt l)) b).getD b 0
def spLastN : Sp := fun vs H Q _ => ∃ (pm pl : Addr) (ms L : List Nat) (b : Nat), vs = [.ref pm, .int (b : Int), .ref pl] ∧ H pm = some (.lst (lensV ms)) ∧ H pl = some (.lst (lensV L)) ∧ L.length ≤ 1000 ∧ (∀ k ∈ L, k ≤ b ∧ b - k < ms.length) ∧ ∀ H', Same H H' → Q (.int (lastN ms b L : Nat)) H'
def spWays : Sp := fun vs H Q _ => ∃ l : List Nat, vs = [.str (tx l)] ∧ rowL l = true ∧ ∀ H', Same H H' → Q (.int (ways l l.length : Nat)) H'
end Mr
namespace Mr
open PySem L2
def spTwice : Sp := fun vs H Q _ => ∃ n : Nat, vs = [.int (n : Int)] ∧ n ≤ 1000 ∧ Q (.int ((2 ^ n : Nat) : Int)) H
end Mr

namespace Mr
open PySem L2
/-! cuts of rows that go on in the same way -/
theorem fewI_zero (l : List Nat) : fewI l 0 = 0 := rfl
def Per (p : Nat) (l : List Nat) : Prop := ∀ i, i < l.length → l[i]? = some (97 + i % p)
end Mr
namespace Mr
open PySem L2
end Mr

namespace Mr
/-! ways from place to place by stretches that read alike; how many there are of a length -/
inductive Path (l : List Nat) : Nat → Nat → Nat → Prop
  | nil (a : Nat) : Path l a a 0
  | step {a f b n : Nat} : Path l a f n → f < b → b ≤ l.length → PalI l f b → Path l a b (n + 1)
theorem Path.le {l : List Nat} {a b n : Nat} (h : Path l a b n) : a + n ≤ b := by
  induction h with
  | nil => omega
  | step _ h3 _ _ ih => omega
theorem few_path {l : List Nat} {b n : Nat} (h : Path l 0 b n) : fewI l b ≤ n := by
  induction h with
  | nil => rw [fewI_zero]; exact Nat.le_refl _
  | @step f b n h1 h3 h4 h5 ih =>
    have := fewI_le h4 ((ends_mem (k := b - f) h4).mpr ⟨by omega, by omega, by rw [show b - (b - f) = f by omega]; exact h5⟩)
    rw [show b - (b - f) = f by omega] at this
    have := ih
    omega
/-! how many cuts of a number of stretches -/
def cofN (l : List Nat) : Nat → Nat → Nat
  | 0, b => if b = 0 then 1 else 0
  | c + 1, b => ((begN l b).map (cofN l c)).sum
/-! many ways, from behind -/
def Mp (N : Nat) (A : Nat → Nat → Nat) : Nat → Nat → Nat → Nat
  | 0, a, b => if a = b then 1 else 0
  | c + 1, a, b => sm N fun f => A f b * Mp N A c a f
def adj (l : List Nat) (f b : Nat) : Nat := if f < b ∧ b - f ∈ endsN (l.take b) then 1 else 0
end Mr

namespace Mr
open PySem L2
/-! cuts looked at, drawn, counted -/
section
variable (K : PySem.W.Frag)
def NoLst (H : Hp) (x : V) : Prop := ∃ t, TyOf K H x t ∧ PySem.W.kitOne K t (.type "list") = some false
/-- what stands in a cut: no tuple, or one -/
def ElV (H : Hp) (x : V) : Option (List V) → Prop
  | none => NoTup K H x
  | some ys => ∃ p : Addr, x = .ref p ∧ H p = some (.tup ys) ∧ (ys.length = 2 → ∀ y ∈ ys, Scal y)
end
def icutB (l : List Nat) : Nat → List (Option (List V)) → Bool
  | a, [] => decide (a = l.length)
  | _, none :: _ => false
  | a, some ys :: r => rdL l ys && (match ys with
    | [.int i, .int j] => decide (i = (a : Int)) && (!decide (j = (a : Int)) && icutB l j.toNat r)
    | _ => false)
def spIC (K : PySem.W.Frag) : Sp := fun vs H Q _ => ∃ (x : V) (l : List Nat), vs = [x, .str (tx l)] ∧ rowL l = true ∧ ((NoLst K H x ∧ ∀ H', Same H H' → Q (.bl false) H') ∨
  ∃ (p : Addr) (xs : List V) (ds : List (Option (List V))), x = .ref p ∧ H p = some (.lst xs) ∧ xs.length = ds.length ∧ (∀ (j : Nat) (x : V) (d : Option (List V)), xs[j]? = some x → ds[j]? = some d → ElV K H x d) ∧ ∀ H', Same H H' → Q (.bl (icutB l 0 ds)) H')
def pairO (c : Nat × Nat) : Option (List V) := some [.int (c.1 : Int), .int (c.2 : Int)]
/-! how many of a number of stretches -/
def cofL (l : List Nat) (c : Nat) : List Nat := (List.range (l.length + 1)).map (cofN l c)
def spCof : Sp := fun vs H Q _ => ∃ (l : List Nat) (c : Nat), vs = [.str (tx l), .int (c : Int)] ∧ rowL l = true ∧ ∀ H', Same H H' → Q (.int (cofN l c l.length : Nat)) H'
/-- how many cuts of 0, 1, .. stretches -/
def cofC (l : List Nat) (j : Nat) : List Nat := (List.range j).map fun c => cofN l c l.length
/-! of the laws -/
def spDrawn : Sp := fun vs H Q _ => ∃ (b : Addr) (n : Int) (l : List Nat), vs = [.ref b, .str (tx l)] ∧ H b = some (.lst [.int n]) ∧ l.length ≤ 1000 ∧
  ∀ (p : Addr) (xs : List V) (cs : List (Nat × Nat)) (n' : Int) (H' : Hp), H p = none → H' p = some (.lst xs) → PairV H' xs cs → CutFrom l 0 cs → H' b = some (.lst [.int n']) → But b H H' → Q (.ref p) H'
def spLesser : Sp := fun vs H Q _ => ∃ (b : Addr) (n : Int) (l : List Nat), vs = [.ref b, .str (tx l)] ∧ H b = some (.lst [.int n]) ∧ l.length ≤ 1000 ∧
  ∀ (p : Addr) (ns : List Int) (n' : Int) (H' : Hp), H p = none → H' p = some (.lst (ns.map V.int)) → areB l ns = true → H' b = some (.lst [.int n']) → But b H H' → Q (.ref p) H'
def LessTo (l : List Nat) (ns : List Int) : Prop := ns.getD 0 0 = 0 ∧ ∀ b, b < ns.length → ∀ f ∈ begN l b, ns.getD b 0 ≤ ns.getD f 0 + 1
end Mr

namespace Mr
open PySem L2
/-- a comprehension over enumerate(xs) -/
theorem comp_enum {K : PySem.W.Frag} {a : Addr} {xs : List V} {σ : St} {ix : List Nat} {tt : TT} {te : TE} {H : Hp} {Z : List V → Hp → Prop} (hl : xs.length ≤ sizeLine) (Pv : Nat → List V → Hp → Prop) (h0 : Pv 0 [] H) (hk : ∀ i ys H, Pv i ys H → H a = some (.lst xs))
    (hs : ∀ i x ys H (N : List V → Hp → Prop) T, xs[i]? = some x → ys.length ≤ i → Pv i ys H → H T = none → (∀ ys' H', ys'.length ≤ i + 1 → Pv (i + 1) ys' H' → N ys' H') →
      tt (cstV [.int (i : Int), x] ix σ) (upd H T (.tup [.int (i : Int), x])) fun b H4 => if b = true then te (cstV [.int (i : Int), x] ix σ) H4 fun v H5 => N (ys ++ [v]) H5 else N ys H4)
    (hd : ∀ ys H, ys.length ≤ xs.length → Pv xs.length ys H → Z ys H) :
    ∃ W : Nat → Nat → List V → Hp → Prop, (∃ m, W 0 m [] H) ∧ ∀ i m ys H2, W i m ys H2 →
      ((Ite a).stop i H2 ∧ ys.length ≤ sizeLine ∧ Z ys H2) ∨
      ((Ite a).go i H2 ∧ ys.length ≤ sizeLine ∧ ∀ x H3, (Ite a).yld i H2 x H3 → ∃ (a : Addr) (vs : List V), x = .ref a ∧ SqT K H3 a vs ∧ vs.length = 2 ∧ tt (cstV vs ix σ) H3 fun b H4 =>
        if b = true then te (cstV vs ix σ) H4 fun v H5 => ∃ m', m' < m ∧ W (i + 1) m' (ys ++ [v]) H5 else ∃ m', m' < m ∧ W (i + 1) m' ys H4) := by
  refine ⟨fun i m ys H => m = xs.length - i ∧ i ≤ xs.length ∧ ys.length ≤ i ∧ Pv i ys H, ⟨xs.length, by simp, Nat.zero_le _, Nat.le_refl _, h0⟩, ?_⟩
  rintro i m ys H ⟨rfl, hi, hy, p⟩
  have q := hk i ys H p
  by_cases hlt : i < xs.length
  · refine .inr ⟨⟨xs, xs[i], q, by simp [hlt]⟩, by omega, fun z H' y => ?_⟩
    obtain ⟨T, v, rfl, hn, rfl, hv⟩ := y
    refine ⟨T, [.int (i : Int), v], rfl, SqT.of upd_same, rfl, ?_⟩
    exact hs i v ys _ (fun ys' H5 => ∃ m', m' < xs.length - i ∧ m' = xs.length - (i + 1) ∧ i + 1 ≤ xs.length ∧ ys'.length ≤ i + 1 ∧ Pv (i + 1) ys' H5) T (hv xs q) hy p hn fun ys' H' h1 h2 => ⟨xs.length - (i + 1), by omega, rfl, hlt, h1, h2⟩
  · have e : i = xs.length := by omega
    subst e
    exact .inl ⟨⟨xs, q, rfl⟩, by omega, hd ys H hy p⟩
/-! even cuts -/
def evF (L : List Nat) : List Nat := L.filter fun k => decide (k % 2 = 0)
def evAt (l : List Nat) : List (List Nat) := (endsAt l).map evF
theorem evAt_len (l : List Nat) : (evAt l).length = l.length + 1 := by unfold evAt; rw [List.length_map, endsAt_len]
theorem evAt_get {l : List Nat} {b : Nat} (h : b ≤ l.length) : (evAt l)[b]? = some (evF (endsN (l.take b))) := by unfold evAt; rw [List.getElem?_map, endsAt_get h]; rfl
theorem evOf {l : List Nat} {b : Nat} (h : b ≤ l.length) : lenOf (evAt l) b = evF (endsN (l.take b)) := by unfold lenOf; rw [evAt_get h]; rfl
theorem evOut {l : List Nat} {b : Nat} (h : ¬ b ≤ l.length) : lenOf (evAt l) b = [] := by
  unfold lenOf
  rw [List.getElem?_eq_none (by rw [evAt_len]; omega)]
  rfl
theorem fits_ev (l : List Nat) : Fits (lenOf (evAt l)) := fun b k hk => by
  by_cases h : b ≤ l.length
  · rw [evOf h] at hk
    have := (ends_mem h).mp (List.mem_filter.mp hk).1
    omega
  · rw [evOut h] at hk; cases hk
theorem ev_len (l : List Nat) (hl : l.length ≤ 200) (b : Nat) : (lenOf (evAt l) b).length ≤ 1000 := by
  by_cases h : b ≤ l.length
  · rw [evOf h]
    have := ends_count (l.take b)
    rw [List.length_take] at this
    exact Nat.le_trans (List.length_filter_le _ _) (by omega)
  · rw [evOut h]; simp
def evFew (l : List Nat) : List (Option Nat) := fewAt (lenOf (evAt l)) l.length
def evN (l : List Nat) (b : Nat) : Option Nat := few (lenOf (evAt l)) b
theorem evFew_len (l : List Nat) : (evFew l).length = l.length + 1 := fewAt_len _ _
theorem evFew_get {l : List Nat} {b : Nat} (h : b ≤ l.length) : (evFew l)[b]? = some (evN l b) := fewAt_get _ h
theorem fewV_len (os : List (Option Nat)) : (fewV os).length = os.length := List.length_map ..
theorem fewV_get {os : List (Option Nat)} {b : Nat} {o : Option Nat} (h : os[b]? = some o) : (fewV os)[b]? = some (optV o) := by unfold fewV; rw [List.getElem?_map, h]; rfl
def spEv : Sp := fun vs H Q _ => ∃ (p : Addr) (L : List Nat), vs = [.ref p] ∧ H p = some (.lst (lensV L)) ∧ L.length ≤ 1000 ∧ ∀ (p' : Addr) (H' : Hp), H p' = none → H' p' = some (.lst (lensV (evF L))) → Same H H' → Q (.ref p') H'
def spEvFew : Sp := fun vs H Q _ => ∃ l : List Nat, vs = [.str (tx l)] ∧ rowL l = true ∧ ∀ (p : Addr) (H' : Hp), H p = none → H' p = some (.lst (fewV (evFew l))) → Same H H' → Q (.ref p) H'
def evPl (l : List Nat) (n : Nat) : List Nat := (List.range n).filter fun b => (evN l b).isSome
def evPlaces (l : List Nat) : List Nat := evPl l (l.length + 1)
theorem evPl_succ (l : List Nat) (n : Nat) : evPl l (n + 1) = evPl l n ++ (if (evN l n).isSome = true then [n] else []) := by
  unfold evPl
  rw [List.range_succ, List.filter_append, List.filter_cons]
  rfl
theorem evPl_len (l : List Nat) (n : Nat) : (evPl l n).length ≤ n := Nat.le_trans (List.length_filter_le _ _) (by rw [List.length_range]; exact Nat.le_refl _)
def spFewEven : Sp := fun vs H Q _ => ∃ l : List Nat, vs = [.str (tx l)] ∧ rowL l = true ∧ ∀ H', Same H H' → Q (optV (evN l l.length)) H'
def spEvenRow : Sp := fun vs H Q _ => ∃ (b : Addr) (n : Int), vs = [.ref b] ∧ H b = some (.lst [.int n]) ∧ ∀ (m : List Nat) (n' : Int) (H' : Hp), Abcz m → m.length ≤ 16 → H' b = some (.lst [.int n']) → But b H H' → Q (.str (tx m)) H'
end Mr

namespace Mr
open PySem L2
/-! what a desk tells, all of it: a text that the row alone says -/
def spTellT (f : List Nat → List Nat) (m : Nat) : Sp := fun vs H Q _ => ∃ l : List Nat, vs = [.str (tx l)] ∧ rowL l = true ∧ l.length ≤ m ∧ ∀ H', Same H H' → Q (.str (tx (f l))) H'
def lastL (l : List Nat) : List Nat := l.drop (l.length - ((endsN l)[0]?).getD 0)
open Classical in
noncomputable def longL (l : List Nat) : List Nat := if h : ∃ p : Nat × Nat, BestP l p.1 p.2 then numL (Classical.choose h).1 ++ [45] ++ numL (Classical.choose h).2 else wNone
def wNever : List Nat := [110, 101, 118, 101, 114]
def evenL (l : List Nat) : List Nat := match evN l l.length with
  | none => wNever
  | some n => numL n
def fac : Nat → Nat
  | 0 => 1
  | n + 1 => (n + 1) * fac n
end Mr

namespace Mr
open PySem L2
/-! k87: all that a desk is asked -/
def wKinds : List Nat := [107, 105, 110, 100, 115]
def wFull : List Nat := [102, 117, 108, 108]
def wLast : List Nat := [108, 97, 115, 116]
def wLongest : List Nat := [108, 111, 110, 103, 101, 115, 116]
def wFewest : List Nat := [102, 101, 119, 101, 115, 116]
def wCuts : List Nat := [99, 117, 116, 115]
def wEven : List Nat := [101, 118, 101, 110]
def wMore : List Nat := [109, 111, 114, 101]
def wBehind : List Nat := [98, 101, 104, 105, 110, 100]
def wAhead : List Nat := [97, 104, 101, 97, 100]
def fRow : List Nat → List Nat := tonL
def fKinds (l : List Nat) : List Nat := numL (kindsN l)
def fFull (l : List Nat) : List Nat := if kindsN l = l.length then wYes else wNo
def fLast (l : List Nat) : List Nat := tonL (lastL l)
def fTree (l : List Nat) : List Nat := tonL (joinL [32] (mirs l l.length))
def fFewest (l : List Nat) : List Nat := numL (fewI l l.length)
def fCuts (l : List Nat) : List Nat := numL (ways l l.length)
def fMore (l : List Nat) : List Nat := numL (mendL l l.length 0)
def fBehind (l : List Nat) : List Nat := tonL (behN l)
def fAhead (l : List Nat) : List Nat := tonL (behN l.reverse)
section
variable {P : Program} {w : World} {K : PySem.W.Frag} {mg : Str → Option Value} {base : Heap} {k : Nat} {kvs : List (Key × V)}
def Ask1 (P : Program) (w : World) (K : PySem.W.Frag) (mg : Str → Option Value) (base : Heap) (k : Nat) (kvs : List (Key × V)) (a : List Nat) (g : List Nat → List Nat) : Prop := ∃ f0 : Addr, valV kvs (Sum.inr (tx a)) = some (.ref f0) ∧ KnF P w K mg base k f0 (spTellT g 12)
def words87 : List (List Nat) := [wRow, wKinds, wFull, wLast, wLongest, wTree, wFewest, wCuts, wEven, wMore, wBehind, wAhead]
noncomputable def tells87 (l : List Nat) : List (List Nat) := [fRow l, fKinds l, fFull l, fLast l, longL l, fTree l, fFewest l, fCuts l, evenL l, fMore l, fBehind l, fAhead l]
def Asks87 (P : Program) (w : World) (K : PySem.W.Frag) (mg : Str → Option Value) (base : Heap) (k : Nat) (kvs : List (Key × V)) : Prop := ∀ (i : Nat) (a : List Nat), words87[i]? = some a → ∃ g : List Nat → List Nat, Ask1 P w K mg base k kvs a g ∧ ∀ l, (tells87 l)[i]? = some (g l)
end
def spAnsw (C : Addr) : Sp := fun vs H Q _ => ∃ (dk dx : Addr) (l : List Nat), vs = [.ref dk] ∧ H dk = some (dkO C dx l) ∧ rowL l = true ∧ l.length ≤ 12 ∧ ∀ (p : Addr) (H' : Hp), H p = none → H' p = some (.lst (wordsV (tells87 l))) → Same H H' → Q (.ref p) H'
/-! a row is a mirror, said in five ways -/
theorem pal_row {l : List Nat} : PalI l 0 l.length ↔ l = l.reverse := by
  rw [← pal_iff (l := l) (Nat.le_refl _)]
  rw [show sub l 0 l.length = l by unfold sub; simp]
/-! the words of a joined text -/
end Mr
namespace Mr
open PySem L2
def spRight87 : Sp := fun vs H Q _ => ∃ (l : List Nat) (p : Addr), vs = [.str (tx l), .ref p] ∧ rowL l = true ∧ 1 ≤ l.length ∧ l.length ≤ 12 ∧ H p = some (.lst (wordsV (tells87 l))) ∧ ∀ H', Same H H' → Q (.bl true) H'
theorem eq_tx (a b : List Nat) : decide (V.str (tx a) = V.str (tx b)) = decide (a = b) := by
  by_cases h : a = b
  · rw [decide_eq_true h, h, decide_eq_true rfl]
  · rw [decide_eq_false h, decide_eq_false fun z => h (tx_inj (V.str.inj z))]
end Mr
namespace Mr
open PySem L2
/-- what was told of each beginning -/
noncomputable def tellO (m : List Nat) : HO := .lst (wordsV (tells87 m))
noncomputable abbrev SeenV := ReV tellO
end Mr
namespace L2
open PySem
theorem eqVs_same {xs : List V} (h : xs.all flatV = true) : eqVs xs xs = true := by
  unfold eqVs
  rw [decide_eq_true rfl, Bool.true_and, List.all_eq_true]
  intro j hj
  have hj := List.mem_range.mp hj
  refine eqV_refl ?_
  rw [List.getD_eq_getElem?_getD, List.getElem?_eq_getElem hj]
  exact List.all_eq_true.mp h _ (List.getElem_mem hj)
end L2
namespace Mr
open PySem L2
end Mr

namespace L2
open PySem PySem.Spec PyProof.Rows PySem.SeqAt PySem.MeetsSeq
/-! ### a function called by a local name, which may raise -/
section
variable {X : Cx} {k : Nat} {y : Str} {p pos : Pos} {e : Expr} {es : List Expr} {te : TE} {t : TA} {Ex : XS}
def KnFX (P : Program) (w : World) (K : PySem.W.Frag) (mg : Str → Option Value) (base : Heap) (k : Nat) (f : Addr) (sp : Sp) : Prop := ∃ (fd : FuncData) (ps : List Str), FnOk P w K mg base (CX1 P w) k f fd ps sp ∧ PySem.W.keepIn K (.ref f) = true ∧ Binds K fd ps []
def tCallW (P : Program) (w : World) (K : PySem.W.Frag) (mg : Str → Option Value) (base : Heap) (k : Nat) (Ex : XS) (te : TE) (t : TA) : TE := fun σ H Q => te σ H fun v H1 => ∃ (f : Addr) (sp : Sp), v = .ref f ∧ ((KnF P w K mg base k f sp ∧ tCall sp [] E0 t σ H1 Q) ∨ (KnFX P w K mg base k f sp ∧ tCallX sp Ex t σ H1 Q))
end
end L2

namespace Mr
open PySem L2
/-! a desk and all of its lines: those that change the row, those that ask, and what is no line -/
def NumOk (n : Nat) : Prop := n < 400 ∨ n = 9999
def NoCh (ws : List (List Nat)) : Prop := ws ≠ [wClear] ∧ ws ≠ [wTake] ∧ (∀ w, ws = [wTake, w] → isNumB w = false) ∧ (∀ w, ws = [wAdd, w] → rowL w = false ∨ w = [])
def ShortW (ws : List (List Nat)) : Prop := ws.length ≤ 10000 ∧ ∀ w ∈ ws, w.length ≤ 1000
def RB2 (B T : Addr) (l : List Nat) (ws : List (List Nat)) (H : Hp) (Q : VK) (E : XK) : Prop :=
  (ws = [wClear] ∧ ∀ H', Same H H' → Q (.str (tx [])) H') ∨
  (∃ n : Nat, ((n = 1 ∧ ws = [wTake]) ∨ (NumOk n ∧ ws = [wTake, numL n])) ∧ ((n ≤ l.length ∧ ∀ H', Same H H' → Q (.str (tx (l.take (l.length - n)))) H') ∨ (l.length < n ∧ ∀ H', Same H H' → E (.ref B) none H'))) ∨
  (∃ w : List Nat, ws = [wAdd, w] ∧ rowL w = true ∧ w ≠ [] ∧ ((l.length + w.length ≤ 200 ∧ ∀ H', Same H H' → Q (.str (tx (l ++ w))) H') ∨ (200 < l.length + w.length ∧ ∀ H', Same H H' → E (.ref T) none H'))) ∨
  (NoCh ws ∧ ShortW ws ∧ ∀ H', Same H H' → Q .non H')
def spRB2 (B T : Addr) : Sp := fun vs H Q E => ∃ (l : List Nat) (p : Addr) (ws : List (List Nat)), vs = [.str (tx l), .ref p] ∧ rowL l = true ∧ H p = some (.lst (wordsV ws)) ∧ RB2 B T l ws H Q E
def NoAns (kvs : List (Key × V)) (ws : List (List Nat)) : Prop := (∀ a, ws = [a] → valV kvs (Sum.inr (tx a)) = none) ∧ ∀ w, ws = [wCuts, w] → isNumB w = false
def Ans2 (P : Program) (w : World) (K : PySem.W.Frag) (mg : Str → Option Value) (base : Heap) (k : Nat) (kvs : List (Key × V)) (N : Addr) (l : List Nat) (ws : List (List Nat)) (H : Hp) (Q : VK) (E : XK) : Prop :=
  (∃ (a : List Nat) (f : Addr) (sp : Sp), ws = [a] ∧ valV kvs (Sum.inr (tx a)) = some (.ref f) ∧ ((KnF P w K mg base k f sp ∧ sp [.str (tx l)] H Q E0) ∨ (KnFX P w K mg base k f sp ∧ ∃ c : Addr, (∀ E' : XK, (∀ H', Same H H' → E' (.ref c) none H') → sp [.str (tx l)] H Q E') ∧ ∀ H', Same H H' → E (.ref c) none H'))) ∨
  (∃ n : Nat, ws = [wCuts, numL n] ∧ NumOk n ∧ cofN l n l.length < 10 ^ 10 ∧ ∀ H', Same H H' → Q (.str (tx (numL (cofN l n l.length)))) H') ∨
  (NoAns kvs ws ∧ ∀ H', Same H H' → E (.ref N) none H')
def spAns2 (P : Program) (w : World) (K : PySem.W.Frag) (mg : Str → Option Value) (base : Heap) (k : Nat) (kvs : List (Key × V)) (N : Addr) : Sp := fun vs H Q E => ∃ (l : List Nat) (p : Addr) (ws : List (List Nat)), vs = [.str (tx l), .ref p] ∧ rowL l = true ∧ H p = some (.lst (wordsV ws)) ∧ ShortW ws ∧ Ans2 P w K mg base k kvs N l ws H Q E
/-- what is behind a line -/
def SayQ2 (P : Program) (w : World) (K : PySem.W.Frag) (mg : Str → Option Value) (base : Heap) (k : Nat) (kvs : List (Key × V)) (N C dk dx : Addr) (l : List Nat) (ws : List (List Nat)) (H : Hp) (Q : VK) (E : XK) : VK := fun v H1 =>
  (∃ l' : List Nat, v = .str (tx l') ∧ l'.length ≤ 1000 ∧ ∀ H', H' dk = some (dkO C dx l') → But dk H H' → Q (.str (tx (numL l'.length))) H') ∨
  (v = .non ∧ ShortW ws ∧ Ans2 P w K mg base k kvs N l ws H1 Q E)
def spSay2 (P : Program) (w : World) (K : PySem.W.Frag) (mg : Str → Option Value) (base : Heap) (k : Nat) (kvs : List (Key × V)) (C B T N : Addr) : Sp := fun vs H Q E => ∃ (dk dx : Addr) (l : List Nat) (x : V), vs = [.ref dk, x] ∧ H dk = some (dkO C dx l) ∧ rowL l = true ∧
  ((∃ line : List Nat, x = .str (tx line) ∧ line.length ≤ 1000 ∧ RB2 B T l (splitL 32 line) H (SayQ2 P w K mg base k kvs N C dk dx l (splitL 32 line) H Q E) E) ∨
  (∃ t, TyOf K H x t ∧ PySem.W.kitOne K t (.type "str") = some false ∧ E (.ref N) none H))
/-- what _law_said tells: the answer, or the place of the class: Bare 6, TooMany 3, NoLine 5, TooLong 2 -/
def SdE (B T N L : Addr) (H : Hp) (Q : VK) : XK := fun c _ _ => ∃ i : Nat, ((c = .ref B ∧ i = 6) ∨ (c = .ref T ∧ i = 3) ∨ (c = .ref N ∧ i = 5) ∨ (c = .ref L ∧ i = 2)) ∧ ∀ p H'', H p = none → H'' p = some (.lst [.int (i : Int)]) → Same H H'' → Q (.ref p) H''
def spSaid2 (P : Program) (w : World) (K : PySem.W.Frag) (mg : Str → Option Value) (base : Heap) (k : Nat) (kvs : List (Key × V)) (C B T N L : Addr) : Sp := fun vs H Q _ => ∃ (dk dx : Addr) (l : List Nat) (x : V), vs = [.ref dk, x] ∧ H dk = some (dkO C dx l) ∧ rowL l = true ∧
  ((∃ line : List Nat, x = .str (tx line) ∧ line.length ≤ 1000 ∧ RB2 B T l (splitL 32 line) H (SayQ2 P w K mg base k kvs N C dk dx l (splitL 32 line) H Q (SdE B T N L H Q)) (SdE B T N L H Q)) ∨
  (∃ t, TyOf K H x t ∧ PySem.W.kitOne K t (.type "str") = some false ∧ SdE B T N L H Q (.ref N) none H))
end Mr

namespace Mr
open PySem L2
/-! k83: what a desk tells of cuts -/
section
variable {P : Program} {w : World} {K : PySem.W.Frag} {mg : Str → Option Value} {base : Heap} {k : Nat} {kvs : List (Key × V)} {C B T N L dk dx : Addr} {l : List Nat} {H : Hp} {Q : VK} {E : XK}
def spSayN (P : Program) (w : World) (K : PySem.W.Frag) (mg : Str → Option Value) (base : Heap) (k : Nat) (kvs : List (Key × V)) (C B T N : Addr) : Sp := fun vs H Q _ => spSay2 P w K mg base k kvs C B T N vs H Q E0
end
end Mr
namespace Mr
open PySem L2
/-- what is due of each of the five lines -/
def Due83 (m : List Nat) (d : Nat) (kvs : List (Key × V)) : Prop := valV kvs (Sum.inr (tx wFewest)) = some (.str (tx (fFewest m))) ∧ valV kvs (Sum.inr (tx wCuts)) = some (.str (tx (fCuts m))) ∧ valV kvs (Sum.inr (tx wMore)) = some (.str (tx (fMore m))) ∧ valV kvs (Sum.inr (tx wEven)) = some (.str (tx (evenL m))) ∧ valV kvs (Sum.inr (tx (wCuts ++ 32 :: numL d))) = some (.str (tx (numL (cofN m d m.length))))
def due83 (m : List Nat) (d : Nat) : List (Key × V) := putK (putK (putK (putK (putK [] (Sum.inr (tx wFewest)) (.str (tx (fFewest m)))) (Sum.inr (tx wCuts)) (.str (tx (fCuts m)))) (Sum.inr (tx wMore)) (.str (tx (fMore m)))) (Sum.inr (tx wEven)) (.str (tx (evenL m)))) (Sum.inr (tx (wCuts ++ 32 :: numL d))) (.str (tx (numL (cofN m d m.length))))
def words83 (d : Nat) : List (List Nat) := [wFewest, wCuts, wMore, wEven, wCuts ++ 32 :: numL d]
end Mr

namespace Mr
open PySem L2
/-! k57: the longest mirror that lies in a row, the pairs, the mended row -/
def seg (l : List Nat) (f n : Nat) : List Nat := (l.drop f).take n
/-- one that is as long -/
def palN (l : List Nat) : Nat → Nat → List Nat
  | 0, _ => []
  | 1, f => [l.getD f 0]
  | n + 2, f => if l[f]? = l[f + n + 1]? then l.getD f 0 :: (palN l n (f + 1) ++ [l.getD f 0]) else if mendL l (n + 1) (f + 1) ≤ mendL l (n + 1) f then palN l (n + 1) (f + 1) else palN l (n + 1) f
/-- the length of the longest mirror that lies in a row -/
def lpsN (l : List Nat) : Nat := l.length - mendL l l.length 0
end Mr

namespace Mr
open PySem L2
/-! the pairs of a mended row -/
def prs (l : List Nat) : Nat → Nat → List (Option Nat × Option Nat)
  | 0, _ => []
  | 1, f => [(some f, some f)]
  | n + 2, f => if l[f]? = l[f + n + 1]? then (some f, some (f + n + 1)) :: prs l n (f + 1) else if mendL l (n + 1) (f + 1) < mendL l (n + 1) f then (some f, none) :: prs l (n + 1) (f + 1) else (none, some (f + n + 1)) :: prs l (n + 1) f
def ownN (l : List Nat) : Nat → Nat → List (Option Nat)
  | 0, _ => []
  | 1, f => [some f]
  | n + 2, f => if l[f]? = l[f + n + 1]? then some f :: (ownN l n (f + 1) ++ [some (f + n + 1)]) else if mendL l (n + 1) (f + 1) < mendL l (n + 1) f then some f :: (ownN l (n + 1) (f + 1) ++ [none]) else none :: (ownN l (n + 1) f ++ [some (f + n + 1)])
def ownOf (ps : List (Option Nat × Option Nat)) : List (Option Nat) := ps.map (·.1) ++ ((ps.filter fun p => !decide (p.1 = p.2)).map (·.2)).reverse
/-- opposite places: one is the row's own, and where both are, their signs are alike -/
def Opp (l : List Nat) (p : Option Nat × Option Nat) : Prop := (∃ i, p.1 = some i ∧ i < l.length ∧ (p.2 = none ∨ ∃ j, p.2 = some j ∧ j < l.length ∧ l.getD i 0 = l.getD j 0)) ∨ (p.1 = none ∧ ∃ j, p.2 = some j ∧ j < l.length)
def sgn (l : List Nat) (p : Option Nat × Option Nat) : Nat := l.getD (p.1.getD (p.2.getD 0)) 0
/-- the mended row -/
def mendT (l : List Nat) : List Nat := (List.zip (ownN l l.length 0) (ownN l l.length 0).reverse).map (sgn l)
/-- where the row's own signs stand -/
def numsN (o : List (Option Nat)) : List Nat := (List.range o.length).filter fun k => (o[k]?.join).isSome
/-- the rest: the pairs of which both are the row's own -/
def bothP (p : Option Nat × Option Nat) : Bool := p.1.isSome && p.2.isSome
end Mr

namespace Mr
open PySem L2
/-! k57: pairs, the mended row, the rest -/
def prO (p : Option Nat × Option Nat) : HO := .tup [optV p.1, optV p.2]
abbrev PrV := ReV prO
def spPairs : Sp := fun vs H Q _ => ∃ l : List Nat, vs = [.str (tx l)] ∧ rowL l = true ∧ l.length ≤ 60 ∧ ∀ (p : Addr) (xs : List V) (H' : Hp), H p = none → H' p = some (.lst xs) → PrV H' xs (prs l l.length 0) → Same H H' → Q (.ref p) H'
def numsV (ks : List Nat) : List V := ks.map fun (k : Nat) => V.int (k : Int)
/-- mended: the text, the places -/
def spMended : Sp := fun vs H Q _ => ∃ l : List Nat, vs = [.str (tx l)] ∧ rowL l = true ∧ l.length ≤ 60 ∧ ∀ (p pl : Addr) (H' : Hp), H p = none → H pl = none → H' p = some (.tup [.str (tx (mendT l)), .ref pl]) → H' pl = some (.lst (numsV (numsN (ownN l l.length 0)))) → Same H H' → Q (.ref p) H'
/-- rest: a text of this length -/
def spRest : Sp := fun vs H Q _ => ∃ l : List Nat, vs = [.str (tx l)] ∧ rowL l = true ∧ l.length ≤ 60 ∧ ∀ (t : List Nat) (p pl : Addr) (H' : Hp), t.length = lpsN l → H p = none → H' p = some (.tup [.str (tx t), .ref pl]) → Same H H' → Q (.ref p) H'
end Mr
namespace Mr
open PySem L2
def optsV (o : List (Option Nat)) : List V := o.map optV
abbrev neqP : Option Nat × Option Nat → Bool := fun p => !decide (p.1 = p.2)
end Mr
namespace Mr
open PySem L2
def one1 (c : Nat) : List Nat := [c]
end Mr
namespace Mr
open PySem L2
end Mr

namespace L2
open PySem PySem.Spec PyProof.Rows
/-! ### zip(xs, text): a list and a text of small signs, as many signs as things -/
section
variable {prog : Program} {w : World} {A : Around} {E : Value → Shared → Prop} {s : Shared} {z TI TO i1 i2 l : Addr} {k : Nat} {xs : Array Value} {x : Str} {t : Tok}
abbrev SI (h : Heap) (i2 : Addr) (x : Str) (t : Tok) (k : Nat) : Prop := h.IsStrIter i2 "str_ascii_iterator" x t k
end
end L2
namespace L2
open PySem PySem.Spec PyProof.Rows
section
variable {prog : Program} {w : World} {A : Around} {E : Value → Shared → Prop} {s : Shared}
/-- where a walk over both stands -/
def ZsAt (z TI TO i1 i2 l : Addr) (xs : Array Value) (x : Str) (t : Tok) (f0 : Value) (k : Nat) (h : Heap) : Prop :=
  IsZip h z TI TO f0 ∧ IsPair h TI (.ref i1) (.ref i2) ∧ (∃ a b, IsPair h TO a b) ∧ h.IsListIter i1 l k ∧ SI h i2 x t k ∧ h.IsList l xs
end
end L2
namespace L2
open PySem PySem.Spec PyProof.Rows
abbrev zs1 (h : Heap) (l : Addr) : Heap := h.push { cls := .type "list_iterator", data := .fields #[.ref l, .int 0 0] }
abbrev zs2 (h : Heap) (l : Addr) (x : Str) (t : Tok) : Heap := (zs1 h l).push { cls := .type "str_ascii_iterator", data := .fields #[.str x t, .int 0 0] }
abbrev zs3 (h : Heap) (l : Addr) (x : Str) (t : Tok) : Heap := (zs2 h l x t).push { cls := .type "tuple", data := .seq #[.ref h.objs.size, .ref (zs1 h l).objs.size] }
abbrev zs4 (h : Heap) (l : Addr) (x : Str) (t : Tok) : Heap := (zs3 h l x t).push { cls := .type "tuple", data := .seq #[.none, .none] }
abbrev zs5 (h : Heap) (l : Addr) (x : Str) (t : Tok) : Heap := (zs4 h l x t).push { cls := .type "zip", data := .fields #[.none, .bool false, .bool false, .ref (zs2 h l x t).objs.size, .ref (zs3 h l x t).objs.size] }
end L2

namespace L2
open PySem PySem.Spec PyProof.Rows
/-! ### zip(xs, text): the call, the turns, the comprehension -/
section
variable {prog : Program} {w : World} {A : Around} {E : Value → Shared → Prop} {s : Shared}
end
/-- a list and a text at once -/
def Itzs (a : Addr) (l : List Nat) : It :=
  ⟨fun i H => ∃ xs x c, H a = some (.lst xs) ∧ xs.length = l.length ∧ xs[i]? = some x ∧ l[i]? = some c,
   fun i H z H' => ∃ (T : Addr) (x : V) (c : Nat), z = .ref T ∧ H T = none ∧ H' = upd H T (.tup [x, .str (tx [c])]) ∧ l[i]? = some c ∧ ∀ xs, H a = some (.lst xs) → xs[i]? = some x,
   fun i H => ∃ xs, H a = some (.lst xs) ∧ xs.length = l.length ∧ xs.length = i⟩
def iZipS (ta : TA) : TI := fun σ H R => ta σ H fun vs H1 => ∃ (a : Addr) (xs : List V) (l : List Nat), vs = [.ref a, .str (tx l)] ∧ H1 a = some (.lst xs) ∧ (∀ c ∈ l, c < 128) ∧ R (Itzs a l) H1
section
variable {X : Cx} {elts : List Expr} {k : Nat} {tp : Pos}
end
end L2

namespace Mr
open PySem L2
/-! ### k57: lies_in, where it says yes -/
def spRise : Sp := fun vs H Q _ => ∃ (p : Addr) (ns : List Nat) (n : Nat), vs = [.ref p, .int (n : Int)] ∧ H p = some (.lst (numsV ns)) ∧ ns.length ≤ 1000 ∧ ns.Pairwise (· < ·) ∧ (∀ k ∈ ns, k < n) ∧ ∀ H', Same H H' → Q (.bl true) H'
def spLies : Sp := fun vs H Q _ => ∃ (l m ns : List Nat) (p : Addr), vs = [.str (tx l), .str (tx m), .ref p] ∧ rowL l = true ∧ l.length ≤ 60 ∧ rowL m = true ∧ m.length ≤ 120 ∧ H p = some (.lst (numsV ns)) ∧ ns.Pairwise (· < ·) ∧ ns.length = l.length ∧ (∀ j k : Nat, ns[j]? = some k → k < m.length ∧ m[k]? = l[j]?) ∧ ∀ H', Same H H' → Q (.bl true) H'
end Mr

namespace L2
open PySem PySem.Spec PyProof.Rows
/-! ### set(text): how many unlike signs -/
/-- the first ones met -/
def met (val : Nat → Str) (i : Nat) : List Str := ((List.range i).map val).foldl step_dedup []
abbrev SetS (prog : Program) (w : World) (h : Heap) (a : Addr) (ks : List Str) : Prop := h.SetOf (PySem.strKind prog w) a (fun k => ks.any (· == k)) ks.length
section
variable {prog : Program} {w : World} {A : Around} {R : Result → Shared → Prop} {I : Addr} {fp wr : List Addr} {G : Array GenState → Array GenState → Prop} {n : Nat} {P : Nat → Value → Prop} {St : Nat → Shared → Prop}
end
end L2
namespace L2
open PySem PySem.Spec PyProof.Rows
section
variable {prog : Program} {w : World} {A : Around} {E : Value → Shared → Prop} {s : Shared}
end
end L2
namespace L2
open PySem PySem.Spec PyProof.Rows
/-- how many unlike signs a text has -/
def distN (l : List Nat) : Nat := (met (fun i => tx [l.getD i 0]) l.length).length
def setO (P : Program) (w : World) (a : Addr) (n : Nat) : HO := .ext fun h => ∃ ks, SetS P w h a ks ∧ ks.length = n
section
variable {X : Cx}
end
end L2

namespace Mr
open PySem L2
/-! ### k57: all rows that lie in a row; how many unlike signs there are -/
def partsN (l : List Nat) : List (List Nat) := l.foldl (fun ps c => ps ++ ps.map (· ++ [c])) [[]]
def spLParts : Sp := fun vs H Q _ => ∃ l : List Nat, vs = [.str (tx l)] ∧ l.length ≤ 7 ∧ ∀ (p : Addr) (H' : Hp), H p = none → H' p = some (.lst (txV (partsN l))) → Same H H' → Q (.ref p) H'
abbrev pal57 (t : List Nat) : Bool := decide (t = t.reverse)
def palsV (ts : List (List Nat)) : List Int := (ts.filter pal57).map fun t => ((t.length : Nat) : Int)
end Mr
namespace Mr
open PySem L2
end Mr
namespace Mr
open PySem L2
theorem ite_no {b : Bool} {P Q : Prop} (h : b = false) (q : Q) : if b = true then P else Q := by subst h; exact q
theorem ne_no {x y : V} (h : x = y) : (!decide (x = y)) = false := by rw [decide_eq_true h]; rfl
end Mr
namespace Mr
open PySem L2
theorem ite_ya {b : Bool} {P Q : Prop} (h : b = true) (q : P) : if b = true then P else Q := by subst h; exact q
theorem not_ya {b : Bool} (h : b = true) : (!b) = false := by subst h; rfl
end Mr

namespace Mr
open PySem L2
/-! ### the longest row that lies in a row and in it backwards is as long as the longest mirror that lies in it -/
def lcsN : List Nat → List Nat → Nat
  | [], _ => 0
  | _ :: _, [] => 0
  | x :: a, y :: b => if x = y then lcsN a b + 1 else max (lcsN a (y :: b)) (lcsN (x :: a) b)
termination_by a b => a.length + b.length
/-- a line of the table: what the first i signs of l and the first j of o have in common -/
def lcsAt (l o : List Nat) (i j : Nat) : Nat := lcsN (l.take i).reverse (o.take j).reverse
end Mr

namespace L2
open PySem PySem.Spec PyProof.Rows
/-! ### the table of a set: its places rise -/
abbrev Ris (xs : Array Nat) : Prop := xs.toList.Pairwise (· < ·)
theorem ris_lt {xs : Array Nat} (h : Ris xs) {i k d : Nat} (hik : i < k) (hk : k < xs.size) : xs.getD i d < xs.getD k d := by
  have hi : i < xs.size := Nat.lt_trans hik hk
  have e1 : xs.getD i d = xs.toList[i]'(by simpa using hi) := by simp [Array.getD, hi]
  have e2 : xs.getD k d = xs.toList[k]'(by simpa using hk) := by simp [Array.getD, hk]
  rw [e1, e2]
  exact List.pairwise_iff_getElem.mp h i k _ _ hik
theorem below_go {xs : Array Nat} (h : Ris xs) (j : Nat) : ∀ (fuel lo hi : Nat), lo ≤ hi → hi ≤ xs.size → hi - lo ≤ fuel → (∀ i, i < lo → xs.getD i j < j) → (∀ i, hi ≤ i → i < xs.size → j ≤ xs.getD i j) →
    SetTable.below.go xs j fuel lo hi ≤ xs.size ∧ (∀ i, i < SetTable.below.go xs j fuel lo hi → xs.getD i j < j) ∧ (∀ i, SetTable.below.go xs j fuel lo hi ≤ i → i < xs.size → j ≤ xs.getD i j)
  | 0, lo, hi, h1, h2, h3, h4, h5 => by
    have e : lo = hi := by omega
    subst e
    exact ⟨h2, h4, h5⟩
  | fuel + 1, lo, hi, h1, h2, h3, h4, h5 => by
    unfold SetTable.below.go
    by_cases hlt : lo < hi
    · rw [if_pos hlt]
      dsimp only
      by_cases hm : xs.getD ((lo + hi) / 2) j < j
      · rw [if_pos hm]
        refine below_go h j fuel _ hi (by omega) h2 (by omega) (fun i hi' => ?_) h5
        by_cases e : i = (lo + hi) / 2
        · rw [e]; exact hm
        · exact Nat.lt_trans (ris_lt h (by omega) (by omega)) hm
      · rw [if_neg hm]
        refine below_go h j fuel lo _ (by omega) (by omega) (by omega) h4 (fun i hi' hs => ?_)
        by_cases e : i = (lo + hi) / 2
        · rw [e]; omega
        · have := ris_lt (d := j) h (show (lo + hi) / 2 < i by omega) hs
          omega
    · rw [if_neg hlt]
      have e : lo = hi := by omega
      subst e
      exact ⟨h2, h4, h5⟩
theorem below_is {xs : Array Nat} (h : Ris xs) (j : Nat) : SetTable.below xs j ≤ xs.size ∧ (∀ i, i < SetTable.below xs j → xs.getD i j < j) ∧ (∀ i, SetTable.below xs j ≤ i → i < xs.size → j ≤ xs.getD i j) :=
  below_go h j xs.size 0 xs.size (Nat.zero_le _) (Nat.le_refl _) (Nat.le_refl _) (fun i hi => absurd hi (Nat.not_lt_zero _)) fun i h1 h2 => absurd h2 (by omega)
/-- where the walk goes on, behind the place of the i-th -/
theorem below_next {xs : Array Nat} (h : Ris xs) {i : Nat} (hi : i < xs.size) : SetTable.below xs (xs[i] + 1) = i + 1 := by
  obtain ⟨b1, b2, b3⟩ := below_is h (xs[i] + 1)
  have g : ∀ d, xs.getD i d = xs[i] := fun d => by simp [Array.getD, hi]
  apply Nat.le_antisymm
  · refine Nat.le_of_not_lt fun hc => ?_
    have := b2 (i + 1) hc
    by_cases hs : i + 1 < xs.size
    · have := ris_lt (d := xs[i] + 1) h (show i < i + 1 by omega) hs
      rw [g] at this
      omega
    · simp [Array.getD, hs] at this
  · refine Nat.le_of_not_lt fun hc => ?_
    have := b3 i (by omega) hi
    rw [g] at this
    omega
theorem below_zero {xs : Array Nat} (h : Ris xs) : SetTable.below xs 0 = 0 := by
  obtain ⟨b1, b2, b3⟩ := below_is h 0
  exact Nat.le_antisymm (Nat.le_of_not_lt fun hc => absurd (b2 0 hc) (Nat.not_lt_zero _)) (Nat.zero_le _)
theorem ris_insert {xs : Array Nat} (h : Ris xs) {j : Nat} (hn : ¬ xs[SetTable.below xs j]? = some j) : Ris (SetTable.insertAt xs (SetTable.below xs j) j) := by
  obtain ⟨b1, b2, b3⟩ := below_is h j
  unfold Ris
  rw [SetTable.toList_insertAt, List.pairwise_append]
  have e : xs.toList.Pairwise (· < ·) := h
  have at' : ∀ (i x : Nat), xs.toList[i]? = some x → i < xs.size ∧ ∀ d, xs.getD i d = x := fun i x hx => by
    obtain ⟨h1, h2⟩ := List.getElem?_eq_some_iff.mp hx
    have h1' : i < xs.size := by simpa using h1
    exact ⟨h1', fun d => by rw [← h2]; simp [Array.getD, h1']⟩
  have low : ∀ x ∈ xs.toList.take (SetTable.below xs j), x < j := fun x hx => by
    obtain ⟨i, hi⟩ := List.mem_iff_getElem?.mp hx
    have hlt : i < SetTable.below xs j := by
      have := (List.getElem?_eq_some_iff.mp hi).1
      rw [List.length_take] at this
      omega
    rw [List.getElem?_take_of_lt hlt] at hi
    rw [← (at' i x hi).2 j]
    exact b2 i hlt
  have high : ∀ x ∈ xs.toList.drop (SetTable.below xs j), j < x := fun x hx => by
    obtain ⟨i, hi⟩ := List.mem_iff_getElem?.mp hx
    rw [List.getElem?_drop] at hi
    obtain ⟨h1, h2⟩ := at' _ x hi
    have h3 := b3 _ (Nat.le_add_right _ i) h1
    rw [h2] at h3
    refine Nat.lt_of_le_of_ne h3 fun ejx => ?_
    by_cases e0 : i = 0
    · subst e0 ejx
      rw [Nat.add_zero] at hi
      exact hn (by rw [← Array.getElem?_toList]; exact hi)
    · have h4 := ris_lt (d := j) h (show SetTable.below xs j < SetTable.below xs j + i by omega) h1
      rw [h2] at h4
      have h5 := b3 _ (Nat.le_refl _) (by omega)
      omega
  refine ⟨e.sublist (List.take_sublist _ _), List.pairwise_cons.mpr ⟨high, e.sublist (List.drop_sublist _ _)⟩, fun x hx y hy => ?_⟩
  rcases List.mem_cons.mp hy with rfl | hy
  · exact low x hx
  · exact Nat.lt_trans (low x hx) (high y hy)
theorem adv_dummy (t : SetTable) (p : SetTable.Probe) : (t.advance p).dummy = p.dummy := by
  unfold SetTable.advance
  split <;> rfl
theorem probe_free {t : SetTable} {f : Nat → Int} {h : Int} {j : Nat} {dm : Option Nat} : ∀ (fuel : Nat) (p : SetTable.Probe), (∀ d, p.dummy = some d → t.slot d = .dummy) → SetTable.probe.go t f h fuel p = some (.empty j dm) → t.slot j = .empty ∧ ∀ d, dm = some d → t.slot d = .dummy
  | 0, p, _, e => by cases e
  | fuel + 1, p, hp, e => by
    unfold SetTable.probe.go at e
    cases hs : t.slot p.j with
    | empty =>
      rw [hs] at e
      cases e
      exact ⟨hs, hp⟩
    | dummy =>
      rw [hs] at e
      refine probe_free fuel _ (fun d hd => ?_) e
      rw [adv_dummy] at hd
      cases hd
      exact hs
    | live i =>
      rw [hs] at e
      dsimp only at e
      by_cases hh : (f i == h) = true
      · rw [if_pos hh] at e; cases e
      · rw [if_neg hh] at e
        exact probe_free fuel _ (fun d hd => hp d (by rw [adv_dummy] at hd; exact hd)) e
theorem slot_live {t : SetTable} {j : Nat} (h : t.place[SetTable.below t.place j]? = some j) : t.slot j = .live (SetTable.below t.place j) := by
  unfold SetTable.slot
  dsimp only
  rw [if_pos (by rw [h]; exact beq_self_eq_true _)]
theorem free_is {t : SetTable} {h : Int} {j : Nat} {b : Bool} (e : t.freeSlot h = some (j, b)) : ¬ t.place[SetTable.below t.place j]? = some j := by
  intro hl
  have hlive := slot_live hl
  unfold SetTable.freeSlot SetTable.probe at e
  split at e
  · rename_i j0 dm he
    obtain ⟨h1, h2⟩ := probe_free _ _ (fun d hd => by cases hd) he
    cases dm with
    | none =>
      have e1 : j0 = j := by have := Option.some.inj e; exact (Prod.mk.inj this).1
      rw [← e1, h1] at hlive
      cases hlive
    | some d =>
      have e1 : d = j := by have := Option.some.inj e; exact (Prod.mk.inj this).1
      have h3 := h2 d rfl
      rw [e1, hlive] at h3
      cases h3
  · cases e
/-- what a set keeps of its table -/
def TabOk (led : Bool) (t : SetTable) : Prop := t.led = led ∧ (t.plain = true → Ris t.place)
theorem tab_stand {led : Bool} {t : SetTable} (h : TabOk led t) (n : Nat) : TabOk led (t.standIn n) := ⟨h.1, fun e => by cases e⟩
theorem tab_or {led : Bool} {t : SetTable} (h : TabOk led t) (n : Nat) : TabOk led (t.orStandIn n) := by
  unfold SetTable.orStandIn
  split
  · exact h
  · exact tab_stand h n
theorem tab_lay {led : Bool} {t : SetTable} (h : TabOk led t) (es : Array (Int × Value)) (k : Int) (x : Value) : TabOk led (layNew t es k x).2.1 := by
  unfold layNew
  split
  · rename_i j b e
    have key : TabOk led (t.put j).1 := ⟨h.1, fun hp => ris_insert (h.2 hp) (free_is e)⟩
    exact tab_or key _
  · exact tab_stand h _
theorem ris_laid (owner : Array (Option Nat)) (n : Nat) : (((List.range n).filterMap fun j => (owner.getD j none).map (j, ·)).map (·.1)).Pairwise (· < ·) := by
  rw [List.pairwise_map]
  refine List.Pairwise.filterMap _ (fun a b hab x hx y hy => ?_) List.pairwise_lt_range
  rw [Option.map_eq_some_iff] at hx hy
  obtain ⟨_, _, rfl⟩ := hx
  obtain ⟨_, _, rfl⟩ := hy
  exact hab
theorem tab_relay {led : Bool} {t : SetTable} (h : TabOk led t) (es : Array (Int × Value)) (n : Nat) : TabOk led (relayAll t es n).2.1 := by
  unfold relayAll
  split
  · rename_i t' order e
    dsimp only
    split
    · unfold SetTable.relaid SetTable.laid at e
      cases ho : SetTable.layClean (SetTable.sizeAbove n - 1) (es.map (·.1)) with
      | none => rw [ho] at e; cases e
      | some owner =>
        rw [ho] at e
        have e2 := Option.some.inj e
        have e3 := (Prod.mk.inj e2).1
        rw [← e3]
        exact ⟨h.1, fun _ => ris_laid owner _⟩
    · exact tab_stand h _
  · exact tab_stand h _
theorem tab_fresh (led : Bool) : TabOk led (.fresh 0 0 led) := ⟨rfl, fun _ => List.Pairwise.nil⟩
end L2

namespace L2
open PySem PySem.Spec PyProof.Rows
/-! ### set(xs) of numbers: what lies in it, and its table -/
section
variable (prog : Program) (w : World)
def LayI (L : List (Int × Value)) (ks : List Int) : Prop := L.length = ks.length ∧ ∀ (i : Nat) (e : Int × Value) (k : Int), L[i]? = some e → ks[i]? = some k → ∃ t, e = ((intKind prog w).hash k, .int k t)
def SetQ (h : Heap) (a : Addr) (ks : List Int) : Prop := ∃ (o : Obj) (es : Array (Int × Value)) (ep : Nat) (t : SetTable) (L : List (Int × Value)), h.get? a = some o ∧ o.ExactSet ∧ o.data = .set es ep t ∧ L.Perm es.toList ∧ LayI prog w L ks ∧ es.size < scanBound ∧ t.fits es.size = true ∧ TabOk (!w.params.followText "set-order") t
end
section
variable {prog : Program} {w : World} {A : Around} {E : Value → Shared → Prop} {s : Shared} {a : Addr}
theorem SetQ.keeps {h h' : Heap} {ks : List Int} (x : SetQ prog w h a ks) (k : ∀ o, h.get? a = some o → h'.get? a = some o) : SetQ prog w h' a ks :=
  let ⟨o, es, ep, t, L, ho, rest⟩ := x; ⟨o, es, ep, t, L, k _ ho, rest⟩
theorem LayI.mem {L : List (Int × Value)} {ks : List Int} (h : LayI prog w L ks) {e : Int × Value} (he : e ∈ L) : ∃ k t, k ∈ ks ∧ e = ((intKind prog w).hash k, .int k t) := by
  obtain ⟨i, hi⟩ := List.mem_iff_getElem?.mp he
  have lt : i < ks.length := by rw [← h.1]; exact (List.getElem?_eq_some_iff.mp hi).1
  obtain ⟨t, ht⟩ := h.2 i e _ hi (List.getElem?_eq_getElem lt)
  exact ⟨_, t, List.getElem_mem lt, ht⟩
theorem LayI.of {L : List (Int × Value)} {ks : List Int} (h : LayI prog w L ks) {k : Int} (hk : k ∈ ks) : ∃ t, ((intKind prog w).hash k, Value.int k t) ∈ L := by
  obtain ⟨i, hi⟩ := List.mem_iff_getElem?.mp hk
  have lt : i < L.length := by rw [h.1]; exact (List.getElem?_eq_some_iff.mp hi).1
  obtain ⟨t, ht⟩ := h.2 i _ k (List.getElem?_eq_getElem lt) hi
  exact ⟨t, ht ▸ List.getElem_mem lt⟩
theorem LayI.elems {L M : List (Int × Value)} {ks : List Int} (h : LayI prog w L ks) (p : L.Perm M) : ElemsOf (intKind prog w) M := fun e he => by
  obtain ⟨k, t, _, rfl⟩ := h.mem (p.mem_iff.mpr he)
  exact ⟨⟨k, intKind_is _ _ _ _, rfl⟩, rfl⟩
theorem LayI.snoc {L : List (Int × Value)} {ks : List Int} (h : LayI prog w L ks) (k : Int) (t : Tok) : LayI prog w (L ++ [((intKind prog w).hash k, .int k t)]) (ks ++ [k]) := by
  refine ⟨by rw [List.length_append, List.length_append, h.1]; rfl, fun i e j he hj => ?_⟩
  by_cases hi : i < L.length
  · rw [List.getElem?_append_left hi] at he
    rw [List.getElem?_append_left (by rw [← h.1]; exact hi)] at hj
    exact h.2 i e j he hj
  · rw [List.getElem?_append_right (by omega)] at he
    rw [List.getElem?_append_right (by rw [← h.1]; omega), ← h.1] at hj
    by_cases h0 : i - L.length = 0
    · rw [h0] at he hj
      cases he
      cases hj
      exact ⟨t, rfl⟩
    · obtain ⟨m, hm⟩ := Nat.exists_eq_succ_of_ne_zero h0
      rw [hm] at he
      cases he
theorem tail_q {g : Bool → Sem Unit} (quiet : ∀ (b : Bool) (s1 : Shared) (Q1 : Unit → Shared → Prop), Q1 () s1 → wpAny (model prog w) A (g b) Q1 E s1) {o : Obj} {es es1 : Array (Int × Value)} {ep : Nat} {t t2 : SetTable} {L : List (Int × Value)} {ks : List Int} {wd : Bool} {R : Option Bool → Shared → Prop}
    (ho : s.heap.get? a = some o) (hex : o.ExactSet) (hd : o.data = .set es ep t) (hL : L.Perm es1.toList) (hl : LayI prog w L ks) (hb : es1.size < scanBound) (hf : t2.fits es1.size = true) (hT : TabOk (!w.params.followText "set-order") t2)
    (fin : ∀ h', Heap.SameBut a s.heap h' → SetQ prog w h' a ks → R (some true) { s with heap := h' }) :
    wpAny (model prog w) A (do
        storeSet a es1 t2
        if (!wd && t2.tooFull) = true then do
            g (relayAll t2 es1 (SetTable.grown es1.size)).2.2
            storeSet a (relayAll t2 es1 (SetTable.grown es1.size)).1 (relayAll t2 es1 (SetTable.grown es1.size)).2.1
            pure (some true)
          else pure (some true)) R E s := by
  have at1 : (s.heap.update a (Obj.putSet es1 t2)).get? a = some { o with data := .set es1 (ep + 1) t2 } := by
    have := Heap.get?_update_self (Obj.putSet es1 t2) ho (by rw [putSet_of es1 t2 hd]; rfl)
    rwa [putSet_of es1 t2 hd] at this
  have sb1 := Heap.SameBut.update s.heap a (Obj.putSet es1 t2)
  refine wpAny_bind (wpAny_storeSet_of ho hd ?_ (fits_of_scanBound hb))
  split
  · have p2 := relayAll_perm t2 es1 (SetTable.grown es1.size)
    have f2 := relayAll_fits t2 es1 (SetTable.grown es1.size)
    have T2 := tab_relay hT es1 (SetTable.grown es1.size)
    generalize relayAll t2 es1 (SetTable.grown es1.size) = X2 at p2 f2 T2 ⊢
    obtain ⟨es2, t3, b2⟩ := X2
    dsimp only at p2 f2 T2 ⊢
    have n2 : es2.size = es1.size := by have := p2.length_eq; simpa using this
    refine wpAny_bind (quiet _ _ _ (wpAny_bind (wpAny_storeSet_of at1 rfl (wpAny_pure (fin _ (sb1.trans (Heap.SameBut.update _ a _)) ?_)) (fits_of_scanBound (by rw [n2]; exact hb)))))
    refine ⟨{ o with data := .set es2 (ep + 1 + 1) t3 }, es2, ep + 1 + 1, t3, L, ?_, hex, rfl, hL.trans p2.symm, hl, by rw [n2]; exact hb, f2, T2⟩
    exact Heap.get?_update_self (Obj.putSet es2 t3) at1 rfl
  · exact wpAny_pure (fin _ sb1 ⟨_, es1, ep + 1, t2, L, at1, hex, rfl, hL, hl, hb, hf, hT⟩)
theorem setq_add {ks : List Int} {k : Int} {tk : Tok} {Q : Bool → Shared → Prop} (hS : SetQ prog w s.heap a ks) (room : ks.length + 1 < scanBound) (fin : ∀ h' b, Heap.SameBut a s.heap h' → SetQ prog w h' a (step_dedup ks k) → Q b { s with heap := h' }) :
    wpAny (model prog w) A (setAddHashed a (.int k tk) ((intKind prog w).hash k)) Q E s := by
  have whole := hS
  obtain ⟨o, es, ep, t, L, ho, hex, hd, hL, hl, hb, hf, hT⟩ := hS
  have hel := hl.elems hL
  have nes : es.size = ks.length := by have := hL.length_eq; rw [hl.1] at this; simpa using this.symm
  have his := intKind_is prog w k tk
  unfold setAddHashed setAddHashedIn
  refine wpAny_holding (wpAny_bind (wpAny_setState_of ho hd hf ?_))
  dsimp only
  rw [byScan_of (x := .int k tk) rfl hb hel]
  simp only [↓reduceIte]
  unfold setAddByScan
  refine wpAny_bind (wpAny_bind (wpAny_rule (wpAny_bind (wpAny_setScan_of his ho hd hf hel ?_))))
  cases hr : List.findIdx? (fun e => (intKind prog w).is k e.2) es.toList with
  | some j =>
    obtain ⟨hj, hpj, _⟩ := List.findIdx?_eq_some_iff_getElem.mp hr
    obtain ⟨k2, t2, hk2, he2⟩ := hl.mem (hL.mem_iff.mpr (List.getElem_mem hj))
    have ek : k = k2 := (intKind prog w).inj _ k k2 hpj (by rw [he2]; exact intKind_is _ _ _ _)
    have same : step_dedup ks k = ks := by
      have yes : ks.any (· == k) = true := List.any_eq_true.mpr ⟨k, by rw [ek]; exact hk2, beq_self_eq_true k⟩
      unfold step_dedup
      rw [if_pos yes]
    refine wpAny_pure (wpAny_pure ?_)
    have := fin s.heap false (Heap.SameBut.refl a s.heap) (by rw [same]; exact whole)
    exact this
  | none =>
    have no : ¬ (ks.any (· == k)) = true := fun z => by
      obtain ⟨k2, hk2, e⟩ := List.any_eq_true.mp z
      have e2 := eq_of_beq e
      subst e2
      obtain ⟨t2, ht2⟩ := hl.of hk2
      have := List.findIdx?_eq_none_iff.mp hr _ (hL.mem_iff.mp ht2)
      rw [intKind_is] at this
      cases this
    have grown : step_dedup ks k = ks ++ [k] := by unfold step_dedup; rw [if_neg no]
    rw [grown] at fin
    have p1 := layNew_perm t es ((intKind prog w).hash k) (.int k tk)
    have f1 := layNew_fits t es ((intKind prog w).hash k) (.int k tk)
    have T1 := tab_lay hT es ((intKind prog w).hash k) (.int k tk)
    dsimp only
    generalize layNew t es ((intKind prog w).hash k) (.int k tk) = X1 at p1 f1 T1 ⊢
    obtain ⟨es1, t1, wd, b1⟩ := X1
    dsimp only at p1 f1 T1 ⊢
    rw [Array.toList_push] at p1
    have hL1 : (L ++ [((intKind prog w).hash k, Value.int k tk)]).Perm es1.toList := (hL.append_right _).trans p1.symm
    have hl1 := hl.snoc k tk
    have hb1 : es1.size < scanBound := by
      have := p1.length_eq
      rw [List.length_append] at this
      have n1 : es1.size = es.size + 1 := by simpa using this
      omega
    have calm : ∀ (b : Bool) (s1 : Shared) (Q1 : Unit → Shared → Prop), Q1 () s1 → wpAny (model prog w) A (match b with | true => rule "set.scan.the-table-gave-way" | false => pure ()) Q1 E s1 := fun b s1 Q1 q => by
      cases b
      · exact wpAny_pure q
      · exact wpAny_rule q
    refine wpAny_bind (calm _ _ _ ?_)
    split
    · refine wpAny_bind ?_
      rw [hashByValue_scannable 8 (x := .int k tk) rfl]
      refine wpAny_pure ?_
      refine tail_q calm ho hex hd hL1 hl1 hb1 ?_ ?_ fun h' sb q => wpAny_pure (fin h' _ sb q)
      · exact f1
      · exact T1
    · refine wpAny_bind (wpAny_pure ?_)
      simp only [↓reduceIte]
      exact tail_q calm ho hex hd hL1 hl1 hb1 f1 T1 fun h' sb q => wpAny_pure (fin h' _ sb q)
theorem q_loop {A : Around} {R : Result → Shared → Prop} {I : Addr} {fp wr : List Addr} {G : Array GenState → Array GenState → Prop} {n : Nat} {P : Nat → Value → Prop} {St : Nat → Shared → Prop} (W : WalksS prog w A.in1 I fp wr G n P St) (S : Addr) (hSf : S ∉ fp) (val : Nat → Int) (hval : ∀ i v, P i v → ∃ t, v = .int (val i) t) (hb : n + 1 < scanBound) :
    ∀ (k i : Nat) (s : Shared), n - i = k → i ≤ n → St i s → SetQ prog w s.heap S (firstMet val i) → (∀ s', Moved (S :: wr) G s s' → SetQ prog w s'.heap S (firstMet val n) → R (.ok (.ret .none)) s') →
      codeAny (model prog w) A (.builtin "set.update.loop" ⟨[.ref S, .ref I], []⟩) R s := by
  have hSw : S ∉ wr := fun z => hSf (W.sub _ z)
  have more : ∀ b ∈ wr, b ∈ S :: wr := fun b z => List.mem_cons_of_mem _ z
  intro k
  induction k with
  | zero =>
    intro i s hk hi st hS hR
    obtain rfl : i = n := by omega
    refine codeAny_builtin PyProof.Rows.F.entry_set_update_loop ?_
    rw [Around.under_plainId PyProof.Rows.F.plain_set_update_loop _]
    refine wpAny_bind (m := pyNext (.ref I)) (W.done s _ _ st fun s' hm => ?_)
    exact wpAny_pure (hR s' (hm.mono more) (hS.keeps fun o e => hm.heap S o hSw e))
  | succ k ih =>
    intro i s hk hi st hS hR
    have hlt : i < n := by omega
    refine codeAny_builtin PyProof.Rows.F.entry_set_update_loop ?_
    rw [Around.under_plainId PyProof.Rows.F.plain_set_update_loop _]
    refine wpAny_bind (m := pyNext (.ref I)) (W.item i s _ _ hlt st fun v s' hP st' hm => ?_)
    obtain ⟨t, rfl⟩ := hval i v hP
    have hS' : SetQ prog w s'.heap S (firstMet val i) := hS.keeps fun o e => hm.heap S o hSw e
    refine wpAny_bind (m := holding [Value.int (val i) t] (setAdd S (.int (val i) t))) (wpAny_holding ?_)
    unfold setAdd
    refine wpAny_holding (wpAny_bind ((intKind prog w).pyHash (k := val i) (intKind_is _ _ _ _) ?_))
    have le := firstMet_length_le val i
    refine setq_add (s := { s' with toks := s'.toks + 1 }) hS' (by omega) fun h' b sb hS2 => ?_
    rw [← firstMet_succ] at hS2
    refine wpAny_pure ⟨plainId_quiet PyProof.Rows.F.plain_set_update_loop _, ih (i + 1) _ (by omega) hlt (W.frame _ s' _ _ st' (Nat.le_succ _) fun b hb o e => ?_) hS2 fun s2 hm2 hS3 => ?_⟩
    · rw [sb.2 b fun z => hSf (by rw [← z]; exact hb)]; exact e
    · refine hR s2 (Moved.trans W.gtrans ((hm.mono more).then_heap (Nat.le_succ _) fun b o hb e => ?_) hm2) hS3
      rw [sb.2 b fun z => hb (by rw [z]; exact List.mem_cons_self)]; exact e
end
end L2

namespace L2
open PySem PySem.Spec PyProof.Rows
abbrev noneYet (w : World) : Obj := { cls := .type "set", dict := none, data := .set #[] 0 (.fresh 0 0 (!w.params.followText "set-order")) }
section
variable {prog : Program} {w : World} {A : Around} {E : Value → Shared → Prop} {s : Shared}
theorem new_q (v : Value) {Q1 : Value → Shared → Prop} (h : Q1 (.ref s.heap.objs.size) { s with heap := s.heap.push (noneYet w) }) : codeAny (model prog w) A (.call (.builtin "set.__new__") ⟨[.type "set", v], []⟩) (wants Q1 E) s := by
  refine codeAny_of_tree ?_
  show wpAny _ A.in1 (checkBuiltinCall "set.__new__" ⟨[.type "set", v], []⟩ >>= fun _ => again (.builtin "set.__new__" ⟨[.type "set", v], []⟩)) _ _ s
  refine wpAny_bind (wpAny_of_eq (PySem.F.newCall_set_1 v) (wpAny_pure ⟨plainId_quiet PySem.F.plain_set_new _, codeAny_builtin PySem.F.entry_set_new ?_⟩))
  rw [Around.under_plainId PySem.F.plain_set_new _]
  unfold Builtin.«set.__new__» Builtin.Frozenset.newClass
  have hss := sub_set_self
  obtain ⟨h0, g0, d0, t0, o0⟩ := s
  dsimp only
  wp_walk
  refine wpAny_askSetting (wpAny_pure ?_)
  dsimp only
  simp only [newObj]
  exact wpAny_bind (wpAny_alloc (wpAny_pure (wpAny_pure h)))
theorem fresh_q {J : Heap} {a : Addr} (h : J.get? a = some (noneYet w)) : SetQ prog w J a [] :=
  ⟨_, #[], 0, _, [], h, ⟨rfl, rfl, rfl⟩, rfl, .nil, ⟨rfl, fun i e k he _ => by simp at he⟩, by decide, rfl, tab_fresh _⟩
set_option maxHeartbeats 2000000 in
theorem call_set_q {l : Addr} {items : Array Value} {ns : List Int} {Q : Value → Shared → Prop} (hh : A.handled = none) (hl : s.heap.IsList l items) (hi : IntsAre items.toList ns) (hb : items.size + 1 < scanBound)
    (h : ∀ (h' : Heap) (tk : Nat), SetQ prog w h' s.heap.objs.size (firstMet (fun i => ns.getD i 0) items.size) → (∀ b o, b < s.heap.objs.size → s.heap.get? b = some o → h'.get? b = some o) → Q (.ref s.heap.objs.size) { s with heap := h', toks := tk }) :
    wpAny (model prog w) A (call (.type "set") [.ref l]) Q E s := by
  obtain ⟨c0, tl0, m1⟩ := PySem.F.called_set.mro
  have m2 := PySem.F.called_set.made
  have m3 := PySem.F.called_set.sub
  have m4 := PySem.F.called_set.notType
  have m5 := PySem.F.called_set.canCreate
  have m6 := PySem.F.typeCall_set_1 (.ref l)
  refine wpAny_call (codeAny_of_tree ?_)
  show wpAny _ _ (callAny (.type "set") _) _ _ _
  refine wpAny_pure ⟨Code.quiet_builtin _ (by decide +kernel), codeAny_builtin PySem.F.entry_type_call ?_⟩
  rw [Around.under_plain (weight_type_call_type "set" [.ref l] []) rfl]
  (repeat (any_goals (first | assumption | wp_step)))
  refine codeAny_mono (new_q (.ref l) (E := E) (Q1 := fun v s1 => v = .ref s.heap.objs.size ∧ s1 = { s with heap := s.heap.push (noneYet w) }) ⟨rfl, rfl⟩) fun r s1 hr => ?_
  cases r with
  | error e => exact hr
  | ok fl =>
    cases fl with
    | next => exact hr.elim
    | brk => exact hr.elim
    | cont => exact hr.elim
    | ret v =>
    obtain ⟨rfl, rfl⟩ := hr
    generalize hJ : s.heap.push (noneYet w) = J
    have hS : J.get? s.heap.objs.size = some (noneYet w) := hJ ▸ Heap.get?_push_size _ rfl
    have hT : Shared.TypeIs { s with heap := J } (.ref s.heap.objs.size) "set" := ⟨_, hS, rfl⟩
    have Jn : J.objs.size = s.heap.objs.size + 1 := by rw [← hJ, Heap.size_push]
    have old : ∀ b o, s.heap.get? b = some o → J.get? b = some o := fun b o e => hJ ▸ Heap.get?_push_of_some _ e
    have i1 := PySem.F.called_set.init.lookup
    have i2 := PySem.F.called_set.init.bind (.ref s.heap.objs.size)
    (repeat (any_goals (first | assumption | wp_step)))
    refine codeAny_mono (codeAny_call_builtin (R := wants (fun r s2 => r = .none ∧ ∃ h' tk, s2 = { s with heap := h', toks := tk } ∧ SetQ prog w h' s.heap.objs.size (firstMet (fun i => ns.getD i 0) items.size) ∧ ∀ b o, b < s.heap.objs.size → s.heap.get? b = some o → h'.get? b = some o) E) PySem.F.called_set.init.plain PySem.F.entry_set_init (check_set_init_1 hT ?_)) fun r2 s2 hr2 => ?_
    · have hlJ : J.IsList l items := hl.at fun o e => old l o e
      have hlt : l < s.heap.objs.size := by obtain ⟨_, e, _⟩ := hl; exact Heap.lt_size e
      obtain ⟨ol, hol, hcl, nl, hdl⟩ := id hlJ
      obtain ⟨c1, c2, c3, c4⟩ := ol
      simp only at hcl hdl
      subst hcl hdl
      have j1 := PySem.F.sub_list_set
      have j2 := PySem.F.sub_list_frozenset
      have j3 : (Value.type "list" == Value.type "dict") = false := by decide
      unfold Builtin.«set.__init__» noKeywords Builtin.Frozenset.updateFrom
      generalize hPI : pyIter = PI
      wp_walk
      subst hPI
      refine wpAny_pyIter_list hlJ (wpAny_bind (wpAny_runValue ?_))
      refine q_loop (Walks.list (by simp [hh]) J.objs.size l (by rw [Jn]; exact Nat.ne_of_lt (Nat.lt_succ_of_lt hlt)) items).toS s.heap.objs.size ?_ (fun i => ns.getD i 0) (fun i v hv => IntsAre.int_at hi i v (by rw [Array.getElem?_toList]; exact hv)) hb (items.size - 0) 0 _ rfl (Nat.zero_le _) ⟨⟨_, Heap.get?_push_size _ rfl, rfl, rfl⟩, hlJ.push _⟩ (fresh_q (Heap.get?_push_of_some _ hS)) fun s' hm hS' => ?_
      · intro z
        rcases List.mem_cons.mp z with z | z
        · rw [Jn] at z; exact absurd z (Nat.ne_of_lt (Nat.lt_succ_self _))
        · exact absurd (List.mem_singleton.mp z) (Nat.ne_of_gt hlt)
      · obtain ⟨h', g', d', tk', os'⟩ := s'
        obtain rfl : g' = s.gens := hm.gens
        obtain rfl : d' = s.drawn := hm.drawn
        obtain rfl : os' = s.os := hm.os
        refine wpAny_pure (wpAny_pure ⟨rfl, h', tk', rfl, hS', fun b o hb e => hm.heap b o (fun z => ?_) (Heap.get?_push_of_some _ (old b o e))⟩)
        rcases List.mem_cons.mp z with z | z
        · exact absurd z (Nat.ne_of_lt hb)
        · have := List.mem_singleton.mp z
          rw [Jn] at this
          exact absurd this (Nat.ne_of_lt (Nat.lt_succ_of_lt hb))
    · cases r2 with
      | error e => exact hr2
      | ok fl2 =>
        cases fl2 with
        | next => exact hr2.elim
        | brk => exact hr2.elim
        | cont => exact hr2.elim
        | ret r =>
        obtain ⟨rfl, h', tk, rfl, hS', hk'⟩ := hr2
        (repeat (any_goals (first | assumption | wp_step)))
        exact h _ _ hS' hk'
end
end L2

namespace L2
open PySem PySem.Spec PyProof.Rows
/-! ### walking a set of numbers -/
namespace Fs
theorem sl_next : Slot "set_iterator" "__next__" "set_iterator.__next__" :=
  .of (owner := "set_iterator") (n := "__next__") (by rw [typeLookup_type, builtinLookup_eq_fast]; kernel_rfl) (by decide +kernel) (by decide +kernel) (by decide +kernel) (by first | exact .inl (by decide +kernel) | exact .inr (by decide +kernel)) (by rw [isSubtype_type]; kernel_rfl)
theorem en_next : entryFor table "set_iterator.__next__" = some Builtin.«set_iterator.__next__» := entryFor_of_tree (by kernel_rfl)
theorem en_iter : entryFor table "set.__iter__" = some Builtin.«frozenset.__iter__» := entryFor_alias (id' := "frozenset.__iter__") (by kernel_rfl) rfl (by decide +kernel) (by kernel_rfl)
theorem ow_si : Manifest.owners.lookup (String.ofList ['r', 'o', 't', 'a', 'r', 'e', 't', 'i', '_', 't', 'e', 's'].reverse) = some Manifest.sig_set_iterator := by kernel_rfl
theorem ar_next (a : Value) : argsOk "set_iterator.__next__" ⟨[a], []⟩ := by
  unfold argsOk; rw [signature?_of (id := "set_iterator.__next__") (n := ['_', '_', 't', 'x', 'e', 'n', '_', '_']) (o := ['r', 'o', 't', 'a', 'r', 'e', 't', 'i', '_', 't', 'e', 's']) (by kernel_rfl) ow_si]; kernel_rfl
end Fs
abbrev sit (first : Value) (i : Nat) (a : Addr) (n ep : Nat) : Obj := { cls := .type "set_iterator", data := .fields #[first, .int i 0, .ref a, .int n 0, .int ep 0] }
section
variable {prog : Program} {w : World} {A : Around} {E : Value → Shared → Prop} {s : Shared} {I a : Addr} {o : Obj} {es : Array (Int × Value)} {ep i : Nat} {t : SetTable}
theorem sn_item {slot nx : Nat} {x : Value} {Q : Option Value → Shared → Prop} (hI : s.heap.get? I = some (sit (.int slot 0) i a es.size ep)) (ho : s.heap.get? a = some o) (hd : o.data = .set es ep t) (hf : t.fits es.size = true)
    (nxt : ∀ (Q1 : Option (Value × Nat) → Shared → Prop) (E1 : Value → Shared → Prop) (A1 : Around), Q1 (some (x, nx)) s → wpAny (model prog w) A1 (setNext a slot i ep) Q1 E1 s)
    (fin : ∀ h', h'.get? I = some (sit (.int nx 0) (i + 1) a es.size ep) → Heap.SameBut I s.heap h' → Q (some x) { s with heap := h' }) : wpAny (model prog w) A (pyNext (.ref I)) Q E s := by
  have hT : s.TypeIs (.ref I) "set_iterator" := ⟨_, hI, rfl⟩
  unfold pyNext
  refine wpAny_bind (wpAny_attempt (wpAny_callSpecial?_slot (name := Str.ofString "__next__") hT Fs.sl_next (wpAny_call_entry Fs.sl_next hT Fs.en_next ?_ (Fs.ar_next _))))
  unfold Builtin.«set_iterator.__next__»
  refine wpAny_bind (m := slotArgs _ _ _) (wpAny_pure ?_)
  refine wpAny_bind (wpAny_fieldsOf hI rfl ?_)
  refine wpAny_bind (wpAny_setEntries_of ho hd hf ?_)
  rw [if_neg (by simp)]
  simp only [Int.toNat_natCast]
  refine wpAny_bind (nxt _ _ _ ?_)
  dsimp only
  refine wpAny_bind (wpAny_setField_rec hI (by simp) fun h1 q1 b1 => wpAny_bind (wpAny_setField_rec (s := { s with heap := h1 }) q1 (by simp) fun h2 q2 b2 => wpAny_pure ⟨_, rfl, wpAny_pure (fin h2 ?_ (b1.trans b2))⟩))
  exact q2
/-- StopIteration, and the walk is at its end -/
theorem stop_q {A1 : Around} {Q : Option Value → Shared → Prop} {Q1 : Fin → Shared → Prop} {vs : Array Value} (hh : A1.handled = none) (hI : s.heap.get? I = some { cls := .type "set_iterator", data := .fields vs }) (hk : 2 < vs.size)
    (fin : ∀ h', Heap.ExtBut I s.heap h' → Q none { s with heap := h' }) :
    wpAny (model prog w) A1 (setField (.ref I) 2 .none >>= fun _ => newExc (.type "StopIteration") [] >>= fun e => raiseNew e) Q1 (fun e s' => wpAny (model prog w) A (isInstance e (Value.type "StopIteration") >>= fun b => if b = true then pure none else throw e) Q E s') s := by
  refine wpAny_bind (wpAny_setField_rec hI hk fun h1 q1 b1 => wpAny_bind ?_)
  simp only [newExc, newTuple]
  refine wpAny_bind (wpAny_newObj_type (wpAny_bind (m := firstArgMember _ _) (wpAny_of_eq (a := Value.none) (by first | rfl | (simp only [firstArgMember]; rfl)) (wpAny_newObj_type ?_ (by size_fits)))) (by size_fits))
  simp only [raiseNew]
  refine wpAny_bind (wpAny_handled ?_)
  rw [hh]
  refine wpAny_bind (wpAny_pure (wpAny_throw ?_))
  refine wpAny_bind (wpAny_isInstance (b := true) (T := "StopIteration") ⟨_, Heap.get?_push_size _ rfl, rfl⟩ isSubtype_stop (wpAny_pure (fin _ ?_)))
  exact (b1.extBut.push _).push _
theorem sn_end {slot : Nat} {Q : Option Value → Shared → Prop} (hh : A.handled = none) (hI : s.heap.get? I = some (sit (.int slot 0) i a es.size ep)) (ho : s.heap.get? a = some o) (hd : o.data = .set es ep t) (hf : t.fits es.size = true)
    (nxt : ∀ (Q1 : Option (Value × Nat) → Shared → Prop) (E1 : Value → Shared → Prop) (A1 : Around), Q1 none s → wpAny (model prog w) A1 (setNext a slot i ep) Q1 E1 s)
    (fin : ∀ h', Heap.ExtBut I s.heap h' → Q none { s with heap := h' }) : wpAny (model prog w) A (pyNext (.ref I)) Q E s := by
  have hT : s.TypeIs (.ref I) "set_iterator" := ⟨_, hI, rfl⟩
  unfold pyNext
  refine wpAny_bind (wpAny_attempt (wpAny_callSpecial?_slot (name := Str.ofString "__next__") hT Fs.sl_next (wpAny_call_entry Fs.sl_next hT Fs.en_next ?_ (Fs.ar_next _))))
  unfold Builtin.«set_iterator.__next__»
  refine wpAny_bind (m := slotArgs _ _ _) (wpAny_pure (wpAny_bind (wpAny_fieldsOf hI rfl (wpAny_bind (wpAny_setEntries_of ho hd hf ?_)))))
  rw [if_neg (by simp)]
  simp only [Int.toNat_natCast]
  refine wpAny_bind (nxt _ _ _ ?_)
  exact stop_q (by rw [Around.in1_handled]; exact hh) hI (by simp) fin
/-- the places were drawn beforehand -/
theorem sd_item {T : Addr} {oT : Obj} {ps : Array Value} {m p : Nat} {x : Int × Value} {tp : Tok} {Q : Option Value → Shared → Prop} (hI : s.heap.get? I = some (sit (.ref T) i a es.size ep)) (hT0 : s.heap.get? T = some oT) (hTd : oT.data = .seq ps m) (hp : ps[i]? = some (.int p tp)) (hx : es[p]? = some x)
    (ho : s.heap.get? a = some o) (hd : o.data = .set es ep t) (hf : t.fits es.size = true)
    (fin : ∀ h', h'.get? I = some (sit (.ref T) (i + 1) a es.size ep) → Heap.SameBut I s.heap h' → Q (some x.2) { s with heap := h' }) : wpAny (model prog w) A (pyNext (.ref I)) Q E s := by
  have hT : s.TypeIs (.ref I) "set_iterator" := ⟨_, hI, rfl⟩
  unfold pyNext
  refine wpAny_bind (wpAny_attempt (wpAny_callSpecial?_slot (name := Str.ofString "__next__") hT Fs.sl_next (wpAny_call_entry Fs.sl_next hT Fs.en_next ?_ (Fs.ar_next _))))
  unfold Builtin.«set_iterator.__next__»
  refine wpAny_bind (m := slotArgs _ _ _) (wpAny_pure (wpAny_bind (wpAny_fieldsOf hI rfl (wpAny_bind (wpAny_setEntries_of ho hd hf ?_)))))
  rw [if_neg (by simp)]
  refine wpAny_bind (wpAny_seqItems hT0 hTd ?_)
  simp only [Int.toNat_natCast, hp]
  unfold setNextDrawn
  refine wpAny_bind (wpAny_bind (wpAny_setState_of ho hd hf ?_))
  dsimp only
  rw [if_neg (by simp), hx]
  refine wpAny_pure (wpAny_bind (wpAny_setField_rec hI (by simp) fun h1 q1 b1 => wpAny_pure ⟨_, rfl, wpAny_pure (fin h1 ?_ b1)⟩))
  exact q1
theorem sd_end {T : Addr} {oT : Obj} {ps : Array Value} {m : Nat} {Q : Option Value → Shared → Prop} (hh : A.handled = none) (hI : s.heap.get? I = some (sit (.ref T) i a es.size ep)) (hT0 : s.heap.get? T = some oT) (hTd : oT.data = .seq ps m) (hp : ps[i]? = none)
    (ho : s.heap.get? a = some o) (hd : o.data = .set es ep t) (hf : t.fits es.size = true)
    (fin : ∀ h', Heap.ExtBut I s.heap h' → Q none { s with heap := h' }) : wpAny (model prog w) A (pyNext (.ref I)) Q E s := by
  have hT : s.TypeIs (.ref I) "set_iterator" := ⟨_, hI, rfl⟩
  unfold pyNext
  refine wpAny_bind (wpAny_attempt (wpAny_callSpecial?_slot (name := Str.ofString "__next__") hT Fs.sl_next (wpAny_call_entry Fs.sl_next hT Fs.en_next ?_ (Fs.ar_next _))))
  unfold Builtin.«set_iterator.__next__»
  refine wpAny_bind (m := slotArgs _ _ _) (wpAny_pure (wpAny_bind (wpAny_fieldsOf hI rfl (wpAny_bind (wpAny_setEntries_of ho hd hf ?_)))))
  rw [if_neg (by simp)]
  refine wpAny_bind (wpAny_seqItems hT0 hTd ?_)
  simp only [Int.toNat_natCast, hp]
  refine wpAny_bind (wpAny_setField_rec hI (by simp) fun h1 q1 b1 => ?_)
  exact stop_q (s := { s with heap := h1 }) (by rw [Around.in1_handled]; exact hh) q1 (by simp) fun h' e => fin h' fun b ob hb q => e b ob hb (b1.extBut b ob hb q)
end
end L2

namespace L2
open PySem PySem.Spec PyProof.Rows
/-! ### a list has no keys -/
/-- it raises that there are none -/
def NoKeys (a : Addr) : PySem.Spec := fun A R s => (∃ xs n, s.heap.get? a = some { cls := .type "list", data := .seq xs n }) ∧ raisesAttr (.ref a) "keys" A R s
section
variable {prog : Program} {w : World} {A : Around} {E : Value → Shared → Prop} {s : Shared}
end
end L2
namespace L2
open PySem PySem.Spec PyProof.Rows
/-! ### dict([(text, value), ..]) -/
/-- pairs put in one by one -/
def putAll (kvs : List (Key × V)) : List (Str × V) → List (Key × V)
  | [] => kvs
  | (k, v) :: r => putAll (putK kvs (Sum.inr k) v) r
section
variable {X : Cx} {pins : List (Addr × Obj)} {σ : St} {A : Around}
end
end L2

namespace L2
open PySem PySem.Spec PyProof.Rows
section
variable {X : Cx}
/-! a dict walked: it is frozen meanwhile -/
def Itf (d : Addr) (o : Obj) (kvs : List (Key × V)) : It :=
  ⟨fun i H => H d = some (.frz o (.dK kvs)) ∧ i < kvs.length, fun i H x H' => H' = H ∧ ∃ kv, kvs[i]? = some kv ∧ x = kV kv.1, fun i H => H d = some (.frz o (.dK kvs)) ∧ kvs.length ≤ i⟩
def iDict (tl : TE) : TI := fun σ H R => tl σ H fun x H1 => ∃ (d : Addr) (kvs : List (Key × V)), x = .ref d ∧ H1 d = some (.dK kvs) ∧ ∀ o, R (Itf d o kvs) (upd H1 d (.frz o (.dK kvs)))
def tThaw (H₀ : Hp) (t : TE) : TE := fun σ H Q => t σ H fun v H' => ∃ (d : Addr) (o : Obj) (kvs : List (Key × V)), H' d = some (.frz o (.dK kvs)) ∧ H₀ d = none ∧ Q v (upd H' d (.dK kvs))
end
end L2

namespace L2
open PySem PySem.Spec PyProof.Rows
section
variable {X : Cx}
end
end L2

namespace L2
open PySem PySem.Spec PyProof.Rows PySem.W
section
variable {X : Cx}
section
variable {pg : Program} {wd : World} {B : Around} {Fx : Value → Shared → Prop} {t : Shared} {ty : String} {src dd : Addr} {n : Nat} {P : Nat → Value → Prop} {Okk : Heap → Prop}
end
end
end L2

namespace L2
open PySem PySem.Spec PyProof.Rows
/-! ### the three orders in which a set is walked -/
theorem erase_perm {α : Type} : ∀ (l : List α) (i : Nat) (h : i < l.length), (l[i] :: l.eraseIdx i).Perm l
  | x :: l, 0, _ => .refl _
  | x :: l, i + 1, h => by
    simp only [List.getElem_cons_succ, List.eraseIdx_cons_succ]
    exact (List.Perm.swap _ _ _).trans ((erase_perm l i (by simpa using h)).cons x)
theorem pick_go {α : Type} (f : Nat → Nat) : ∀ (fuel k : Nat) (left : List α) (out : Array α), left.length ≤ fuel → (pickOrder.go f fuel k left out).toList.Perm (out.toList ++ left)
  | 0, k, left, out, h => by
    have : left = [] := List.eq_nil_of_length_eq_zero (by omega)
    subst this
    rw [List.append_nil]
    exact .refl _
  | fuel + 1, k, left, out, h => by
    unfold pickOrder.go
    cases e : left[f k % left.length]? with
    | none =>
      have e2 := List.getElem?_eq_none_iff.mp e
      have : left = [] := by
        cases left with
        | nil => rfl
        | cons x xs => exact absurd (Nat.mod_lt (f k) (Nat.succ_pos xs.length)) (by simpa using e2)
      subst this
      rw [List.append_nil]
    | some x =>
      obtain ⟨hl, hx⟩ := List.getElem?_eq_some_iff.mp e
      refine (pick_go f fuel (k + 1) _ _ (by rw [List.length_eraseIdx_of_lt hl]; omega)).trans ?_
      rw [Array.toList_push, List.append_assoc]
      refine List.Perm.append_left _ ?_
      rw [← hx]
      exact erase_perm _ _ hl
theorem pick_perm {α : Type} (f : Nat → Nat) (xs : Array α) : (pickOrder f xs).toList.Perm xs.toList := by
  have := pick_go f xs.size 0 xs.toList #[] (by simp)
  simpa [pickOrder] using this
section
variable {prog : Program} {w : World} {A : Around} {E : Value → Shared → Prop} {s : Shared} {a : Addr} {o : Obj} {es : Array (Int × Value)} {ep : Nat} {t : SetTable}
theorem choose_q {n : Nat} {src : Source} {Q : Nat → Shared → Prop} (hn : n ≠ 0) (h : ∀ i d, i < n → Q i { s with drawn := d }) : wpAny (model prog w) A (choose src n) Q E s := fun _ _ _ => ⟨hn, h _ _ (Nat.mod_lt _ (Nat.pos_of_ne_zero hn))⟩
theorem draw_q {α : Type} : ∀ (n : Nat) (xs : List α) (s : Shared) (Q : List α → Shared → Prop), xs.length = n → (∀ ys d, ys.Perm xs → Q ys { s with drawn := d }) → wpAny (model prog w) A (drawOrder n xs) Q E s
  | 0, xs, s, Q, hl, q => by
    have : xs = [] := List.eq_nil_of_length_eq_zero hl
    subst this
    unfold drawOrder
    exact wpAny_pure (q [] s.drawn (.refl _))
  | n + 1, [], s, Q, hl, q => by cases hl
  | n + 1, x :: xs, s, Q, hl, q => by
    unfold drawOrder
    refine wpAny_bind (choose_q (by simp) fun i d hi => ?_)
    rw [List.getElem?_eq_getElem hi]
    refine wpAny_bind (draw_q n _ _ _ (by rw [List.length_eraseIdx_of_lt hi]; omega) fun ys d2 hp => wpAny_pure ?_)
    exact q _ d2 ((hp.cons _).trans (erase_perm _ _ hi))
def intOf (e : Int × Value) : Int := match e.2 with | .int k _ => k | _ => 0
theorem lay_map {L : List (Int × Value)} {ks : List Int} (h : LayI prog w L ks) : L.map intOf = ks := by
  apply List.ext_getElem?
  intro i
  rw [List.getElem?_map]
  cases e : L[i]? with
  | none =>
    have := List.getElem?_eq_none_iff.mp e
    rw [h.1] at this
    rw [List.getElem?_eq_none this]
    rfl
  | some x =>
    have lt : i < ks.length := by rw [← h.1]; exact (List.getElem?_eq_some_iff.mp e).1
    obtain ⟨t, rfl⟩ := h.2 i x _ e (List.getElem?_eq_getElem lt)
    rw [List.getElem?_eq_getElem lt]
    rfl
theorem ints_of : ∀ {M : List (Int × Value)}, (∀ e ∈ M, ∃ k t, e.2 = Value.int k t) → IntsAre (M.map (·.2)) (M.map intOf)
  | [], _ => .nil
  | (x, v) :: M, h => by
    obtain ⟨k, t, e⟩ := h (x, v) List.mem_cons_self
    cases e
    exact .cons k t (ints_of fun e he => h e (List.mem_cons_of_mem _ he))
theorem lay_ints {L M : List (Int × Value)} {ks : List Int} (h : LayI prog w L ks) (p : M.Perm L) : ∃ ms : List Int, ms.Perm ks ∧ IntsAre (M.map (·.2)) ms := by
  refine ⟨M.map intOf, ?_, ints_of fun e he => ?_⟩
  · rw [← lay_map h]
    exact p.map _
  · obtain ⟨k, t, _, rfl⟩ := h.mem (p.mem_iff.mp he)
    exact ⟨k, t, rfl⟩
theorem ask_q {Q : Bool → Shared → Prop} (h : Q (w.params.followText "set-order") s) : wpAny (model prog w) A setsByText Q E s := by
  unfold setsByText
  exact wpAny_bind (wpAny_askSetting (wpAny_pure h))
/-- by the text's own order -/
theorem next_text {slot i : Nat} {Q : Option (Value × Nat) → Shared → Prop} (hb : w.params.followText "set-order" = true) (ho : s.heap.get? a = some o) (hd : o.data = .set es ep t) (hf : t.fits es.size = true)
    (h : Q (((pickOrder (w.params.setOrder a ep) es)[i]?).map fun e => (e.2, slot)) s) : wpAny (model prog w) A (setNext a slot i ep) Q E s := by
  unfold setNext
  refine wpAny_bind (wpAny_setState_of ho hd hf (wpAny_bind (ask_q ?_)))
  rw [hb]
  simp only [↓reduceIte]
  rw [if_neg (by simp)]
  unfold setWalk
  refine wpAny_bind (wpAny_bind (wpAny_setState_of ho hd hf (wpAny_bind (ask_q ?_))))
  rw [hb]
  simp only [↓reduceIte]
  exact wpAny_bind (wpAny_askSetting (wpAny_pure (wpAny_pure h)))
/-- by the places of its table -/
theorem next_place {slot i : Nat} {Q : Option (Value × Nat) → Shared → Prop} (hb : w.params.followText "set-order" = false) (ho : s.heap.get? a = some o) (hd : o.data = .set es ep t) (hf : t.fits es.size = true) (hl : t.led = true) (hp : (!t.plain && decide (es.size > 1)) = false)
    (h : Q (match es[SetTable.below t.place slot]?, t.place[SetTable.below t.place slot]? with | some (_, x), some j => some (x, j + 1) | _, _ => none) s) : wpAny (model prog w) A (setNext a slot i ep) Q E s := by
  unfold setNext
  refine wpAny_bind (wpAny_setState_of ho hd hf (wpAny_bind (ask_q ?_)))
  rw [hb]
  simp only [Bool.false_eq_true, ↓reduceIte]
  refine wpAny_ite_split (fun hab => absurd hab (show ¬ ((!t.plain && decide (es.size > 1)) = true) by rw [hp]; decide)) (fun _ => ?_)
  refine wpAny_bind ?_
  refine wpAny_ite_split (c := (!t.led && !es.isEmpty) = true) (fun hab => absurd hab (by rw [hl]; simp)) (fun _ => wpAny_pure ?_)
  exact wpAny_pure h
end
end L2

namespace L2
open PySem PySem.Spec PyProof.Rows
namespace Fs
theorem sl_self : Slot "set_iterator" "__iter__" "set_iterator.__iter__" :=
  .of (owner := "set_iterator") (n := "__iter__") (by rw [typeLookup_type, builtinLookup_eq_fast]; kernel_rfl) (by decide +kernel) (by decide +kernel) (by decide +kernel) (by first | exact .inl (by decide +kernel) | exact .inr (by decide +kernel)) (by rw [isSubtype_type]; kernel_rfl)
theorem en_self : entryFor table "set_iterator.__iter__" = some Builtin.«dict_keyiterator.__iter__» := entryFor_alias (id' := "dict_keyiterator.__iter__") (by kernel_rfl) rfl (by decide +kernel) (by kernel_rfl)
theorem ar_self (a : Value) : argsOk "set_iterator.__iter__" ⟨[a], []⟩ := by
  unfold argsOk; rw [signature?_of (id := "set_iterator.__iter__") (n := ['_', '_', 'r', 'e', 't', 'i', '_', '_']) (o := ['r', 'o', 't', 'a', 'r', 'e', 't', 'i', '_', 't', 'e', 's']) (by kernel_rfl) ow_si]; kernel_rfl
end Fs
section
variable {prog : Program} {w : World} {A : Around} {E : Value → Shared → Prop} {s : Shared} {I a : Addr} {o : Obj} {es : Array (Int × Value)} {ep : Nat} {t : SetTable}
theorem self_q {oI : Obj} {Q : Value → Shared → Prop} (hI : s.heap.get? I = some oI) (hc : oI.cls = .type "set_iterator") (q : Q (.ref I) s) : wpAny (model prog w) A (pyIter (.ref I)) Q E s := by
  have hT : s.TypeIs (.ref I) "set_iterator" := ⟨_, hI, hc⟩
  refine wpAny_pyIter_slot hT Fs.sl_self (wpAny_call_entry Fs.sl_self hT Fs.en_self ?_ (Fs.ar_self _))
  show wpAny _ _ (ret (.ref I)) _ _ s
  exact wpAny_pure ⟨_, rfl, "set_iterator", _, hT, Fs.sl_next.lookup, q⟩
def slotAt (t : SetTable) : Nat → Nat
  | 0 => 0
  | i + 1 => t.place.getD i 0 + 1
theorem slot_at {t : SetTable} (h : Ris t.place) : ∀ {i : Nat}, i ≤ t.place.size → SetTable.below t.place (slotAt t i) = i
  | 0, _ => below_zero h
  | i + 1, hi => by
    have hi' : i < t.place.size := hi
    have e : t.place.getD i 0 = t.place[i] := by simp [Array.getD, hi']
    show SetTable.below t.place (t.place.getD i 0 + 1) = i + 1
    rw [e]
    exact below_next h hi
theorem fits_size (h : t.fits es.size = true) : t.place.size = es.size := by
  simp only [SetTable.fits, Bool.and_eq_true, beq_iff_eq] at h
  exact h.1
theorem walk_place (hh : A.handled = none) (hIa : I ≠ a) (hd : o.data = .set es ep t) (hf : t.fits es.size = true) (hb : w.params.followText "set-order" = false) (hl : t.led = true) (hp : (!t.plain && decide (es.size > 1)) = false) (hr : Ris t.place) :
    Walks prog w A I [I, a] [I] es.size (fun i v => (es.toList.map (·.2))[i]? = some v) (fun i h => h.get? I = some (sit (.int (slotAt t i) 0) i a es.size ep) ∧ h.get? a = some o) where
  sub := fun b hb => by simpa using Or.inl (List.mem_singleton.mp hb)
  frame := fun i h h' st k => ⟨k I (by simp) _ st.1, k a (by simp) _ st.2⟩
  item := fun i s Q E hi st q => by
    have hps := fits_size hf
    have e1 : es[SetTable.below t.place (slotAt t i)]? = some es[i] := by rw [slot_at hr (by omega)]; exact Array.getElem?_eq_getElem hi
    have e2 : t.place[SetTable.below t.place (slotAt t i)]? = some (t.place.getD i 0) := by
      rw [slot_at hr (by omega), Array.getElem?_eq_getElem (by omega)]
      simp [Array.getD, show i < t.place.size by omega]
    refine sn_item st.1 st.2 hd hf (x := es[i].2) (nx := t.place.getD i 0 + 1) (fun Q1 E1 A1 z => next_place hb st.2 hd hf hl hp ?_) fun h' q1 sb => ?_
    · rw [e1, e2]
      exact z
    · refine q _ h' s.toks ?_ ⟨q1, ?_⟩ fun b ob hb e => sb.extBut b ob (fun z => hb (by simp [z])) e
      · rw [List.getElem?_map, Array.getElem?_toList, Array.getElem?_eq_getElem hi]; rfl
      · exact sb.extBut a o (Ne.symm hIa) st.2
  done := fun s Q E st q => by
    have hps := fits_size hf
    refine sn_end hh st.1 st.2 hd hf (fun Q1 E1 A1 z => next_place hb st.2 hd hf hl hp ?_) fun h' e => q h' s.toks fun b ob hb y => e b ob (fun z => hb (by simp [z])) y
    rw [slot_at hr (by omega), Array.getElem?_eq_none (Nat.le_refl _)]
    exact z
  self := fun i s Q E st q => self_q st.1 rfl q
theorem walk_text (hh : A.handled = none) (hIa : I ≠ a) (hd : o.data = .set es ep t) (hf : t.fits es.size = true) (hb : w.params.followText "set-order" = true) :
    Walks prog w A I [I, a] [I] (pickOrder (w.params.setOrder a ep) es).size (fun i v => ((pickOrder (w.params.setOrder a ep) es).toList.map (·.2))[i]? = some v) (fun i h => h.get? I = some (sit (.int 0 0) i a es.size ep) ∧ h.get? a = some o) where
  sub := fun b hb => by simpa using Or.inl (List.mem_singleton.mp hb)
  frame := fun i h h' st k => ⟨k I (by simp) _ st.1, k a (by simp) _ st.2⟩
  item := fun i s Q E hi st q => by
    refine sn_item (slot := 0) st.1 st.2 hd hf (x := (pickOrder (w.params.setOrder a ep) es)[i].2) (nx := 0) (fun Q1 E1 A1 z => next_text hb st.2 hd hf ?_) fun h' q1 sb => ?_
    · rw [Array.getElem?_eq_getElem hi]
      exact z
    · refine q _ h' s.toks ?_ ⟨q1, ?_⟩ fun b ob hb e => sb.extBut b ob (fun z => hb (by simp [z])) e
      · rw [List.getElem?_map, Array.getElem?_toList, Array.getElem?_eq_getElem hi]; rfl
      · exact sb.extBut a o (Ne.symm hIa) st.2
  done := fun s Q E st q => by
    refine sn_end (slot := 0) hh st.1 st.2 hd hf (fun Q1 E1 A1 z => next_text hb st.2 hd hf ?_) fun h' e => q h' s.toks fun b ob hb y => e b ob (fun z => hb (by simp [z])) y
    rw [Array.getElem?_eq_none (Nat.le_refl _)]
    exact z
  self := fun i s Q E st q => self_q st.1 rfl q
theorem walk_drawn {T : Addr} {oT : Obj} {m : Nat} {ps : List Nat} (hh : A.handled = none) (hIa : I ≠ a) (hIT : I ≠ T) (hTd : oT.data = .seq (ps.map fun (i : Nat) => rawInt i).toArray m) (hps : ∀ p ∈ ps, p < es.size) (hd : o.data = .set es ep t) (hf : t.fits es.size = true) :
    Walks prog w A I [I, a, T] [I] ps.length (fun i v => (ps.map fun p => (es.getD p (0, .none)).2)[i]? = some v) (fun i h => h.get? I = some (sit (.ref T) i a es.size ep) ∧ h.get? a = some o ∧ h.get? T = some oT) where
  sub := fun b hb => by simpa using Or.inl (List.mem_singleton.mp hb)
  frame := fun i h h' st k => ⟨k I (by simp) _ st.1, k a (by simp) _ st.2.1, k T (by simp) _ st.2.2⟩
  item := fun i s Q E hi st q => by
    have hlt := hps _ (List.getElem_mem hi)
    refine sd_item (p := ps[i]) (x := es.getD ps[i] (0, .none)) (tp := 0) st.1 st.2.2 hTd ?_ ?_ st.2.1 hd hf fun h' q1 sb => ?_
    · simp [rawInt, hi]
    · rw [Array.getElem?_eq_getElem hlt]; simp [Array.getD, hlt]
    · refine q _ h' s.toks ?_ ⟨q1, sb.extBut a o (Ne.symm hIa) st.2.1, sb.extBut T oT (Ne.symm hIT) st.2.2⟩ fun b ob hb e => sb.extBut b ob (fun z => hb (by simp [z])) e
      rw [List.getElem?_map, List.getElem?_eq_getElem hi]; rfl
  done := fun s Q E st q => sd_end hh st.1 st.2.2 hTd (by simp) st.2.1 hd hf fun h' e => q h' s.toks fun b ob hb y => e b ob (fun z => hb (by simp [z])) y
  self := fun i s Q E st q => self_q st.1 rfl q
end
end L2

namespace L2
open PySem PySem.Spec PyProof.Rows
section
variable {prog : Program} {w : World} {A : Around} {E : Value → Shared → Prop} {s : Shared} {a : Addr}
theorem few_ris {xs : Array Nat} (h : xs.size ≤ 1) : Ris xs := by
  unfold Ris
  have hl : xs.toList.length ≤ 1 := by simpa using h
  match xs.toList, hl with
  | [], _ => exact .nil
  | [x], _ => exact List.pairwise_singleton ..
theorem range_all {α : Type} (xs : Array α) (d : α) : (List.range xs.size).map (fun p => xs.getD p d) = xs.toList := by
  apply List.ext_getElem?
  intro i
  have e : xs.toList[i]? = xs[i]? := Array.getElem?_toList
  rw [List.getElem?_map, e]
  by_cases h : i < xs.size
  · rw [List.getElem?_range h, Array.getElem?_eq_getElem h]
    simp [Array.getD, h]
  · rw [List.getElem?_eq_none (by simpa using h), Array.getElem?_eq_none (by simpa using h)]
    rfl
theorem iter_q {ks : List Int} {Q : Value → Shared → Prop} (hS : SetQ prog w s.heap a ks)
    (fin : ∀ (I : Addr) (g : Heap) (d : Drawn) (fp : List Addr) (St : Nat → Heap → Prop) (xs : List Value), (∀ b o, s.heap.get? b = some o → g.get? b = some o) → s.heap.objs.size ≤ I → (∀ b ∈ fp, b = a ∨ s.heap.objs.size ≤ b) → (∀ B : Around, B.handled = none → Walks prog w B I fp [I] xs.length (fun i v => xs[i]? = some v) St) → St 0 g → (∃ ms : List Int, ms.Perm ks ∧ IntsAre xs ms) → Q (.ref I) { s with heap := g, drawn := d }) :
    wpAny (model prog w) A (pyIter (.ref a)) Q E s := by
  obtain ⟨o, es, ep, t, L, ho, hex, hd, hL, hl, hb, hf, hT⟩ := hS
  have hTy : s.TypeIs (.ref a) "set" := ⟨o, ho, hex.1⟩
  have hlt : a < s.heap.objs.size := Heap.lt_size ho
  refine wpAny_pyIter_slot hTy PySem.F.slot_set_iter (wpAny_call_entry PySem.F.slot_set_iter hTy Fs.en_iter ?_ (PySem.F.args_set_iter_1 _))
  unfold Builtin.«frozenset.__iter__»
  refine wpAny_bind (m := Builtin.Frozenset.slot0 _ _) (wpAny_pure ?_)
  refine wpAny_bind (m := Builtin.Frozenset.sizeOf _) (wpAny_bind (wpAny_setEntries_of ho hd hf (wpAny_pure ?_)))
  unfold setDrawn
  refine wpAny_bind (wpAny_bind (wpAny_setState_of ho hd hf (wpAny_bind (ask_q (wpAny_pure ?_)))))
  have same : ∀ {f0 : Value} {s1 : Shared} {R : Fin → Shared → Prop} {E1 : Value → Shared → Prop}, s1.heap.get? a = some o → R (.done (.ret (.ref s1.heap.objs.size))) { s1 with heap := s1.heap.push (sit f0 0 a es.size ep) } →
      wpAny (model prog w) A.in1 (setEpoch a >>= fun e => newFields "set_iterator" [f0, rawInt 0, .ref a, rawInt es.size, rawInt e] >>= fun v => ret v) R E1 s1 := fun {f0 s1 R E1} h1 q =>
    wpAny_bind (wpAny_setEpoch_of h1 hd hf (wpAny_bind (wpAny_newObj_type (wpAny_pure q))))
  have lay : ∀ {M : List (Int × Value)}, M.Perm es.toList → ∃ ms : List Int, ms.Perm ks ∧ IntsAre (M.map (·.2)) ms := fun p => lay_ints hl (p.trans hL.symm)
  have up : ∀ (ob : Obj) b o', s.heap.get? b = some o' → (s.heap.push ob).get? b = some o' := fun ob b o' e => Heap.get?_push_of_some _ e
  have own : ∀ b ∈ [s.heap.objs.size, a], b = a ∨ s.heap.objs.size ≤ b := fun b hb => by
    rcases List.mem_cons.mp hb with z | z
    · exact .inr (Nat.le_of_eq z.symm)
    · exact .inl (List.mem_singleton.mp z)
  by_cases hbt : w.params.followText "set-order" = true
  · rw [hbt]
    refine wpAny_bind (wpAny_pure ?_)
    refine same ho ⟨_, rfl, "set_iterator", _, ⟨_, Heap.get?_push_size _ rfl, rfl⟩, Fs.sl_next.lookup, ?_⟩
    refine fin s.heap.objs.size _ s.drawn [s.heap.objs.size, a] (fun i h => h.get? s.heap.objs.size = some (sit (.int 0 0) i a es.size ep) ∧ h.get? a = some o) ((pickOrder (w.params.setOrder a ep) es).toList.map (·.2)) (up _) (Nat.le_refl _) own (fun B hB => ?_) ⟨Heap.get?_push_size _ rfl, up _ _ _ ho⟩ (lay (pick_perm _ _))
    have := walk_text (prog := prog) (A := B) (I := s.heap.objs.size) (a := a) hB (Nat.ne_of_gt hlt) hd hf hbt
    rw [List.length_map, Array.length_toList]
    exact this
  · have hbf : w.params.followText "set-order" = false := by simpa using hbt
    rw [hbf]
    dsimp only
    refine wpAny_ite_split (fun hab => ?_) (fun hab => wpAny_bind (wpAny_pure ?_))
    · refine wpAny_bind (draw_q es.size (List.range es.size) s _ List.length_range fun ps d hp => ?_)
      have hps : ∀ p ∈ ps, p < es.size := fun p z => List.mem_range.mp (hp.mem_iff.mp z)
      have hpl : ps.length = es.size := by rw [hp.length_eq, List.length_range]
      refine wpAny_bind (wpAny_newTuple ?_ (by rw [List.length_map, hpl, sizeLine_eq]; unfold scanBound at hb; omega))
      refine same (s1 := { s with heap := s.heap.push _, drawn := d }) (up _ _ _ ho) ⟨_, rfl, "set_iterator", _, ⟨_, Heap.get?_push_size _ rfl, rfl⟩, Fs.sl_next.lookup, ?_⟩
      generalize hoT : ({ cls := .type "tuple", data := .seq (ps.map fun (i : Nat) => rawInt i).toArray } : Obj) = oT
      have hTd : oT.data = .seq (ps.map fun (i : Nat) => rawInt i).toArray 0 := by rw [← hoT]
      have eI : (s.heap.push oT).objs.size = s.heap.objs.size + 1 := Heap.size_push ..
      have hIT : (s.heap.push oT).objs.size ≠ s.heap.objs.size := by rw [eI]; exact Nat.succ_ne_self _
      have hIa : (s.heap.push oT).objs.size ≠ a := by rw [eI]; exact Nat.ne_of_gt (Nat.lt_succ_of_lt hlt)
      refine fin (s.heap.push oT).objs.size _ d [(s.heap.push oT).objs.size, a, s.heap.objs.size] (fun i h => h.get? (s.heap.push oT).objs.size = some (sit (.ref s.heap.objs.size) i a es.size ep) ∧ h.get? a = some o ∧ h.get? s.heap.objs.size = some oT) (ps.map fun p => (es.getD p (0, .none)).2) (fun b o' e => Heap.get?_push_of_some _ (up _ b o' e)) (by rw [eI]; exact Nat.le_succ _) (fun b z => ?_) (fun B hB => ?_) ⟨Heap.get?_push_size _ rfl, Heap.get?_push_of_some _ (up _ _ _ ho), Heap.get?_push_of_some _ (Heap.get?_push_size _ (by rw [← hoT]; rfl))⟩ ?_
      · have : b = (s.heap.push oT).objs.size ∨ b = a ∨ b = s.heap.objs.size := by simpa using z
        rcases this with z | z | z
        · exact .inr (by rw [z, eI]; exact Nat.le_succ _)
        · exact .inl z
        · exact .inr (Nat.le_of_eq z.symm)
      · rw [List.length_map]
        exact walk_drawn (prog := prog) (A := B) (a := a) hB hIa hIT hTd hps hd hf
      · have := lay (M := ps.map fun p => es.getD p (0, .none)) ((hp.map _).trans (by rw [range_all]))
        rw [List.map_map] at this
        exact this
    · refine same ho ⟨_, rfl, "set_iterator", _, ⟨_, Heap.get?_push_size _ rfl, rfl⟩, Fs.sl_next.lookup, ?_⟩
      have hpl : (!t.plain && decide (es.size > 1)) = false := by
        have : ¬ ((!t.plain && decide (es.size > 1)) = true) := fun z => hab (by show (!false && (!t.plain && decide (es.size > 1))) = true; rw [z]; rfl)
        simpa using this
      have hris : Ris t.place := by
        cases ht : t.plain with
        | true => exact hT.2 ht
        | false =>
          rw [ht] at hpl
          have := fits_size hf
          exact few_ris (by simp at hpl; omega)
      have hled : t.led = true := by rw [hT.1, hbf]; rfl
      refine fin s.heap.objs.size _ s.drawn [s.heap.objs.size, a] (fun i h => h.get? s.heap.objs.size = some (sit (.int (slotAt t i) 0) i a es.size ep) ∧ h.get? a = some o) (es.toList.map (·.2)) (up _) (Nat.le_refl _) own (fun B hB => ?_) ⟨Heap.get?_push_size _ rfl, up _ _ _ ho⟩ (lay (.refl _))
      have := walk_place (prog := prog) (A := B) (I := s.heap.objs.size) (a := a) hB (Nat.ne_of_gt hlt) hd hf hbf hled hpl hris
      rw [List.length_map, Array.length_toList]
      exact this
end
end L2
namespace L2
open PySem PySem.Spec PyProof.Rows
section
variable {prog : Program} {w : World} {B : Around} {Fx : Value → Shared → Prop} {t : Shared} {src : Addr}
theorem hint_q {Q : Bool → Shared → Prop} (hT : t.TypeIs (.ref src) "set") (h : Q false t) : wpAny (model prog w) B (Builtin.List.listLengthHint (.ref src)) Q Fx t := by
  unfold Builtin.List.listLengthHint
  refine wpAny_bind (wpAny_specialOf hT PySem.F.slot_set_len.lookup ?_)
  generalize hid : ("set.__len__" : String) = id0
  wp_delta
  rw [show splitId id0 = some ("set", "__len__") from by subst hid; decide +kernel]
  subst hid
  refine wpAny_bind (wpAny_isInstance (T := "set") (b := true) hT (by rw [isSubtype_type]; kernel_rfl) (wpAny_ite_split (fun z => absurd z (by decide)) fun _ => wpAny_ite_split (fun _ => wpAny_bind (wpAny_typeOf hT (wpAny_pure h))) fun z => absurd (by decide +kernel) z))
/-- all that a set holds, gathered -/
theorem gathered_q {ks : List Int} {R : List Value → Shared → Prop} (hB : B.handled = none) (hS : SetQ prog w t.heap src ks) (few : ks.length ≤ sizeLine)
    (go : ∀ (g : Heap) (d : Drawn) (k : Nat) (us : List Value) (ms : List Int), t.heap.objs.size ≤ g.objs.size → (∀ b o, t.heap.get? b = some o → g.get? b = some o) → IntsAre us ms → ms.Perm ks → R us { t with heap := g, drawn := d, toks := k }) :
    wpAny (model prog w) B (collect (.ref src)) R Fx t := by
  have slt : src < t.heap.objs.size := by obtain ⟨_, _, _, _, _, e, _⟩ := hS; exact Heap.lt_size e
  unfold collect
  refine wpAny_bind (wpAny_runValue (codeAny_builtin entry_proto_collect' ?_))
  rw [Around.under_plainId PySem.F.plain_proto_collect _]
  show wpAny _ B.in1 (newList [] >>= fun q => again (.builtin "list.__iadd__" ⟨[q, .ref src], []⟩)) _ _ t
  refine wpAny_bind (wpAny_newObj_type (wpAny_pure ⟨plainId_quiet PySem.F.plain_list_iadd _, codeAny_builtin entry_list_iadd' ?_⟩))
  rw [Around.under_plainId PySem.F.plain_list_iadd _]
  generalize hJ : t.heap.push { cls := .type "list", data := .seq ([] : List Value).toArray } = J
  have at0 : J.get? t.heap.objs.size = some { cls := .type "list", data := .seq #[] } := hJ ▸ Heap.get?_push_size _ rfl
  have old : ∀ b o, t.heap.get? b = some o → J.get? b = some o := fun b o e => hJ ▸ Heap.get?_push_of_some _ e
  have Jn : J.objs.size = t.heap.objs.size + 1 := by rw [← hJ, Heap.size_push]
  have hSJ : SetQ prog w J src ks := hS.keeps fun o e => old _ o e
  show wpAny _ B.in1 (Builtin.List.listExtendWith (.ref t.heap.objs.size) (.ref src) (.ref t.heap.objs.size)) _ _ { t with heap := J }
  unfold Builtin.List.listExtendWith
  have hT : Shared.TypeIs { t with heap := J } (.ref src) "set" := by obtain ⟨o, _, _, _, _, e, x, _⟩ := hSJ; exact ⟨o, e, x.1⟩
  refine wpAny_bind (wpAny_typeOf (T := "set") hT ?_)
  have n0 : Builtin.List.listSameRef (.ref t.heap.objs.size) (.ref src) = false := by simp [Builtin.List.listSameRef, Nat.ne_of_gt slt]
  have n1 : (Value.type "set" == Value.type "list") = false := by decide
  have n2 : (Value.type "set" == Value.type "tuple") = false := by decide
  simp only [n0, n1, n2, Bool.or_false, Bool.false_eq_true, if_false]
  refine wpAny_bind (iter_q (s := { t with heap := J }) hSJ fun I g d fp St xs kp hI hfp W st hms => ?_)
  have xl : xs.length = ks.length := by
    obtain ⟨ms, p, q⟩ := hms
    rw [q.length, p.length_eq]
  have atg : g.get? t.heap.objs.size = some { cls := .type "list", data := .seq #[] } := kp _ _ at0
  have hTg : Shared.TypeIs { t with heap := g, drawn := d } (.ref src) "set" := by obtain ⟨o, e, x⟩ := hT; exact ⟨o, kp _ _ e, x⟩
  have hSf : t.heap.objs.size ∉ fp := fun z => by
    rcases hfp _ z with y | y
    · exact absurd y (Nat.ne_of_gt slt)
    · have y' : J.objs.size ≤ t.heap.objs.size := y
      rw [Jn] at y'
      exact absurd y' (Nat.not_succ_le_self _)
  have back : ∀ {h0 : Heap} {s1 : Shared} {acc : Array Value} {c : Nat} {G : Array GenState → Array GenState → Prop}, (∀ b o, b ≠ t.heap.objs.size → g.get? b = some o → h0.get? b = some o) → Moved (t.heap.objs.size :: [I]) G { t with heap := h0, drawn := d } s1 → s1.gens = t.gens → s1.heap.get? t.heap.objs.size = some { cls := .type "list", dict := none, data := .seq acc c, slots := #[] } → ItemsOf (fun i v => xs[i]? = some v) acc xs.length → R acc.toList s1 := fun {h0 s1 acc c G} k0 hm hg h1 h2 => by
    have ea : acc.toList = xs := by
      apply List.ext_getElem?
      intro i
      cases e : acc.toList[i]? with
      | none =>
        have := List.getElem?_eq_none_iff.mp e
        rw [Array.length_toList, h2.1] at this
        rw [List.getElem?_eq_none this]
      | some v => exact (h2.2 i v (by rw [← Array.getElem?_toList]; exact e)).symm
    obtain ⟨h', g', d', tk', os'⟩ := s1
    obtain rfl : g' = t.gens := hg
    obtain rfl : d' = d := hm.drawn
    obtain rfl : os' = t.os := hm.os
    obtain ⟨ms, p1, p2⟩ := hms
    rw [ea]
    refine go h' d' tk' xs ms (Nat.le_of_lt (Heap.lt_size h1)) (fun b o e => hm.heap b o (fun z => ?_) (k0 b o (Nat.ne_of_lt (Heap.lt_size e)) (kp b o (old b o e)))) p2 p1
    have lt := Heap.lt_size e
    rcases List.mem_cons.mp z with z | z
    · exact absurd z (Nat.ne_of_lt lt)
    · have z' := List.mem_singleton.mp z
      have hI' : J.objs.size ≤ I := hI
      rw [Jn] at hI'
      exact absurd z' (Nat.ne_of_lt (Nat.lt_of_lt_of_le lt (Nat.le_of_succ_le hI')))
  have WW := (W B.in1 (by rw [Around.in1_handled]; exact hB))
  refine wpAny_bind (wpAny_holding (hint_q hTg ?_))
  refine wpAny_ite_split (fun _ => ?_) (fun _ => wpAny_pure ⟨plainId_quiet PySem.F.plain_extend_loop _, ?_⟩)
  · refine wpAny_bind (wpAny_rule (wpAny_bind ?_))
    show wpAny _ _ (updateSeq t.heap.objs.size (·.push .none) >>= fun _ => updateSeq t.heap.objs.size (·.pop)) _ _ _
    refine wpAny_bind (wpAny_updateSeq atg rfl ?_)
    have at2 := Heap.get?_update_self (Obj.mapSeq (·.push Value.none)) atg rfl
    refine wpAny_updateSeq (hz := by seq_fits) at2 rfl (wpAny_pure ⟨plainId_quiet PySem.F.plain_extend_loop _, ?_⟩)
    have at3 := Heap.get?_update_self (Obj.mapSeq (·.pop)) at2 rfl
    refine codeAny_extend_loopS WW.toS (by rw [xl]; exact few) t.heap.objs.size hSf (.ref t.heap.objs.size) xs.length 0 _ #[] _ rfl (Nat.zero_le _) (WW.frame 0 _ _ st fun b hb o e => ?_) at3 (ItemsOf.nil _) fun s1 acc c hm h1 h2 => ?_
    · have nb : b ≠ t.heap.objs.size := fun z => hSf (z ▸ hb)
      exact (Heap.get?_update_other _ _ (Ne.symm nb)).trans ((Heap.get?_update_other _ _ (Ne.symm nb)).trans e)
    · exact wpAny_bind (wpAny_load h1 (wpAny_pure (back (fun b o nb e => (Heap.get?_update_other _ _ (Ne.symm nb)).trans ((Heap.get?_update_other _ _ (Ne.symm nb)).trans e)) hm hm.gens h1 h2)))
  · refine codeAny_extend_loopS WW.toS (by rw [xl]; exact few) t.heap.objs.size hSf (.ref t.heap.objs.size) xs.length 0 _ #[] _ rfl (Nat.zero_le _) st atg (ItemsOf.nil _) fun s1 acc c hm h1 h2 => ?_
    exact wpAny_bind (wpAny_load h1 (wpAny_pure (back (fun b o _ e => e) hm hm.gens h1 h2)))
end
end L2

namespace L2
open PySem PySem.Spec PyProof.Rows
/-! ### sorted(set(xs)) of numbers -/
def setqO (P : Program) (w : World) (a : Addr) (ks : List Int) : HO := .ext fun h => SetQ P w h a ks
section
variable {X : Cx}
theorem laidD {pins : List (Addr × Obj)} {σ : St} {H : Hp} {s : Shared} {h' : Heap} {a : Addr} {o : HO} {t' : Nat} {d' : Drawn} (I : Inv X pins σ H s) (k : ∀ b u, s.heap.get? b = some u → h'.get? b = some u) (hp : s.heap.objs.size ≤ a) (new : ObjOk X.prog X.w (upd H a o) h' a o) :
    Inv X pins σ (upd H a o) { s with heap := h', drawn := d', toks := t' } :=
  I.call (g' := s.gens) (ch := []) (Un.laid k hp (I.hok.fresh hp)) (I.hok.laid k hp new) I.bare (fun _ z => nomatch z)
theorem call_setQ (hc : X.calm = true) : CallR X (.type "set") (fun xs H Q => ∃ (p : Addr) (ns : List Int), xs = [.ref p] ∧ H p = some (.lst (ns.map V.int)) ∧ ns.length < 1000 ∧ ∀ l, H l = none → Q (.ref l) (upd H l (setqO X.prog X.w l (setOfI ns)))) := by
  intro pins s σ H xs us Q I r h
  obtain ⟨p, ns, rfl, hH, hl, q⟩ := h
  obtain ⟨u, rfl, rx⟩ := vals1 r
  cases rx
  obtain ⟨its, r', pl, hz⟩ := I.list (SqL.of (K := X.K) hH)
  have hlen : its.length = ns.length := by rw [← r'.length, List.length_map]
  refine call_set_q (items := its.toArray) (ns := ns) (I.ok.hd hc) pl.isList (by simpa using ints_are r') (by rw [List.size_toArray, hlen]; unfold scanBound; omega) fun h' tk hS hk => ?_
  have es : its.toArray.size = ns.length := by rw [List.size_toArray]; exact hlen
  rw [es] at hS
  refine ⟨.ref _, _, I.laid (t' := tk) (o := setqO X.prog X.w _ (setOfI ns)) (fun b ob q => hk b ob (Heap.lt_size q) q) (Nat.le_refl _) ?_, rfl, q _ (I.hok.fresh (Nat.le_refl _))⟩
  exact ⟨hS, (let ⟨o, _, _, _, _, ho, _⟩ := hS; ⟨o, ho⟩), fun h1 h2 x k => SetQ.keeps x k⟩
theorem call_sortedQ (hc : X.calm = true) : CallR X (.builtin "sorted") (fun xs H Q => ∃ (a : Addr) (ks : List Int), xs = [.ref a] ∧ H a = some (setqO X.prog X.w a ks) ∧ ks.length < 64 ∧ ∀ (l : Addr) (ms : List Int), ms.Perm ks → ms.Pairwise (· ≤ ·) → H l = none → Q (.ref l) (upd H l (.lst (ms.map V.int)))) := by
  intro pins s σ H xs us Q I r h
  obtain ⟨a, ks, rfl, ha, hl, q⟩ := h
  obtain ⟨u, rfl, ru⟩ := vals1 r
  cases ru
  obtain ⟨hS, _⟩ := (show ObjOk X.prog X.w H s.heap a (setqO X.prog X.w a ks) from I.hok a _ ha)
  refine Calls.call_function_entry kind_sorted plain_sorted entry_sorted (args_sorted1 _) ?_
  unfold Builtin.«sorted»
  refine wpAny_bind (m := checkCount "sorted" 1 1 _) (wpAny_pure ?_)
  refine wpAny_bind (gathered_q (I.ok.hd hc) hS (by rw [sizeLine_eq]; omega) fun g d tk us ms hle hkp hI hp => ?_)
  have hul : us.length = ks.length := by rw [hI.length, hp.length_eq]
  refine wpAny_bind (wpAny_newList ?_ (by rw [sizeLine_eq]; omega))
  have hoL : (g.push (seqObj "list" us.toArray 0)).get? g.objs.size = some (seqObj "list" us.toArray 0) := Heap.get?_push_size _ rfl
  show wpAny _ _ _ _ _ { s with heap := g.push (seqObj "list" us.toArray 0), drawn := d, toks := tk }
  refine wpAny_bind (wpAny_holding (wpAny_call_entry slot_list_sort ⟨_, hoL, rfl⟩ entry_list_sort (list_sort_tree hoL hI (by omega) fun out ns' a1 a2 a3 => ⟨_, rfl, ?_⟩) (args_list_sort _)))
  obtain ⟨e, he⟩ := sortedHeap_at (out := out) hoL
  have hn : ns'.length = ks.length := by rw [a2.length_eq, hp.length_eq]
  refine wpAny_pure ⟨_, rfl, .ref _, _, laidD (s := s) (t' := tk) (d' := d) (o := .lst (ns'.map V.int)) I (fun b ob qq => ?_) hle ?_, rfl, q _ ns' (a2.trans hp) a3 (I.hok.fresh hle)⟩
  · have hb := hkp b ob qq
    have hlt := Heap.lt_size hb
    rw [sortedHeap_old (Nat.ne_of_lt hlt) (by rw [size_push']; exact Nat.lt_succ_of_lt hlt), Heap.get?_push_ne _ _ _ (Nat.ne_of_lt hlt)]
    exact hb
  · exact ⟨by rw [List.length_map, sizeLine_eq]; omega, out.toList, e, are_ints a1, by rw [he, Array.toArray_toList]⟩
end
/-! what sorted(set(ns)) is -/
theorem setOfI_mem {ns : List Int} {k : Int} : k ∈ setOfI ns ↔ k ∈ ns := by
  have h1 := firstMet_any (fun i => ns.getD i 0) ns.length k
  have e : (List.range ns.length).map (fun i => ns.getD i 0) = ns := by
    apply List.ext_getElem?
    intro i
    rw [List.getElem?_map]
    by_cases h : i < ns.length
    · rw [List.getElem?_range h, List.getElem?_eq_getElem h]
      simp [List.getD_eq_getElem?_getD, h]
    · rw [List.getElem?_eq_none (by simpa using h), List.getElem?_eq_none (by omega)]
      rfl
  rw [e] at h1
  have f : ∀ l : List Int, l.any (· == k) = true ↔ k ∈ l := fun l => by
    rw [List.any_eq_true]
    exact ⟨fun ⟨x, hx, ex⟩ => by rw [← eq_of_beq ex]; exact hx, fun h => ⟨k, h, beq_self_eq_true k⟩⟩
  rw [← f, ← f]
  exact iff_of_eq (congrArg (· = true) h1)
theorem dedup_nd {σ : List Int} (v : Int) (h : σ.Nodup) : (step_dedup σ v).Nodup := by
  unfold step_dedup
  split
  · exact h
  · rename_i hn
    refine List.nodup_append.mpr ⟨h, by simp, fun x hx y hy => ?_⟩
    obtain rfl := List.mem_singleton.mp hy
    rintro rfl
    exact hn (List.any_eq_true.mpr ⟨x, hx, beq_self_eq_true x⟩)
theorem firstMet_nd (f : Nat → Int) : ∀ n, (firstMet f n).Nodup
  | 0 => by rw [firstMet_zero]; exact .nil
  | n + 1 => by rw [firstMet_succ]; exact dedup_nd _ (firstMet_nd f n)
theorem setOfI_nd (ns : List Int) : (setOfI ns).Nodup := firstMet_nd _ _
/-- what is told rises strictly, and holds what the row holds -/
theorem sorted_set {ns ms : List Int} (hp : ms.Perm (setOfI ns)) (hs : ms.Pairwise (· ≤ ·)) : ms.Pairwise (· < ·) ∧ ∀ k, k ∈ ms ↔ k ∈ ns := by
  refine ⟨?_, fun k => (hp.mem_iff).trans setOfI_mem⟩
  have nd : ms.Nodup := hp.nodup_iff.mpr (setOfI_nd ns)
  exact (List.Pairwise.and hs nd).imp fun ⟨a, b⟩ => by omega
theorem rise_one : ∀ {a b : List Int}, a.Pairwise (· < ·) → b.Pairwise (· < ·) → (∀ k, k ∈ a ↔ k ∈ b) → a = b
  | [], [], _, _, _ => rfl
  | [], y :: b, _, _, h => absurd ((h y).mpr List.mem_cons_self) List.not_mem_nil
  | x :: a, [], _, _, h => absurd ((h x).mp List.mem_cons_self) List.not_mem_nil
  | x :: a, y :: b, ha, hb, h => by
    obtain ⟨a1, a2⟩ := List.pairwise_cons.mp ha
    obtain ⟨b1, b2⟩ := List.pairwise_cons.mp hb
    have e : x = y := by
      rcases List.mem_cons.mp ((h x).mp List.mem_cons_self) with z | z
      · exact z
      · rcases List.mem_cons.mp ((h y).mpr List.mem_cons_self) with z2 | z2
        · exact z2.symm
        · have := b1 x z
          have := a1 y z2
          omega
    subst e
    congr 1
    refine rise_one a2 b2 fun k => ⟨fun hk => ?_, fun hk => ?_⟩
    · rcases List.mem_cons.mp ((h k).mp (List.mem_cons_of_mem _ hk)) with z | z
      · have := a1 k hk
        omega
      · exact z
    · rcases List.mem_cons.mp ((h k).mpr (List.mem_cons_of_mem _ hk)) with z | z
      · have := b1 k hk
        omega
      · exact z
/-- a row is what sorted(set(row)) tells exactly where it rises -/
theorem sorted_set_eq {ns ms : List Int} (hp : ms.Perm (setOfI ns)) (hs : ms.Pairwise (· ≤ ·)) : ms = ns ↔ ns.Pairwise (· < ·) := by
  obtain ⟨h1, h2⟩ := sorted_set hp hs
  exact ⟨fun e => e ▸ h1, fun h => rise_one h1 h h2⟩
end L2

namespace Mr
open PySem L2
/-! the row a b z a b z .. -/
def let3 (i : Nat) : Nat := if i % 3 = 0 then 97 else if i % 3 = 1 then 98 else 122
def abz (n : Nat) : List Nat := (List.range n).map let3
def abz3 : List (List Nat) := [[97], [98], [122]]
end Mr

namespace L2
open PySem PySem.Spec PyProof.Rows PySem.SeqAt PySem.MeetsSeq
section
variable {X : Cx}
/-! two tuples that are the same, n deep below them -/
def rTupD (n : Nat) (r : Bool) : R2 := fun x y H Q => ∃ p q xs ys, x = .ref p ∧ y = .ref q ∧ H p = some (.tup xs) ∧ H q = some (.tup ys) ∧ xs.length = ys.length ∧ (∀ (j : Nat) (u v : V), xs[j]? = some u → ys[j]? = some v → DSame H n u v) ∧ Q (.bl r) H
end
end L2
namespace Mr
open PySem L2
def stateV (l : List Nat) (pe : Addr) : List V := [.str (tx l), .int ((mirs l l.length).length : Nat), .ref pe, .int ((mirs l l.length).length : Nat), .int (deepN l : Nat)]
end Mr

namespace Mr
open PySem L2
/-! ### k52, k53: what the laws ask by themselves -/
def spLMore : Sp := fun vs H Q _ => ∃ l : List Nat, vs = [.str (tx l)] ∧ l.length ≤ 60 ∧ ∀ H', Same H H' → Q (.int ((mendL l l.length 0 : Nat) : Int)) H'
def spLLies : Sp := fun vs H Q _ => ∃ (l m ns : List Nat) (p : Addr), vs = [.str (tx l), .str (tx m), .ref p] ∧ l.length ≤ 60 ∧ m.length ≤ 120 ∧ H p = some (.lst (numsV ns)) ∧ ns.Pairwise (· < ·) ∧ ns.length = l.length ∧ (∀ j k : Nat, ns[j]? = some k → k < m.length ∧ m[k]? = l[j]?) ∧ ∀ H', Same H H' → Q (.bl true) H'
/-- a line: for each place j to n -/
def lineN (l o : List Nat) (i n : Nat) : List Nat := (List.range n).map fun j => lcsAt l o i j
end Mr
namespace Mr
open PySem L2
theorem call_setQ2 {X : Cx} (hc : X.calm = true) : CallR X (.type "set") (fun xs H Q => ∃ (p : Addr) (ns : List Int), xs = [.ref p] ∧ H p = some (.lst (ns.map V.int)) ∧ ns.length < 1000 ∧ ∀ (l : Addr) (H' : Hp), H l = none → H' l = some (setqO X.prog X.w l (setOfI ns)) → Same H H' → Q (.ref l) H') :=
  fun pins s σ H xs us Q I r h => call_setQ hc pins s σ H xs us Q I r (by
    obtain ⟨p, ns, e, hH, hl, q⟩ := h
    exact ⟨p, ns, e, hH, hl, fun l hl' => q l _ hl' upd_same (Same.upd hl')⟩)
end Mr

namespace Mr
open PySem L2
/-! ### what rest tells: its places rise, and its signs are a mirror -/
end Mr

namespace Mr
open PySem L2
/-! ### k53: rest, with its row and its places -/
def spRest2 : Sp := fun vs H Q _ => ∃ l : List Nat, vs = [.str (tx l)] ∧ rowL l = true ∧ l.length ≤ 60 ∧ ∀ (qs : List Nat) (p pl : Addr) (H' : Hp), qs.length = lpsN l → qs.Pairwise (· < ·) → (∀ k ∈ qs, k < l.length) → (qs.map fun k => l.getD k 0) = (qs.map fun k => l.getD k 0).reverse → qs = restN l → H p = none → H pl = none → H' p = some (.tup [.str (tx (qs.map fun k => l.getD k 0)), .ref pl]) → H' pl = some (.lst (numsV qs)) → Same H H' → Q (.ref p) H'
where
  restN (l : List Nat) : List Nat := (ownOf ((prs l l.length 0).filter bothP)).filterMap id
end Mr

namespace Mr
open PySem L2
/-! things beside a box: what is known of them doesn't hang on the box -/
def off (b : Addr) (H : Hp) : Hp := fun a => if a = b then none else H a
/-- may be shown -/
def Gd (H : Hp) (x : V) (n w : Nat) : Prop := ∃ d, RdW H x d ∧ Sh2 d n w
/-- what may stand in a list that is handed in -/
def El (K : PySem.W.Frag) (H : Hp) (y : V) : Prop := (Scal y ∨ NoInt K H y) ∧ Gd H y 2 700
def NoL (K : PySem.W.Frag) (H : Hp) (x : V) : Prop := ∃ t, TyOf K H x t ∧ PySem.W.kitOne K t (.type "list") = some false
/-- a list of such things, or none -/
def LstN (K : PySem.W.Frag) (H : Hp) (x : V) : Prop := (∃ p xs, x = .ref p ∧ H p = some (.lst xs) ∧ xs.length ≤ 400 ∧ ∀ y ∈ xs, El K H y) ∨ NoL K H x
def Th (K : PySem.W.Frag) (H : Hp) (x : V) : Prop := Gd H x 3 300000 ∧ LstN K H x
def spOdd16 (K : PySem.W.Frag) : Sp := fun vs H Q _ => ∃ (b : Addr) (n : Int), vs = [.ref b] ∧ H b = some (.lst [.int n]) ∧ ∀ (x : V) (n' : Int) (H' : Hp), El K (off b H') x → Th K (off b H') x → H' b = some (.lst [.int n']) → But b H H' → Q x H'
/-! the form of reaches -/
def fitsV (x : V) (m n : Int) : Bool := match x with
  | .int i => decide (i % 2 ≠ m % 2) && (decide (0 ≤ i) && (decide (i ≤ m + 1) && decide (i ≤ n - m)))
  | _ => false
def formV (xs : List V) : Bool := decide (xs.length ≤ 119) && (if xs.length % 2 = 0 then decide (xs.length = 0) else (List.range xs.length).all fun i => fitsV (xs.getD i .non) i xs.length)
def spFits (K : PySem.W.Frag) : Sp := fun vs H Q _ => ∃ (x : V) (m n : Int), vs = [x, .int m, .int n] ∧ (Scal x ∨ NoInt K H x) ∧ Q (.bl (fitsV x m n)) H
/-- what is asked of a list of things, b where it is none -/
def spOfList (K : PySem.W.Frag) (f : List V → Bool) : Sp := fun vs H Q _ => ∃ x : V, vs = [x] ∧ ((∃ p xs, x = .ref p ∧ H p = some (.lst xs) ∧ xs.length ≤ 400 ∧ (∀ y ∈ xs, Scal y ∨ NoInt K H y) ∧ ∀ H', Same H H' → Q (.bl (f xs)) H') ∨ (NoL K H x ∧ ∀ H', Same H H' → Q (.bl false) H'))
/-- numbers that a law makes: few and small -/
def Few (ns : List Int) (n : Nat) : Prop := ns.length ≤ n ∧ ∀ i ∈ ns, i.natAbs ≤ 100
def spLReach : Sp := fun vs H Q _ => ∃ l : List Nat, vs = [.str (tx l)] ∧ l.length ≤ 9 ∧ ∀ (p : Addr) (ns : List Int) (H' : Hp), H p = none → H' p = some (.lst (ns.map V.int)) → Few ns 20 → Same H H' → Q (.ref p) H'
def spDrawnF : Sp := fun vs H Q _ => ∃ (b : Addr) (n : Int) (s : Nat), vs = [.ref b, .int (s : Int)] ∧ H b = some (.lst [.int n]) ∧ s ≤ 10 ∧ ∀ (p : Addr) (ns : List Int) (n' : Int) (H' : Hp), H p = none → H' p = some (.lst (ns.map V.int)) → Few ns 20 → H' b = some (.lst [.int n']) → But b H H' → Q (.ref p) H'
def spTurn71 (K : PySem.W.Frag) : Sp := fun vs H Q _ => ∃ (b : Addr) (n : Int) (pt : Addr) (ns : List Int) (x : V), vs = [.ref b, .ref pt, x] ∧ H b = some (.lst [.int n]) ∧ H pt = some (.lst (ns.map V.int)) ∧ pt ≠ b ∧ Few ns 20 ∧ El K (off b H) x ∧
  ∀ (y : V) (n' : Int) (H' : Hp), Th K (off b H') y → H' b = some (.lst [.int n']) → But b H H' → Q y H'
end Mr

namespace L2
open PySem PySem.Spec PyProof.Rows
section
variable {X : Cx}
end
end L2

namespace Mr
open PySem L2
/-! bounds looked at: things of all kinds -/
def intV : V → Int
  | .int i => i
  | _ => 0
def areV (l : List Nat) (xs : List V) : Bool := decide (xs.length = l.length + 1) && (xs.all wholeV && areB l (xs.map intV))
/-- what is asked of a list of things and a row, no where it is none -/
def spOfRow (K : PySem.W.Frag) (f : List Nat → List V → Bool) : Sp := fun vs H Q _ => ∃ (x : V) (l : List Nat), vs = [x, .str (tx l)] ∧ rowL l = true ∧ ((∃ p xs, x = .ref p ∧ H p = some (.lst xs) ∧ xs.length ≤ 400 ∧ (∀ y ∈ xs, Scal y ∨ NoInt K H y) ∧ ∀ H', Same H H' → Q (.bl (f l xs)) H') ∨ (NoL K H x ∧ ∀ H', Same H H' → Q (.bl false) H'))
def spTurn44 (K : PySem.W.Frag) : Sp := fun vs H Q _ => ∃ (b : Addr) (n : Int) (pt : Addr) (ns : List Int) (x : V), vs = [.ref b, .ref pt, x] ∧ H b = some (.lst [.int n]) ∧ H pt = some (.lst (ns.map V.int)) ∧ pt ≠ b ∧ 1 ≤ ns.length ∧ Few ns 20 ∧ El K (off b H) x ∧
  ∀ (y : V) (n' : Int) (H' : Hp), Th K (off b H') y → H' b = some (.lst [.int n']) → But b H H' → Q y H'
def spRefB (K : PySem.W.Frag) : Sp := fun vs H Q _ => ∃ x : V, vs = [x] ∧ Thing K H x ∧ rowV x = false ∧ ∀ H', Same H H' → Q (.bl true) H'
def ThX (K : PySem.W.Frag) (H : Hp) (y : V) : Prop := Th K H y ∨ ∃ p, y = .ref p ∧ H p = some (.dK [])
end Mr

namespace Mr
open PySem L2
/-! ### k51: lies_in of whatever -/
def LiesV (l m : List Nat) (xs : List V) : Prop := ∃ ns : List Int, xs = ns.map V.int ∧ ns.length = l.length ∧ (∀ i ∈ ns, 0 ≤ i ∧ i < ((m.length : Nat) : Int)) ∧ ns.Pairwise (· < ·) ∧ ∀ (j : Nat) (i : Int), ns[j]? = some i → m[i.toNat]? = l[j]?
def RiseV (n : Nat) (xs : List V) : Prop := ∃ ns : List Int, xs = ns.map V.int ∧ (∀ i ∈ ns, 0 ≤ i ∧ i < (n : Int)) ∧ ns.Pairwise (· < ·)
/-- what is asked of whatever: the truth where it is a list of things, no where it is none -/
def askL (K : PySem.W.Frag) (H : Hp) (Q : V → Hp → Prop) (x : V) (C : List V → Prop) : Prop := (∃ p xs, x = .ref p ∧ H p = some (.lst xs) ∧ xs.length ≤ 400 ∧ (∀ y ∈ xs, Scal y ∨ NoInt K H y) ∧ ∀ (r : Bool) (H' : Hp), (r = true ↔ C xs) → Same H H' → Q (.bl r) H') ∨ (NoL K H x ∧ ∀ H', Same H H' → Q (.bl false) H')
def spRiseG (K : PySem.W.Frag) : Sp := fun vs H Q _ => ∃ (x : V) (n : Nat), vs = [x, .int (n : Int)] ∧ askL K H Q x (RiseV n)
def spLiesG (K : PySem.W.Frag) : Sp := fun vs H Q _ => ∃ (l m : List Nat) (x : V), vs = [.str (tx l), .str (tx m), x] ∧ rowL l = true ∧ l.length ≤ 60 ∧ rowL m = true ∧ m.length ≤ 120 ∧ askL K H Q x (LiesV l m)
def spLLiesG (K : PySem.W.Frag) : Sp := fun vs H Q _ => ∃ (l m : List Nat) (x : V), vs = [.str (tx l), .str (tx m), x] ∧ l.length ≤ 60 ∧ m.length ≤ 120 ∧ askL K H Q x (LiesV l m)
def inV (n : Nat) : V → Bool
  | .int i => decide (0 ≤ i) && decide (i < (n : Int))
  | _ => false
/-- the signs at the places -/
def atT (m : List Nat) (ns : List Int) : List Nat := ns.map fun i => m.getD i.toNat 0
def spTurn51 (K : PySem.W.Frag) : Sp := fun vs H Q _ => ∃ (b : Addr) (n : Int) (pt : Addr) (ns : List Int) (z : Nat), vs = [.ref b, .ref pt, .int (z : Int)] ∧ H b = some (.lst [.int n]) ∧ H pt = some (.lst (ns.map V.int)) ∧ pt ≠ b ∧ Few ns 20 ∧ z ≤ 100 ∧
  ∀ (y : V) (n' : Int) (H' : Hp), Th K (off b H') y → H' b = some (.lst [.int n']) → But b H H' → Q y H'
end Mr

namespace Mr
open PySem L2
/-! ### k11: what are no lengths -/
def FallV (xs : List V) : Prop := ∃ ls : List Int, xs = ls.map V.int ∧ Fall ls
def spLAre11 (K : PySem.W.Frag) : Sp := fun vs H Q _ => ∃ x : V, vs = [x] ∧ ((∃ p xs, x = .ref p ∧ H p = some (.lst xs) ∧ xs.length ≤ 60 ∧ (∀ y ∈ xs, Scal y ∨ NoInt K H y) ∧ ∀ (r : Bool) (H' : Hp), (r = true ↔ FallV xs) → Same H H' → Q (.bl r) H') ∨ (NoL K H x ∧ ∀ H', Same H H' → Q (.bl false) H'))
def spTold11 (K : PySem.W.Frag) : Sp := fun vs H Q _ => ∃ x : V, vs = [x] ∧ ((∃ p xs, x = .ref p ∧ H p = some (.lst xs) ∧ xs.length ≤ 60 ∧ (∀ y ∈ xs, Scal y ∨ NoInt K H y) ∧ (FallV xs → ∀ H', Same H H' → Q (.str "told") H') ∧ (¬ FallV xs → ∀ H', Same H H' → Q (.str "lengths") H')) ∨ (NoL K H x ∧ ∀ H', Same H H' → Q (.str "lengths") H'))
def spBent11 : Sp := fun vs H Q _ => ∃ (b pd : Addr) (n : Int) (ks : List Nat) (x : V), vs = [.ref b, .ref pd, x] ∧ H b = some (.lst [.int n]) ∧ 0 ≤ n ∧ b ≠ pd ∧ H pd = some (.lst (lensV ks)) ∧ ks.length ≤ 29 ∧ (∀ k ∈ ks, k < 100) ∧ Odd H x ∧
  ∀ (y : V) (n' : Int) (H' : Hp), Thg b H' y → 0 ≤ n' → H' b = some (.lst [.int n']) → But b H H' → Q y H'
end Mr

namespace L2
open PySem PySem.W PySem.Spec PyProof.Rows
/-! ### text.replace(c, d) with written signs: their tokens differ and are not nought, where some token was drawn ahead -/
section
variable {X : Cx}
/-- as PE; at the end some token was drawn -/
def PEt (X : Cx) (e : Expr) (t : TE) : Prop :=
  ∀ (pins : List (Addr × Obj)) (s : Shared) (σ : St) (H : Hp) (Q : VK), Inv X pins σ H s → t σ H Q → wpAny (model X.prog X.w) X.A (eval e X.env) (fun u s' => 1 ≤ s'.toks ∧ EP X pins σ Q u s') X.xe s
def PAt (X : Cx) (es : List Expr) (t : TA) : Prop :=
  ∀ (pos : Pos) (pins : List (Addr × Obj)) (s : Shared) (σ : St) (H : Hp) (Q : List V → Hp → Prop), Inv X pins σ H s → t σ H Q → wpAny (model X.prog X.w) X.A (spliced (backTo pos (starEach es X.env))) (fun us s' => 1 ≤ s'.toks ∧ AP X pins σ Q us s') X.xe s
theorem PEt.pe {e : Expr} {t : TE} (h : PEt X e t) : PE X e t := fun pins s σ H Q I q => wpAny_mono (h pins s σ H Q I q) (fun _ _ z => z.2) fun _ _ z => z
theorem pat_int {es : List Expr} {t : TA} {i j p} (h : PA X es t) : PAt X (.Constant (.int i) j p :: es) (tCons (tC (.int i)) t) := by
  intro pos pins s σ H Q I q
  show wpAny _ _ (spliced ((false, eval (.Constant (.int i) j p) X.env) :: backTo pos (starEach es X.env))) _ _ s
  refine Calls.spliced_cons (wpAny_Constant_int ?_)
  refine wpAny_mono (wpAny_toks_of (n := 1) (Nat.succ_le_succ (Nat.zero_le _)) (h pos pins _ σ H _ (I.tok _) q)) (fun us s2 ⟨h1, xs, H2, I2, r2, q2⟩ => ⟨h1, .int i :: xs, H2, I2, .cons ⟨_, rfl⟩ r2, q2⟩) fun _ _ z => z.2
theorem pat_cons {e : Expr} {es : List Expr} {te : TE} {t : TA} (ha : PE X e te) (hr : PAt X es t) (hs : starEach (e :: es) X.env = (false, eval e X.env) :: starEach es X.env := by rfl) : PAt X (e :: es) (tCons te t) := by
  intro pos pins s σ H Q I h
  rw [hs]
  show wpAny _ _ (spliced ((false, eval e X.env) :: backTo pos (starEach es X.env))) _ _ s
  refine Calls.spliced_cons (thn (ha pins s σ H _ I h) fun u s1 ⟨x, H1, I1, r1, q1⟩ => ?_)
  exact thn (hr pos pins s1 σ H1 _ I1 q1) fun us s2 ⟨h1, xs, H2, I2, r2, q2⟩ => ⟨h1, x :: xs, H2, I2, .cons r1 r2, q2⟩
theorem pe_dfT {k : Nat} {x : Str} {ps : List Str} {sp : Sp} {e : Expr} {es : List Expr} {p pos : Pos} {t : TA} {j : Nat} (d : Df X.prog X.w X.K X.mg X.base j x ps sp) (hr : Room k X.A) (hg : Gl X x) (ha : PAt X (e :: es) t) (hjk : j ≤ k := by decide) (hdb : (x == ("__debug__" : Str)) = false := by decide) (he : starEach (e :: es) X.env = (false, eval e X.env) :: starEach es X.env := by rfl)
    (hpl : (backTo pos (starEach es X.env)).any (·.1) = false := by rfl) : PEt X (.Call (.Name x p) (e :: es) [] pos) (tCall sp [] E0 t) := by
  obtain ⟨f, fd, F, hm, hk, hb⟩ := d.ex
  intro pins s σ H Q I h
  refine wpAny_Call_Name_kw (ld_glob I hg hm ?_ hdb)
  refine PySem.W.callWith_K (h₀ := X.base) I.ok.mod.kin hk (thn (ha pos pins s σ H _ I h) fun us s1 ⟨h1, vs, H1, I1, r, q⟩ => ⟨I1.kIn, ?_⟩) he hpl
  exact wpAny_mono (wpAny_toks_of h1 (run_fn (F.mono hjk) hr hb .nil pass0 I1 r q)) (fun _ _ z => z) fun _ _ z => z.2
def subL (c d : Nat) (l : List Nat) : List Nat := l.map fun x => if x = c then d else x
theorem sub_free (c d : Nat) : ∀ l : List Nat, c ∉ l → subL c d l = l
  | [], _ => rfl
  | k :: r, h => by
    have h1 : ¬ k = c := fun e => h (e ▸ List.mem_cons_self ..)
    have h2 : c ∉ r := fun m => h (List.mem_cons_of_mem _ m)
    have ih := sub_free c d r h2
    unfold subL at ih ⊢
    rw [List.map_cons, if_neg h1, ih]
theorem sub_join (c d : Nat) : ∀ parts : List Str, (∀ p ∈ parts, c ∉ p.cps.toList) → subL c d (Str.join ⟨#[c]⟩ parts).cps.toList = (Str.join ⟨#[d]⟩ parts).cps.toList
  | [], _ => rfl
  | [p], h => sub_free c d _ (h p (List.mem_singleton.mpr rfl))
  | p :: q :: r, h => by
    have ih := sub_join c d (q :: r) fun a ha => h a (List.mem_cons_of_mem _ ha)
    show subL c d (p ++ ⟨#[c]⟩ ++ Str.join ⟨#[c]⟩ (q :: r)).cps.toList = (p ++ ⟨#[d]⟩ ++ Str.join ⟨#[d]⟩ (q :: r)).cps.toList
    simp only [Str.cps_append, Array.toList_append]
    have f := sub_free c d _ (h p (List.mem_cons_self ..))
    unfold subL at ih f ⊢
    rw [List.map_append, List.map_append, ih, f]
    show p.cps.toList ++ [if c = c then d else c] ++ _ = _
    rw [if_pos rfl]
theorem replace_sub (l : List Nat) (c d : Nat) : Txt.replace (tx l) (tx [c]) (tx [d]) = tx (subL c d l) := by
  have h : (Txt.replace (tx l) ⟨#[c]⟩ ⟨#[d]⟩).cps.toList = subL c d l := by
    rw [StrLaws.replace_one, ← sub_join c d _ (StrLaws.split_free (tx l) c), StrLaws.join_split]
  show Txt.replace (tx l) ⟨#[c]⟩ ⟨#[d]⟩ = tx (subL c d l)
  rw [← h]
def tRep (to : TE) (y z : Str) : TE := fun σ H Q => to σ H fun x H1 => ∃ (l : List Nat) (c d : Nat), x = .str (tx l) ∧ y = tx [c] ∧ z = tx [d] ∧ c ≠ d ∧ l.length ≤ 1000 ∧ Q (.str (tx (subL c d l))) H1
theorem pe_repT {o : Expr} {to : TE} {y z : Str} {j1 j2 : Nat} {p1 p2 apos cpos : Pos} (ho : PEt X o to)
    (hbase : attributeBase o "replace" X.env (eval o X.env) = eval o X.env := by rfl)
    (hline : (apos.endLine == cpos.line) = true := by rfl)
    (htrees : backTo cpos (starEach [.Constant (.str y) j1 p1, .Constant (.str z) j2 p2] X.env) = [(false, eval (.Constant (.str y) j1 p1) X.env), (false, eval (.Constant (.str z) j2 p2) X.env)] := by rfl) :
    PEt X (.Call (.Attribute o "replace" apos) [.Constant (.str y) j1 p1, .Constant (.str z) j2 p2] [] cpos) (tRep to y z) := by
  intro pins s σ H Q I h
  refine wpAny_Call_method2_late hbase hline htrees (wpAny_mono (ho pins s σ H _ I h) (fun v s1 ⟨ht, x, H1, I1, r1, l, c, d, e1, e2, e3, hcd, hl, q1⟩ => ?_) fun _ _ z => z)
  subst e1 e2 e3
  obtain ⟨h1, h2⟩ := tyV_is (T := "str") I1 r1 rfl
  refine ⟨"str", "str.replace", PySem.F.plainAttrs_str, PySem.F.slot_str_replace, PySem.F.type_str_replace, h1, h2, ?_⟩
  refine Calls.callWith_builtin rfl (Calls.evalArgs_plain ?_)
  refine Calls.spliced_cons (Calls.Constant_str (Calls.spliced_cons (Calls.Constant_str (Calls.spliced_nil ?_))))
  obtain ⟨t, rfl⟩ := r1
  refine wpAny_with_toks (n := 1) (Nat.le_trans ht (Nat.le_trans (Nat.le_succ _) (Nat.le_succ _))) ?_
  refine SC.replaceW (Nat.ne_of_gt ht) (Nat.succ_ne_zero _) (Nat.ne_of_lt (Nat.lt_succ_self _)) ?_ (by show l.toArray.size ≤ _; rw [List.size_toArray]; omega) (by show 1 ≤ 14; decide) fun t' k hk => ?_
  · apply Bool.eq_false_iff.mpr
    intro hh
    have e := tx_inj (eq_of_beq hh)
    injection e with e1
    exact hcd e1
  · rw [replace_sub]
    exact ⟨hk, .str _, H1, I1.tok _, ⟨t', rfl⟩, q1⟩
end
end L2

namespace Mr
open PySem L2
/-! ### k48: ways by even mirrors -/
inductive EPath (l : List Nat) : Nat → Nat → Nat → Prop
  | nil (a : Nat) : EPath l a a 0
  | step {a f b n : Nat} : EPath l a f n → f < b → b ≤ l.length → PalI l f b → (b - f) % 2 = 0 → EPath l a b (n + 1)
theorem EPath.path {l : List Nat} {a b n : Nat} (h : EPath l a b n) : Path l a b n := by
  induction h with
  | nil => exact .nil _
  | step _ h3 h4 h5 _ ih => exact .step ih h3 h4 h5
theorem EPath.one {l : List Nat} {a b : Nat} (h : a < b) (hb : b ≤ l.length) (hp : PalI l a b) (he : (b - a) % 2 = 0) : EPath l a b 1 := .step (.nil a) h hb hp he
theorem EPath.app {l : List Nat} {a b c n m : Nat} (h1 : EPath l a b n) (h2 : EPath l b c m) : EPath l a c (n + m) := by
  induction h2 with
  | nil => exact h1
  | step _ h3 h4 h5 h6 ih => exact .step ih h3 h4 h5 h6
theorem EPath.even {l : List Nat} {a b n : Nat} (h : EPath l a b n) : (b - a) % 2 = 0 := by
  induction h with
  | nil => rw [Nat.sub_self]
  | @step f b n h1 h3 h4 h5 h6 ih =>
    have := h1.path.le
    omega
theorem EPath.rev {l : List Nat} {a b n : Nat} (h : EPath l a b n) (hb : b ≤ l.length) : EPath l.reverse (l.length - b) (l.length - a) n := by
  induction h with
  | nil => exact .nil _
  | @step f b n h1 h3 h4 h5 h6 ih =>
    have hl : l.reverse.length = l.length := List.length_reverse
    have := EPath.app (EPath.one (l := l.reverse) (a := l.length - b) (b := l.length - f) (by omega) (by omega) (pal_rev h4 h5) (by omega)) (ih (by omega))
    rw [Nat.add_comm] at this
    exact this
theorem EPath.left {l m : List Nat} {a b n : Nat} (h : EPath l a b n) : EPath (l ++ m) a b n := by
  induction h with
  | nil => exact .nil _
  | @step f b n h1 h3 h4 h5 h6 ih =>
    refine .step ih h3 (by rw [List.length_append]; omega) (fun i h6 h7 => ?_) h6
    rw [List.getElem?_append_left (by omega), List.getElem?_append_left (by omega)]
    exact h5 i h6 h7
theorem EPath.right {l m : List Nat} {a b n : Nat} (h : EPath m a b n) : EPath (l ++ m) (l.length + a) (l.length + b) n := by
  induction h with
  | nil => exact .nil _
  | @step f b n h1 h3 h4 h5 h6 ih =>
    refine .step ih (by omega) (by rw [List.length_append]; omega) (fun i h6 h7 => ?_) (by omega)
    rw [List.getElem?_append_right (by omega), List.getElem?_append_right (by omega)]
    have := h5 (i - l.length) (by omega) (by omega)
    rw [this]
    congr 1
    omega
theorem ev_mem {l : List Nat} {b k : Nat} (hb : b ≤ l.length) : k ∈ lenOf (evAt l) b ↔ (1 ≤ k ∧ k ≤ b ∧ PalI l (b - k) b) ∧ k % 2 = 0 := by
  rw [evOf hb]
  unfold evF
  rw [List.mem_filter, ends_mem hb, decide_eq_true_iff]
theorem ev_path (l : List Nat) : ∀ b, b ≤ l.length → ∀ n, evN l b = some n → EPath l 0 b n := fun b => by
  induction b using Nat.strongRecOn with
  | _ b ih =>
    intro hb n hn
    by_cases e : b = 0
    · subst e
      have : some 0 = some n := (few_zero _).symm.trans hn
      obtain rfl := Option.some.inj this
      exact .nil 0
    · obtain ⟨k, j, hk, hj, rfl, _⟩ := (few_iff (fits_ev l) (by omega)).mp hn
      obtain ⟨⟨h1, h2, h3⟩, h4⟩ := (ev_mem hb).mp hk
      exact .step (ih (b - k) (by omega) (by omega) j hj) (by omega) hb h3 (by omega)
theorem path_ev {l : List Nat} {b n : Nat} (h : EPath l 0 b n) : ∃ m, evN l b = some m ∧ m ≤ n := by
  induction h with
  | nil => exact ⟨0, few_zero _, Nat.le_refl _⟩
  | @step f b n h1 h3 h4 h5 h6 ih =>
    obtain ⟨m, hm, hmn⟩ := ih
    have hk : b - f ∈ lenOf (evAt l) b := (ev_mem h4).mpr ⟨⟨by omega, by omega, by rw [show b - (b - f) = f by omega]; exact h5⟩, h6⟩
    have hm' : few (lenOf (evAt l)) (b - (b - f)) = some m := by rw [show b - (b - f) = f by omega]; exact hm
    cases e : evN l b with
    | none =>
      have := (few_none (fits_ev l) (by omega)).mp e _ hk
      rw [hm'] at this
      cases this
    | some q =>
      obtain ⟨k, j, _, _, rfl, hj⟩ := (few_iff (fits_ev l) (by omega)).mp e
      have := hj _ _ hk hm'
      exact ⟨j + 1, rfl, by omega⟩
theorem ev_le {l m : List Nat} {b c : Nat} (h : ∀ n, EPath l 0 b n → EPath m 0 c n) (hb : b ≤ l.length) {n : Nat} (hn : evN l b = some n) : ∃ k, evN m c = some k ∧ k ≤ n := path_ev (h n (ev_path l b hb n hn))
theorem ev_rev (l : List Nat) : evN l.reverse l.reverse.length = evN l l.length := by
  have one : ∀ (l : List Nat) (n : Nat), evN l l.length = some n → ∃ k, evN l.reverse l.reverse.length = some k ∧ k ≤ n := fun l n hn => by
    refine ev_le (fun n h => ?_) (Nat.le_refl _) hn
    have := h.rev (Nat.le_refl _)
    rw [Nat.sub_self, Nat.sub_zero] at this
    rw [List.length_reverse]
    exact this
  cases e : evN l l.length with
  | none =>
    cases e2 : evN l.reverse l.reverse.length with
    | none => rfl
    | some k =>
      obtain ⟨q, hq, _⟩ := one l.reverse k e2
      rw [List.reverse_reverse, e] at hq
      cases hq
  | some n =>
    obtain ⟨k, hk, h1⟩ := one l n e
    obtain ⟨q, hq, h2⟩ := one l.reverse k hk
    rw [List.reverse_reverse, e] at hq
    have := Option.some.inj hq
    rw [hk]
    congr 1
    omega
theorem ev_ge {l : List Nat} {n : Nat} (h : evN l l.length = some n) : l.length % 2 = 0 ∧ fewI l l.length ≤ n := by
  have := ev_path l _ (Nat.le_refl _) n h
  exact ⟨by have := this.even; rw [Nat.sub_zero] at this; exact this, few_path this.path⟩
theorem twice_path (r : List Nat) : EPath (r ++ r.reverse) 0 (r ++ r.reverse).length (if r = [] then 0 else 1) := by
  by_cases h : r = []
  · subst h
    exact .nil 0
  · rw [if_neg h]
    have h0 : 0 < r.length := List.length_pos_iff.mpr h
    have hl : (r ++ r.reverse).length = r.length + r.length := by rw [List.length_append, List.length_reverse]
    refine EPath.one (by omega) (Nat.le_refl _) (pal_row.mpr ?_) (by rw [hl]; omega)
    rw [List.reverse_append, List.reverse_reverse]
theorem ev_twice (r : List Nat) : evN (r ++ r.reverse) (r ++ r.reverse).length = some (if r = [] then 0 else 1) := by
  obtain ⟨m, hm, hl⟩ := path_ev (twice_path r)
  rw [hm]
  congr 1
  by_cases h : r = []
  · rw [if_pos h] at hl ⊢; omega
  · rw [if_neg h] at hl ⊢
    have h0 : 0 < r.length := List.length_pos_iff.mpr h
    have hp := (ev_path _ _ (Nat.le_refl _) m hm).path
    have hl2 : (r ++ r.reverse).length = r.length + r.length := by rw [List.length_append, List.length_reverse]
    have zero : ∀ {l : List Nat} {a b n : Nat}, Path l a b n → n = 0 → a = b := fun h e => by
      cases h with
      | nil => rfl
      | step => omega
    by_cases e : m = 0
    · have := zero hp e
      omega
    · omega
theorem evPl_mem {l : List Nat} {n b : Nat} : b ∈ evPl l n ↔ b < n ∧ (evN l b).isSome = true := by
  unfold evPl
  rw [List.mem_filter, List.mem_range]
theorem evPlaces_mem {l : List Nat} {b : Nat} : b ∈ evPlaces l ↔ b ≤ l.length ∧ (evN l b).isSome = true := by
  unfold evPlaces
  rw [evPl_mem, Nat.lt_succ_iff]
theorem evPlaces_rise (l : List Nat) : ((evPlaces l).map fun (k : Nat) => (k : Int)).Pairwise (· < ·) := by
  rw [List.pairwise_map]
  exact (List.Pairwise.filter _ List.pairwise_lt_range).imp fun h => by omega
theorem evPlaces_zero (l : List Nat) : (evPlaces l)[0]? = some 0 := by
  unfold evPlaces evPl
  rw [List.range_succ_eq_map, List.filter_cons]
  rfl
theorem evPlaces_few (l : List Nat) : (evPlaces l).length ≤ l.length + 1 := evPl_len l _
theorem ev_left (o r : List Nat) : (o ++ o.reverse).length ∈ evPlaces (o ++ o.reverse ++ r) := by
  rw [evPlaces_mem]
  refine ⟨by rw [List.length_append (as := o ++ o.reverse)]; omega, ?_⟩
  obtain ⟨m, hm, _⟩ := path_ev (twice_path o).left (l := o ++ o.reverse ++ r)
  rw [hm]
  rfl
theorem ev_app {r o : List Nat} (h : evN r r.length ≠ none) : evN (r ++ (o ++ o.reverse)) (r ++ (o ++ o.reverse)).length ≠ none := by
  cases e : evN r r.length with
  | none => exact absurd e h
  | some n =>
    have h1 := (ev_path r _ (Nat.le_refl _) n e).left (m := o ++ o.reverse)
    have h2 := (twice_path o).right (l := r)
    rw [Nat.add_zero] at h2
    have := h1.app h2
    rw [← List.length_append] at this
    obtain ⟨m, hm, _⟩ := path_ev this
    rw [hm]
    intro z
    cases z
theorem Abcz.subL {l : List Nat} {c d : Nat} (h : Abcz l) (hd : d = 97 ∨ d = 98) : Abcz (L2.subL c d l) := fun x hx => by
  obtain ⟨y, hy, rfl⟩ := List.mem_map.mp hx
  split
  · omega
  · exact h y hy
theorem e_c48 : ("c" : Str) = tx [99] := by decide +kernel
/-- what is asked of each row -/
theorem ev_is (l : List Nat) : decide (V.bl (decide (optV (evN l l.length) = .non)) = V.bl (decide (l.length ∈ evPlaces l))) = false := by
  have h : decide (l.length ∈ evPlaces l) = (evN l l.length).isSome := by
    rw [Bool.eq_iff_iff, decide_eq_true_iff, evPlaces_mem]
    exact ⟨fun h => h.2, fun h => ⟨Nat.le_refl _, h⟩⟩
  rw [h]
  cases evN l l.length with
  | none => decide
  | some n =>
    rw [show decide (optV (some n) = V.non) = false from decide_eq_false fun z => by cases z]
    exact decide_eq_false fun z => by cases z
theorem inV_lens48 (j : Nat) : ∀ ks : List Nat, L2.inV (.int (j : Int)) (lensV ks) = decide (j ∈ ks)
  | [] => rfl
  | k :: r => by
    show (L2.eqV (.int (k : Int)) (.int (j : Int)) || L2.inV (.int (j : Int)) (lensV r)) = _
    rw [inV_lens48 j r]
    have e : L2.eqV (.int (k : Int)) (.int (j : Int)) = decide (k = j) := by
      show ((k : Int) == (j : Int)) = _
      by_cases h : k = j
      · rw [h, decide_eq_true rfl]; exact beq_self_eq_true _
      · rw [decide_eq_false h]; exact beq_eq_false_iff_ne.mpr (fun z => h (by omega))
    rw [e, ← Bool.decide_or]
    refine decide_eq_decide.mpr ?_
    rw [List.mem_cons]
    exact or_congr_left ⟨Eq.symm, Eq.symm⟩
theorem scal_opt (a b : Option Nat) : L2.scal (optV a) (optV b) = true := by cases a <;> cases b <;> rfl
theorem subL_len (c d : Nat) (l : List Nat) : (subL c d l).length = l.length := List.length_map ..
end Mr

namespace Mr
open PySem L2
def top (i : Nat) : Stmt := PySem.Challenge.pw_mirrorruns_k48_whole_even_cuts.main.body.getD i (.Pass ⟨0, 0, 0, 0⟩)
abbrev sIsRow : Stmt := top 6
abbrev sNeedRow : Stmt := top 7
abbrev s_reaches : Stmt := top 9
abbrev s_reach_around : Stmt := top 10
abbrev s_ends_ahead : Stmt := top 12
abbrev s_ends_by_place : Stmt := top 13
abbrev s_fewest_by_place : Stmt := top 15
abbrev s_fewest : Stmt := top 16
abbrev s_bounds : Stmt := top 17
abbrev s_fewest_even_by_place : Stmt := top 18
abbrev s_even_ones : Stmt := top 19
abbrev s_even_ends : Stmt := top 20
abbrev s_fewest_even : Stmt := top 21
abbrev sBox : Stmt := top 23
abbrev sTake : Stmt := top 24
abbrev sRow : Stmt := top 25
abbrev sLaw : Stmt := top 26
end Mr

namespace Mr
open PySem L2
section
variable {P : Program} {w : World} {K : PySem.W.Frag} {mg : Str → Option Value} {base : Heap}
theorem scIsRow : FnScope ["thing"] ["thing"] (defScope sIsRow) := ⟨rfl, rfl, rfl, by decide +kernel, rfl, by decide +kernel, by decide +kernel⟩
theorem ok_isrow (a : At K mg "is_row" sIsRow ["thing"]) (zi : mg "isinstance" = none) (zs : mg "str" = none) (zl : mg "len" = none) (za : mg "all" = none) {tM tL : Tok} (hM : mg "MOST_SIGNS" = some (.int 200 tM)) (hL : mg "LETTERS" = some (.str (tx lets) tL)) :
    Df P w K mg base 1 "is_row" ["thing"] (spIsRow K) := by
  refine a.df fun f fd F => ?_
  refine F.ok scIsRow (fun vs H Q E h => ?_) (fun cdv A outer s H vs Q E hr h => ?_)
  · obtain ⟨_, rfl, _⟩ := h
    rfl
  · obtain ⟨x, rfl, hT, q⟩ := h
    refine ⟨_, pss_cons (ps_if (pw_or (pt_not (pt_val (pe_callB call_isT (by rfl) zi bt_isinstance (pa_cons (pv 0) (pa_cons (pe_bltn (v := .ty "str") (by rfl) zs bt_str rfl) pa_nil)))))
        (pw_or1 (pt_cmpR op_gt (pe_callB call_len_str (by rfl) zl bt_len (pa_cons (pv 0) pa_nil)) (pe_glob (v := .int 200) (by rfl) hM ⟨_, rfl⟩) (nomark _)))).pt (pss_one (ps_ret pe_bl)) pss_nil)
      (pss_one (ps_ret (pe_callB (call_allB rfl) (by rfl) za bt_all (pa_cons (pe_comp (ys := []) (ix := []) ⟨rfl, by decide +kernel, rfl, by decide +kernel, rfl, by decide +kernel, trivial, rfl, trivial⟩ rfl
        (pi_str (pv 0)) (fun C fp s H => pts_nil) (fun C fp s H => pe_cmpR op_inS (pv 0) (pe_glob (X := cmpCx _ _ _ _ C fp s H) (v := .str (tx lets)) (by rfl) hL ⟨_, rfl⟩) (by with_unfolding_all rfl))) pa_nil)))), ?_⟩
    rcases hT with ⟨l, rfl, hl⟩ | ⟨hrow, _, t, ty, hk⟩
    · have hz : l.length ≤ sizeLine := by rw [sizeLine_eq]; omega
      refine ⟨_, rfl, _, "str", _, true, rfl, .str _, by rfl, _, rfl, iteF ?_⟩
      refine ⟨_, rfl, tx l, rfl, by rw [tx_len]; exact hz, _, _, rfl, rfl, _, rfl, ite2 (fun h1 => ?_) (fun h1 => ?_)⟩
      · have h2 : 200 < l.length := by have := of_decide_eq_true h1; rw [tx_len] at this; omega
        have e : rowV (.str (tx l)) = false := by
          show rowL l = false
          unfold rowL
          rw [decide_eq_false (by omega)]; rfl
        have q' := q H (Same.refl _)
        rw [e] at q'
        exact q'
      · have h2 : l.length ≤ 200 := by
          have : ¬ ((200 : Int) < ((tx l).length : Int)) := fun z => h1 (decide_eq_true z)
          rw [tx_len] at this; omega
        refine ⟨_, rfl, l, rfl, comp_str (l := l) hz (fun i ys H' => H' = H ∧ ys = (l.take i).map fun c => V.bl (decide (c ∈ lets))) ⟨rfl, rfl⟩ ?_ ?_⟩
        · rintro i c ys H' N hc hy ⟨rfl, rfl⟩ hN
          refine yes_ok (iteT ⟨_, rfl, c, lets, rfl, rfl, hN _ _ (by simp; omega) ⟨rfl, ?_⟩⟩)
          rw [List.take_succ, hc]
          simp
        · rintro ys H' hy ⟨rfl, rfl⟩ p hp
          refine ⟨p, l.map fun c => decide (c ∈ lets), rfl, SqL.of (by rw [upd_same, List.take_of_length_le (Nat.le_refl _), List.map_map]; rfl), ?_⟩
          have e : rowV (.str (tx l)) = (l.map fun c => decide (c ∈ lets)).all id := by
            show rowL l = _
            unfold rowL
            rw [decide_eq_true h2, Bool.true_and, List.all_map]; rfl
          rw [← e]
          exact q _ (Same.upd hp)
    · refine ⟨_, rfl, _, "str", _, false, rfl, ty, hk, _, rfl, iteT (iteT ?_)⟩
      have q' := q H (Same.refl _)
      rw [hrow] at q'
      exact q'
end
end Mr

namespace Mr
open PySem L2
section
variable {P : Program} {w : World} {K : PySem.W.Frag} {mg : Str → Option Value} {base : Heap}
theorem scNeed : FnScope ["thing"] ["thing"] (defScope sNeedRow) := ⟨rfl, rfl, rfl, by decide +kernel, rfl, by decide +kernel, by decide +kernel⟩
theorem ok_need (a : At K mg "need_row" sNeedRow ["thing"]) (dR : Df P w K mg base 1 "is_row" ["thing"] (spIsRow K)) : Df P w K mg base 2 "need_row" ["thing"] spNeed := by
  refine a.df fun f fd F => ?_
  refine F.ok scNeed (fun vs H Q E h => ?_) (fun cdv A outer s H vs Q E hr h => ?_)
  · obtain ⟨_, rfl, _⟩ := h
    rfl
  · obtain ⟨l, rfl, hrow, q⟩ := h
    refine ⟨_, pss_one (ps_if (pt_not (pt_val (pe_df dR hr rfl (pa_cons (pv 0) pa_nil)))) pss_never pss_nil), ?_⟩
    refine ⟨_, rfl, _, rfl, row_thing hrow, fun H' hs => ⟨_, rfl, ?_⟩⟩
    have e : rowV (.str (tx l)) = true := hrow
    rw [e]
    exact iteF (q H' hs)
end
end Mr

namespace Mr
open PySem L2
section
variable {P : Program} {w : World} {K : PySem.W.Frag} {mg : Str → Option Value} {base : Heap}
theorem scRA : FnScope ["row", "middle", "first", "behind"] ["row", "middle"] (defScope s_reach_around) := ⟨rfl, rfl, rfl, by decide +kernel, rfl, by decide +kernel, by decide +kernel⟩
set_option maxHeartbeats 4000000 in
theorem ok_reach_around (a : At K mg "reach_around" s_reach_around ["row", "middle"]) (z_len : mg "len" = none) : Df P w K mg base 1 "reach_around" ["row", "middle"] spReachA := by
  refine a.df fun f fd F => ?_
  refine F.ok scRA (fun vs H Q E h => ?_) (fun cdv A outer s H vs Q E hr h => ?_)
  · obtain ⟨_, _, rfl, _⟩ := h
    rfl
  · obtain ⟨l, m, rfl, hrow, hm, q⟩ := h
    have hlen := (rowL_iff.mp hrow).1
    have hz : l.length ≤ sizeLine := by rw [sizeLine_eq]; omega
    refine ⟨_, (pss_cons (ps_set (i := 2) scRA.nd rfl (Or.inl rfl) (pe_op op_fdiv (pe_op op_add (pv 1) pe_int) pe_int))
      (pss_cons (ps_set (i := 3) scRA.nd rfl (Or.inl rfl) (pe_op op_sub (pe_op op_add (pv 1) pe_int) (pv 2)))
      (pss_cons (ps_while PassesOwn.never (PW.pt (pw_and (pt_cmpR op_gt (pv 2) pe_int (nomark _)) (pw_and (pt_cmpR op_lt (pv 3) (pe_callB call_len_str (by rfl) z_len bt_len (pa_cons (pv 0) pa_nil)) (nomark _)) (pw_and1 (pt_cmpR op_eq (pe_ix ix_strS (pv 0) (pe_op op_sub (pv 2) pe_int) (fun _ _ => rfl)) (pe_ix ix_strS (pv 0) (pv 3) (fun _ _ => rfl)) (nomark _)))))) (pss_cons (ps_set (i := 2) scRA.nd rfl (Or.inl rfl) (pe_op op_sub (pv 2) pe_int))
      (pss_one (ps_set (i := 3) scRA.nd rfl (Or.inl rfl) (pe_op op_add (pv 3) pe_int)))))
      (pss_one (ps_ret (pe_op op_sub (pv 3) (pv 2))))))), ?_⟩
    refine ⟨_, rfl, _, _, rfl, rfl, _, _, rfl, rfl, ⟨by decide, by decide⟩, ?_⟩
    refine ⟨_, rfl, _, _, rfl, rfl, _, rfl, _, _, rfl, rfl, ?_⟩
    have e1 : ((m : Int) + 1) / 2 = (((m + 1) / 2 : Nat) : Int) := by omega
    have e2 : (m : Int) + 1 - (((m + 1) / 2 : Nat) : Int) = ((m + 1 - (m + 1) / 2 : Nat) : Int) := by omega
    refine ⟨fun k σ H' => ∃ f b : Nat, k = f ∧ f ≤ b ∧ b ≤ l.length ∧ grow l f b = reachN l m ∧ σ = [some (.str (tx l)), some (.int (m : Int)), some (.int (f : Int)), some (.int (b : Int))] ∧ H' = H, ⟨(m + 1) / 2, (m + 1) / 2, m + 1 - (m + 1) / 2, rfl, by omega, by omega, rfl, ?_, rfl⟩, ?_⟩
    · show [some (V.str (tx l)), some (V.int (m : Int)), some (V.int (((m : Int) + 1) / 2)), some (V.int ((m : Int) + 1 - ((m : Int) + 1) / 2))] = _
      rw [e1, e2]
    rintro k σ H' ⟨x, y, ek, hfb, hb, hg, rfl, rfl⟩
    have out : (∀ y1 x1 : Nat, x = x1 + 1 → ¬ (y < l.length ∧ l[x1]? = l[y]?)) → Q (.int ((y : Int) - (x : Int))) H' := by
      intro h
      have e : reachN l m = y - x := by
        rw [← hg]
        cases x with
        | zero => rfl
        | succ x1 => unfold grow; rw [if_neg (h 0 x1 rfl)]
      have e3 : (y : Int) - (x : Int) = ((reachN l m : Nat) : Int) := by omega
      rw [e3]; exact q
    refine ⟨_, rfl, _, _, rfl, rfl, _, rfl, ite2 (fun h1 => ?_) (fun h1 => iteF ⟨_, rfl, _, rfl, _, _, rfl, rfl, out ?_⟩)⟩
    · have hf : 0 < x := by have := of_decide_eq_true h1; omega
      refine ⟨_, rfl, _, rfl, tx l, rfl, (by rw [tx_len]; exact hz), _, _, rfl, rfl, _, rfl, ite2 (fun h2 => ?_) (fun h2 => iteF ⟨_, rfl, _, rfl, _, _, rfl, rfl, out ?_⟩)⟩
      · have hb2 : y < l.length := by have := of_decide_eq_true h2; rw [tx_len] at this; omega
        have ef : (x : Int) - 1 = ((x - 1 : Nat) : Int) := by omega
        have g1 : l[x - 1]? = some l[x - 1] := List.getElem?_eq_getElem (by omega)
        have g2 : l[y]? = some l[y] := List.getElem?_eq_getElem (by omega)
        refine ⟨_, rfl, _, rfl, _, _, rfl, rfl, l, _, l[x - 1], rfl, rfl, hz, (by rw [ef, atI_nat]; exact g1), _, rfl, _, rfl, l, _, l[y], rfl, rfl, hz, (by rw [atI_nat]; exact g2), rfl, _, rfl, ?_⟩
        rw [dec_tx]
        refine ite2 (fun h3 => ?_) (fun h3 => ⟨_, rfl, _, rfl, _, _, rfl, rfl, out ?_⟩)
        · have h4 : l[x - 1]? = l[y]? := by rw [g1, g2]; have := of_decide_eq_true h3; injection this with h5; rw [h5]
          refine ⟨fun σ' H3 => σ' = [some (.str (tx l)), some (.int (m : Int)), some (.int ((x - 1 : Nat) : Int)), some (.int ((y + 1 : Nat) : Int))] ∧ H3 = H', fun σ' H3 ⟨e1, e2⟩ => ⟨x - 1, by omega, x - 1, y + 1, rfl, by omega, by omega, ?_, e1, e2⟩, ?_⟩
          · rw [← hg]
            obtain ⟨x1, rfl⟩ : ∃ x1, x = x1 + 1 := ⟨x - 1, by omega⟩
            rw [grow, if_pos ⟨hb2, h4⟩]
            rfl
          · refine ⟨_, rfl, _, _, rfl, rfl, _, rfl, _, _, rfl, rfl, ?_, rfl⟩
            show [some (V.str (tx l)), some (V.int (m : Int)), some (V.int ((x : Int) - 1)), some (V.int ((y : Int) + 1))] = _
            rw [ef]; rfl
        · intro _ x1 e ⟨_, h4⟩
          subst e
          apply h3
          rw [decide_eq_true]
          have x : x1 + 1 - 1 = x1 := rfl
          rw [g2] at h4
          have g1' : l[x1]? = some l[x1] := List.getElem?_eq_getElem (by omega)
          rw [g1'] at h4
          injection h4 with h5
          exact congrArg (fun c => [c]) h5
      · intro _ x1 e ⟨h3, _⟩
        apply h2
        apply decide_eq_true
        rw [tx_len]; omega
    · intro _ x1 e _
      apply h1
      apply decide_eq_true
      omega
end
end Mr

namespace Mr
open PySem L2
section
variable {P : Program} {w : World} {K : PySem.W.Frag} {mg : Str → Option Value} {base : Heap}
theorem scReaches : FnScope ["row"] ["row"] (defScope s_reaches) := ⟨rfl, rfl, rfl, by decide +kernel, rfl, by decide +kernel, by decide +kernel⟩
set_option maxHeartbeats 4000000 in
theorem ok_reaches (a : At K mg "reaches" s_reaches ["row"]) (d_need_row : Df P w K mg base 2 "need_row" ["thing"] spNeed) (d_reach_around : Df P w K mg base 1 "reach_around" ["row", "middle"] spReachA) (z_len : mg "len" = none) (z_range : mg "range" = none) : Df P w K mg base 3 "reaches" ["row"] (spLens reachesN) := by
  refine a.df fun f fd F => ?_
  refine F.ok scReaches (fun vs H Q E h => ?_) (fun cdv A outer s H vs Q E hr h => ?_)
  · obtain ⟨_, rfl, _⟩ := h
    rfl
  · obtain ⟨l, rfl, hrow, q⟩ := h
    have hlen := (rowL_iff.mp hrow).1
    have hz : l.length ≤ sizeLine := by rw [sizeLine_eq]; omega
    refine ⟨_, (pss_cons (ps_expr (pe_df d_need_row hr rfl (pa_cons (pv 0) pa_nil)))
      (pss_one (ps_ret (pe_comp (ys := ["row"]) (ix := [0]) ⟨rfl, by decide +kernel, rfl, by decide +kernel, rfl, by decide +kernel, ⟨rfl, trivial⟩, rfl, ⟨⟨rfl, rfl, rfl, rfl⟩, trivial⟩⟩ rfl (pi_range1 rfl z_range (pa_cons (pe_op op_sub (pe_op op_mul pe_int (pe_callB call_len_str (by rfl) z_len bt_len (pa_cons (pv 0) pa_nil))) pe_int) pa_nil)) (fun C fp s H => pts_nil) (fun C fp s H => (pe_df (X := cmpCx _ _ _ _ C fp s H) d_reach_around hr rfl (pa_cons (pv 1) (pa_cons (pv 0) pa_nil)))))))), ?_⟩
    refine ⟨_, rfl, l, rfl, hrow, fun H1 s1 => ?_⟩
    refine ⟨_, rfl, tx l, rfl, (by rw [tx_len]; exact hz), _, _, rfl, rfl, .inl ⟨by decide, by decide⟩, _, _, rfl, rfl, _, rfl, (by rw [tx_len]; omega), (by rw [tx_len]; omega), ?_⟩
    rw [tx_len]
    have en : (2 * (l.length : Int) - 1).toNat = 2 * l.length - 1 := by omega
    rw [en]
    refine comp_range (n := 2 * l.length - 1) (by rw [sizeLine_eq]; omega) (fun i ys H' => H' = H1 ∧ ys = lensV ((List.range i).map (reachN l))) ⟨rfl, rfl⟩ ?_ ?_
    · rintro i ys H' N hi hy ⟨rfl, rfl⟩ hN
      refine yes_ok (iteT ⟨_, rfl, _, rfl, l, i, ?_, hrow, by omega, hN _ _ (by simp [lensV]) ⟨rfl, ?_⟩⟩)
      · show [V.str (tx l), V.int (0 + (i : Int))] = _
        rw [Int.zero_add]
      · rw [List.range_succ, List.map_append, lensV_app]
        rfl
    · rintro ys H' hy ⟨rfl, rfl⟩ p hp
      exact q p _ (s1.free hp) upd_same (s1.trans (Same.upd hp))
end
end Mr

namespace Mr
open PySem L2
section
variable {P : Program} {w : World} {K : PySem.W.Frag} {mg : Str → Option Value} {base : Heap}
theorem scEA : FnScope ["told", "behind"] ["told", "behind"] (defScope s_ends_ahead) := ⟨rfl, rfl, rfl, by decide +kernel, rfl, by decide +kernel, by decide +kernel⟩
set_option maxHeartbeats 4000000 in
theorem ok_ends_ahead (a : At K mg "ends_ahead" s_ends_ahead ["told", "behind"]) (z_range : mg "range" = none) : Df P w K mg base 1 "ends_ahead" ["told", "behind"] spEA := by
  refine a.df fun f fd F => ?_
  refine F.ok scEA (fun vs H Q E h => ?_) (fun cdv A outer s H vs Q E hr h => ?_)
  · obtain ⟨_, _, _, rfl, _⟩ := h
    rfl
  · obtain ⟨p, l, b, rfl, hlen, hb, hp, q⟩ := h
    refine ⟨_, (pss_one (ps_ret (pe_comp (ys := ["behind", "told"]) (ix := [1, 0]) ⟨rfl, by decide +kernel, rfl, by decide +kernel, rfl, by decide +kernel, ⟨rfl, rfl, trivial⟩, rfl, ⟨⟨rfl, rfl, rfl, rfl⟩, ⟨rfl, rfl, rfl, rfl⟩, trivial⟩⟩ rfl (pi_range1 rfl z_range (pa_cons (pv 1) pa_nil)) (fun C fp s H => (pts_one (pt_cmpR op_ge (pe_ix (ix_listK (K := K) rfl) (pv 2) (pe_op op_sub (pe_op op_add (pv 0) (pv 1)) pe_int) (fun _ _ => rfl)) (pe_op op_sub (pv 1) (pv 0)) (nomark _)))) (fun C fp s H => (pe_op op_sub (pv 1) (pv 0)))))), ?_⟩
    refine ⟨_, rfl, _, rfl, by omega, by omega, ?_⟩
    have en : ((b : Int)).toNat = b := by omega
    rw [en]
    refine comp_range (n := b) (by rw [sizeLine_eq]; omega) (fun i ys H' => H' = H ∧ ys = lensV (((downs b).take i).filter fun k => decide (k ≤ reachN l (b - k + b - 1)))) ⟨rfl, rfl⟩ ?_ ?_
    · rintro i ys H' N hi hy ⟨rfl, rfl⟩ hN
      have hfl := filt_take (fun k => decide (k ≤ reachN l (b - k + b - 1))) hi
      have ei : (0 : Int) + (i : Int) + (b : Int) - 1 = ((i + b - 1 : Nat) : Int) := by omega
      refine ⟨_, rfl, _, rfl, _, rfl, _, _, rfl, rfl, _, _, rfl, rfl, p, _, _, .int ((reachN l (i + b - 1) : Nat) : Int), rfl, rfl, SqL.of hp, ?_, _, rfl, _, rfl, _, _, rfl, rfl, _, _, rfl, rfl, _, rfl, ?_⟩
      · rw [ei, atI_nat]
        show (lensV (reachesN l))[i + b - 1]? = _
        unfold lensV
        rw [List.getElem?_map, reachesN_at (by omega)]
        rfl
      have ek : b - (b - i) = i := by omega
      have e0 : (b : Int) - (0 + (i : Int)) = ((b - i : Nat) : Int) := by omega
      rw [e0]
      refine ite2 (fun h1 => ?_) (fun h1 => ?_)
      · have h2 : b - i ≤ reachN l (i + b - 1) := by have := of_decide_eq_true h1; omega
        refine ⟨_, rfl, _, rfl, _, _, rfl, rfl, hN _ _ (by rw [List.length_append]; simp; omega) ⟨rfl, ?_⟩⟩
        show _ ++ [V.int ((b : Int) - (0 + (i : Int)))] = _
        rw [e0, hfl, if_pos (decide_eq_true (by rw [ek]; exact h2)), lensV_app]
        rfl
      · have h2 : ¬ b - i ≤ reachN l (i + b - 1) := fun z => h1 (decide_eq_true (by omega))
        refine hN _ _ (by omega) ⟨rfl, ?_⟩
        rw [hfl, if_neg (by rw [decide_eq_false (by rw [ek]; exact h2)]; decide), List.append_nil]
    · rintro ys H' hy ⟨rfl, rfl⟩ p' hp'
      rw [downs_all, ← ends_ahead_eq hb]
      exact q p' _ hp' upd_same (Same.upd hp')
end
end Mr

namespace Mr
open PySem L2
section
variable {P : Program} {w : World} {K : PySem.W.Frag} {mg : Str → Option Value} {base : Heap}
theorem scEBP : FnScope ["row", "told"] ["row"] (defScope s_ends_by_place) := ⟨rfl, rfl, rfl, by decide +kernel, rfl, by decide +kernel, by decide +kernel⟩
set_option maxHeartbeats 4000000 in
theorem ok_ebp (a : At K mg "ends_by_place" s_ends_by_place ["row"]) (d_reaches : Df P w K mg base 3 "reaches" ["row"] (spLens reachesN)) (d_ends_ahead : Df P w K mg base 1 "ends_ahead" ["told", "behind"] spEA) (z_len : mg "len" = none) (z_range : mg "range" = none) : Df P w K mg base 4 "ends_by_place" ["row"] spEBP := by
  refine a.df fun f fd F => ?_
  refine F.ok scEBP (fun vs H Q E h => ?_) (fun cdv A outer s H vs Q E hr h => ?_)
  · obtain ⟨_, rfl, _⟩ := h
    rfl
  · obtain ⟨l, rfl, hrow, q⟩ := h
    have hlen := (rowL_iff.mp hrow).1
    have hz : l.length ≤ sizeLine := by rw [sizeLine_eq]; omega
    refine ⟨_, (pss_cons (ps_set (i := 1) scEBP.nd rfl (Or.inr rfl) (pe_df d_reaches hr rfl (pa_cons (pv 0) pa_nil)))
      (pss_one (ps_ret (pe_comp (ys := ["told"]) (ix := [1]) ⟨rfl, by decide +kernel, rfl, by decide +kernel, rfl, by decide +kernel, ⟨rfl, trivial⟩, rfl, ⟨⟨rfl, rfl, rfl, rfl⟩, trivial⟩⟩ rfl (pi_range1 rfl z_range (pa_cons (pe_op op_add (pe_callB call_len_str (by rfl) z_len bt_len (pa_cons (pv 0) pa_nil)) pe_int) pa_nil)) (fun C fp s H => pts_nil) (fun C fp s H => (pe_df (X := cmpCx _ _ _ _ C fp s H) d_ends_ahead hr rfl (pa_cons (pv 1) (pa_cons (pv 0) pa_nil)))))))), ?_⟩
    refine ⟨_, rfl, l, rfl, hrow, fun pr H1 hfr hpr s1 => ?_⟩
    refine ⟨_, rfl, tx l, rfl, (by rw [tx_len]; exact hz), _, _, rfl, rfl, _, rfl, (by rw [tx_len]; omega), (by rw [tx_len]; omega), ?_⟩
    rw [tx_len]
    have en : ((l.length : Int) + 1).toNat = l.length + 1 := by omega
    rw [en]
    refine comp_range (n := l.length + 1) (by rw [sizeLine_eq]; omega) (fun i ys H' => LenV H' ys ((List.range i).map fun b => endsN (l.take b)) ∧ H' pr = some (.lst (lensV (reachesN l))) ∧ Same H H') ⟨ReV.nil, hpr, s1⟩ ?_ ?_
    · rintro i ys H2 N hi hy ⟨hL, hp2, s2⟩ hN
      refine yes_ok (iteT ⟨_, rfl, _, rfl, pr, l, i, ?_, hlen, by omega, hp2, fun p' H3 hf3 hp3 s3 => hN _ _ (by simp; omega) ⟨?_, s3 _ _ hp2, s2.trans s3⟩⟩)
      · show [V.ref pr, V.int (0 + (i : Int))] = _
        rw [Int.zero_add]
      · rw [List.range_succ, List.map_append]
        exact ReV.push (hL.mono fun p e h => s3 _ _ h) hp3
    · rintro ys H2 hy ⟨hL, hp2, s2⟩ p hp
      exact q p ys _ (s2.free hp) upd_same (hL.mono fun p' e h => (Same.upd hp) _ _ h) (s2.trans (Same.upd hp))
end
end Mr

namespace Mr
open PySem L2
section
variable {P : Program} {w : World} {K : PySem.W.Frag} {mg : Str → Option Value} {base : Heap}
theorem scFBP : FnScope ["lengths", "told", "behind", "known"] ["lengths"] (defScope s_fewest_by_place) := ⟨rfl, rfl, rfl, by decide +kernel, rfl, by decide +kernel, by decide +kernel⟩
set_option maxHeartbeats 8000000 in
theorem ok_fbp (a : At K mg "fewest_by_place" s_fewest_by_place ["lengths"]) (z_len : mg "len" = none) (z_min : mg "min" = none) (z_range : mg "range" = none) : Df P w K mg base 1 "fewest_by_place" ["lengths"] spFBP := by
  refine a.df fun f fd F => ?_
  refine F.ok scFBP (fun vs H Q E h => ?_) (fun cdv A outer s H vs Q E hr h => ?_)
  · obtain ⟨_, _, _, rfl, _⟩ := h
    rfl
  · obtain ⟨p, xs, Ls, rfl, hp, hL, h1, h2, hF, hC, q⟩ := h
    refine ⟨_, (pss_cons (ps_set (i := 1) scFBP.nd rfl (Or.inr rfl) (pe_lst (pa_cons pe_int pa_nil)))
      (pss_cons (ps_for PassesOwn.never rfl (pi_range2 rfl z_range (pa_cons pe_int (pa_cons (pe_callB call_len_seq (by rfl) z_len bt_len (pa_cons (pv 0) pa_nil)) pa_nil))) (pg_name (i := 2) scFBP.nd rfl (Or.inr rfl)) (pss_cons (ps_setc (ys := ["told", "behind"]) (ix := [1, 2]) (i := 3) ⟨rfl, by decide +kernel, rfl, by decide +kernel, rfl, by decide +kernel, ⟨rfl, rfl, trivial⟩, rfl, ⟨⟨rfl, rfl, rfl, rfl⟩, ⟨rfl, rfl, rfl, rfl⟩, trivial⟩⟩ rfl (pi_list (pe_ix ix_list (pv 0) (pv 2) (fun _ _ => rfl))) (fun C fp s H => (pts_one (pt_cmpR op_notN (pe_ix (ix_listK (K := K) rfl) (pv 1) (pe_op op_sub (pv 2) (pv 0)) (fun _ _ => rfl)) pe_non (nomark _)))) (fun C fp s H => (pe_ix (ix_listK (K := K) rfl) (pv 1) (pe_op op_sub (pv 2) (pv 0)) (fun _ _ => rfl))) scFBP.nd rfl (Or.inl rfl))
      (pss_one (ps_expr (pe_bm PySem.F.plainAttrs_list PySem.F.slot_list_append PySem.F.type_list_append mt_append (pv 1) (pa_cons (pe_ifExp (pt_cmpR (op_neL hr.units0) (pv 3) (pe_lst pa_nil) (nomark _)) (pe_op op_add (pe_callB (call_minI rfl) (by rfl) z_min bt_min (pa_cons (pv 3) pa_nil)) pe_int) pe_non) pa_nil))))))
      (pss_one (ps_ret (pv 1))))), ?_⟩
    refine ⟨(by show 1 ≤ sizeLine; decide), fun pt hpt => ?_⟩
    have s1 : Same H (upd H pt (.lst [.int 0])) := Same.upd hpt
    have f1 : upd H pt (.lst [.int 0]) pt = some (.lst (fewV (fewAt (lenOf Ls) 0))) := upd_same
    generalize upd H pt (.lst [.int 0]) = H1 at s1 f1
    have hxl : xs.length = Ls.length := hL.1
    refine ⟨_, rfl, p, _, rfl, .inl (SqL.of (s1 _ _ hp)), _, _, rfl, ⟨by omega, by omega, by rw [hxl]; omega, by rw [hxl]; omega⟩, ?_⟩
    have en : ((xs.length : Int) - 1).toNat = Ls.length - 1 := by omega
    rw [en]
    refine for_range (fun i σ H' => ∃ (w2 w3 : Option V), σ = [some (.ref p), some (.ref pt), w2, w3] ∧ H' pt = some (.lst (fewV (fewAt (lenOf Ls) i))) ∧ Same H H') ⟨_, _, rfl, f1, s1⟩ ?_ ?_
    · rintro i σ H2 hi ⟨w2, w3, rfl, ht2, s2⟩
      have eb : (1 : Int) + (i : Int) = ((i + 1 : Nat) : Int) := by omega
      rw [eb]
      have hil : i + 1 < Ls.length := by omega
      obtain ⟨pl, a1, hpl⟩ := (hL.mono (H' := H2) fun p e h => s2 _ _ h).at (List.getElem?_eq_getElem hil)
      have eL : Ls[i + 1] = lenOf Ls (i + 1) := by unfold lenOf; rw [List.getElem?_eq_getElem hil]; rfl
      rw [eL] at hpl
      have hpl' : H2 pl = some (.lst (lensV (lenOf Ls (i + 1)))) := hpl
      have hF1 := fun k hk => hF (i + 1) k hk
      have hC1 := hC (i + 1)
      have hlt : (fewAt (lenOf Ls) i).length = i + 1 := fewAt_len _ _
      have hnx : fewAt (lenOf Ls) (i + 1) = fewAt (lenOf Ls) i ++ [nextF (fewAt (lenOf Ls) i) (i + 1) (lenOf Ls (i + 1))] := rfl
      generalize lenOf Ls (i + 1) = L at hpl' hF1 hC1 hnx
      generalize fewAt (lenOf Ls) i = F at ht2 hlt hnx
      refine ⟨_, rfl, _, rfl, p, _, _, _, rfl, rfl, SqL.of (s2 _ _ hp), atI_nat (j := i + 1) a1, pl, rfl, ⟨_, SqL.of hpl'⟩, comp_list (K := K) (a := pl) (xs := lensV L) (by rw [lensV_len, sizeLine_eq]; omega) (fun j ys H' => H' = H2 ∧ ys = lensV (knownN F (i + 1) (L.take j))) ⟨rfl, rfl⟩ (fun j ys H' ⟨e, _⟩ => by rw [e]; exact SqL.of hpl') ?_ ?_⟩
      · rintro j x ys H' N hx hy ⟨rfl, rfl⟩ hN
        obtain ⟨k, hk, rfl⟩ := lensV_at hx
        obtain ⟨k1, k2⟩ := hF1 k (List.mem_of_getElem? hk)
        have hj : i + 1 - k < F.length := by omega
        have ek : ((i + 1 : Nat) : Int) - (k : Int) = ((i + 1 - k : Nat) : Int) := by omega
        have at1 : atI (fewV F) ((i + 1 - k : Nat) : Int) = some (optV F[i + 1 - k]) := by
          refine atI_nat ?_
          unfold fewV
          rw [List.getElem?_map, List.getElem?_eq_getElem hj]; rfl
        have hst := known_step (told := F) (b := i + 1) hk
        rw [List.getElem?_eq_getElem hj] at hst
        refine ⟨_, rfl, _, rfl, _, rfl, _, _, rfl, rfl, pt, _, _, optV F[i + 1 - k], rfl, rfl, SqL.of ht2, (by rw [ek]; exact at1), rfl, _, rfl, ?_⟩
        cases e : F[i + 1 - k] with
        | none =>
          rw [show (!decide (optV (none : Option Nat) = V.non)) = false by simp [optV]]
          refine iteF (hN _ _ (by omega) ⟨rfl, ?_⟩)
          rw [hst, e]
          simp
        | some m =>
          rw [show (!decide (optV (some m) = V.non)) = true by simp [optV]]
          refine iteT ⟨_, rfl, _, rfl, _, rfl, _, _, rfl, rfl, pt, _, _, optV F[i + 1 - k], rfl, rfl, SqL.of ht2, (by rw [ek]; exact at1), hN _ _ (by rw [List.length_append]; simp at hy ⊢; try omega) ⟨rfl, ?_⟩⟩
          rw [hst, e, lensV_app]
          rfl
      · rintro ys H' hy ⟨rfl, rfl⟩ pk hpk
        rw [lensV_len, List.take_of_length_le (Nat.le_refl _)]
        rw [lensV_len] at hy
        have s3 : Same H' (upd H' pk (.lst (lensV (knownN F (i + 1) L)))) := Same.upd hpk
        have f3 : upd H' pk (.lst (lensV (knownN F (i + 1) L))) pk = some (.lst (lensV (knownN F (i + 1) L))) := upd_same
        dsimp only [gName]
        generalize upd H' pk (.lst (lensV (knownN F (i + 1) L))) = H3 at s3 f3
        have t3 := s2.trans s3
        have fin : ∀ (H5 : Hp) (o : Option Nat), o = nextF F (i + 1) L → Same H H5 → H5 pt = some (.lst (fewV F)) → ∃ (w2 w3 : Option V), [some (V.ref p), some (V.ref pt), some (V.int ((i + 1 : Nat) : Int)), some (V.ref pk)] = [some (V.ref p), some (V.ref pt), w2, w3] ∧ (upd H5 pt (.lst (fewV F ++ [optV o]))) pt = some (.lst (fewV (fewAt (lenOf Ls) (i + 1)))) ∧ Same H (upd H5 pt (.lst (fewV F ++ [optV o]))) := by
          intro H5 o eo s5 f5
          refine ⟨_, _, rfl, ?_, same_upd s5 hpt⟩
          rw [upd_same, hnx, eo]
          unfold fewV
          rw [List.map_append]; rfl
        have hkl : (knownN F (i + 1) L).length ≤ 1000 := Nat.le_trans (List.length_filterMap_le _ _) hC1
        refine ⟨_, rfl, .inl ⟨rfl, _, SqL.of (s3 _ _ ht2)⟩, _, rfl, (by show 0 ≤ sizeLine; omega), fun pz hpz => ?_⟩
        have s4 : Same H3 (upd H3 pz (.lst [])) := Same.upd hpz
        have f4 : upd H3 pz (.lst []) pz = some (.lst []) := upd_same
        generalize upd H3 pz (.lst []) = H4 at s4 f4
        refine ⟨pk, pz, _, _, rfl, rfl, SqL.of (s4 _ _ f3), SqL.of f4, lensV_flat _, rfl, _, rfl, ?_⟩
        rw [eqVs_nil]
        have hFl : F.length + 1 ≤ sizeLine := by rw [sizeLine_eq]; omega
        have hfl : (fewV F).length = F.length := List.length_map ..
        cases ek : knownN F (i + 1) L with
        | nil =>
          refine iteF ⟨pt, _, _, rfl, rfl, s4 _ _ (s3 _ _ ht2), (by rw [hfl]; exact hFl), ?_⟩
          exact fin H4 none (by unfold nextF; rw [if_pos ek]) (t3.trans s4) (s4 _ _ (s3 _ _ ht2))
        | cons x r =>
          rw [← ek]
          have hne : knownN F (i + 1) L ≠ [] := fun z => by rw [z] at ek; cases ek
          rw [show (!(lensV (knownN F (i + 1) L)).isEmpty) = true by rw [ek]; rfl]
          refine iteT ⟨_, rfl, pk, (knownN F (i + 1) L).map (fun (k : Nat) => (k : Int)), rfl, SqL.of (by rw [← lens_ints]; exact s4 _ _ f3), (by rw [List.length_map]; exact List.length_pos_iff.mpr hne), fun M hM hall => ⟨_, _, rfl, rfl, pt, _, _, rfl, rfl, s4 _ _ (s3 _ _ ht2), (by rw [hfl]; exact hFl), ?_⟩⟩
          have eM := min_lens hM hall
          have eo : V.int (M + 1) = optV (some (minL (knownN F (i + 1) L) + 1)) := by rw [eM]; rfl
          have h9 := fin H4 _ (by unfold nextF; rw [if_neg hne]) (t3.trans s4) (s4 _ _ (s3 _ _ ht2))
          rw [← eo] at h9
          exact h9
    · rintro σ H2 ⟨w2, w3, rfl, ht2, s2⟩
      exact ⟨_, rfl, q pt H2 hpt ht2 s2⟩
end
end Mr

namespace Mr
open PySem L2
section
variable {P : Program} {w : World} {K : PySem.W.Frag} {mg : Str → Option Value} {base : Heap}
theorem scBo : FnScope ["row"] ["row"] (defScope s_bounds) := ⟨rfl, rfl, rfl, by decide +kernel, rfl, by decide +kernel, by decide +kernel⟩
theorem ok_bounds (a : At K mg "bounds" s_bounds ["row"]) (d_fewest_by_place : Df P w K mg base 1 "fewest_by_place" ["lengths"] spFBP) (d_ends_by_place : Df P w K mg base 4 "ends_by_place" ["row"] spEBP) : Df P w K mg base 5 "bounds" ["row"] (spLens boundsN) := by
  refine a.df fun f fd F => ?_
  refine F.ok scBo (fun vs H Q E h => ?_) (fun cdv A outer s H vs Q E hr h => ?_)
  · obtain ⟨_, rfl, _⟩ := h
    rfl
  · obtain ⟨l, rfl, hrow, q⟩ := h
    have hlen := (rowL_iff.mp hrow).1
    refine ⟨_, (pss_one (ps_ret (pe_df d_fewest_by_place hr rfl (pa_cons (pe_df d_ends_by_place hr rfl (pa_cons (pv 0) pa_nil)) pa_nil)))), ?_⟩
    refine ⟨_, rfl, l, rfl, hrow, fun p xs H1 hfr hp hL s1 => ⟨p, xs, endsAt l, rfl, hp, hL, (by rw [endsAt_len]; omega), (by rw [endsAt_len]; omega), fits_ends l, lenOf_len l hlen, fun p2 H2 hf2 hp2 s2 => ?_⟩⟩
    rw [endsAt_len, show l.length + 1 - 1 = l.length by omega, few_lens] at hp2
    exact q p2 H2 (s1.free hf2) hp2 (s1.trans s2)
end
end Mr

namespace Mr
open PySem L2
section
variable {P : Program} {w : World} {K : PySem.W.Frag} {mg : Str → Option Value} {base : Heap}
theorem scTake4 : FnScope ["_law_box_here", "_law_many", "_law_left", "_law_digit"] ["_law_box_here", "_law_many"] (defScope sTake) := ⟨rfl, rfl, rfl, by decide +kernel, rfl, by decide +kernel, by decide +kernel⟩
theorem ok_take4 (a : At K mg "_law_take" sTake ["_law_box_here", "_law_many"]) (zd : mg "divmod" = none) : Df P w K mg base 1 "_law_take" ["_law_box_here", "_law_many"] spTakeI := by
  refine a.df fun f fd F => ?_
  refine F.ok scTake4 (fun vs H Q E h => ?_) (fun cdv A outer s H vs Q E hr h => ?_)
  · obtain ⟨_, _, _, rfl, _⟩ := h
    rfl
  · obtain ⟨b, n, m, rfl, hb, h1, h2, q⟩ := h
    refine ⟨_, pss_cons (ps_asg (pe_callB call_divmod (by rfl) zd bt_divmod (pa_cons (pe_ix ix_list (pv 0) pe_int (fun _ _ => rfl)) (pa_cons (pv 1) pa_nil)))
        (pg_tup rfl (pgs_cons (pg_name (i := 2) scTake4.nd rfl (Or.inl rfl)) (pgs_cons (pg_name (i := 3) scTake4.nd rfl (Or.inl rfl)) pgs_nil))))
      (pss_cons (ps_asg (pv 2) (pg_sub (pv 0) pe_int set_list)) (pss_one (ps_ret (pv 3)))), ?_⟩
    refine ⟨_, rfl, b, _, _, _, rfl, rfl, SqL.of hb, atI_nat (j := 0) rfl, _, rfl, _, _, rfl, ⟨h1, by omega⟩, fun p hp => ?_⟩
    have nb : b ≠ p := ne_of_none hb hp
    refine ⟨p, _, rfl, SqT.of upd_same, rfl, _, _, rfl, _, _, rfl, rfl, ?_⟩
    refine ⟨_, rfl, _, rfl, b, _, _, 0, rfl, rfl, (by rw [upd_ne nb]; exact hb), rfl, ?_⟩
    refine ⟨_, rfl, ?_⟩
    refine q _ (n / m) _ (Int.emod_nonneg _ (by omega)) (Int.emod_lt_of_pos _ h1) upd_same fun c o e hc => ?_
    rw [upd_ne hc, upd_ne (ne_of_none e hp)]
    exact e
end
end Mr

namespace Mr
open PySem L2
section
variable {P : Program} {w : World} {K : PySem.W.Frag} {mg : Str → Option Value} {base : Heap}
theorem scBox4 : FnScope ["_law_script", "_law_k", "_law_here", "_law_number", "_law_j", "_law_part"] ["_law_script", "_law_k"] (defScope sBox) := ⟨rfl, rfl, rfl, by decide +kernel, rfl, by decide +kernel, by decide +kernel⟩
set_option maxHeartbeats 4000000 in
theorem ok_box4 (a : At K mg "_law_box" sBox ["_law_script", "_law_k"]) (z_len : mg "len" = none) (z_range : mg "range" = none) : Df P w K mg base 2 "_law_box" ["_law_script", "_law_k"] (spBoxI K) := by
  refine a.df fun f fd F => ?_
  refine F.ok scBox4 (fun vs H Q E h => ?_) (fun cdv A outer s H vs Q E hr h => ?_)
  · obtain ⟨_, _, _, rfl, _⟩ := h
    rfl
  · obtain ⟨a, ns, k, rfl, hS, h0, q⟩ := h
    refine ⟨_, (pss_cons (ps_set (i := 2) scBox4.nd rfl (Or.inl rfl) (pe_op op_add (pe_op op_mul pe_int (pv 1)) pe_int))
      (pss_cons (ps_if (pt_cmpR op_lt (pv 1) (pe_callB call_len_seq (by rfl) z_len bt_len (pa_cons (pv 0) pa_nil)) (nomark _)) (pss_one (ps_set (i := 2) scBox4.nd rfl (Or.inl rfl) (pe_ix ix_list (pv 0) (pv 1) (fun _ _ => rfl)))) pss_nil)
      (pss_cons (ps_if (pt_cmpR op_eq (pe_op op_mod (pv 2) pe_int) pe_int (nomark _)) (pss_one (ps_ret (pe_lst (pa_cons (pe_op op_fdiv (pv 2) pe_int) pa_nil)))) pss_nil)
      (pss_cons (ps_set (i := 3) scBox4.nd rfl (Or.inl rfl) pe_int)
      (pss_cons (ps_for PassesOwn.never rfl (pi_range1 rfl z_range (pa_cons pe_int pa_nil)) (pg_name (i := 4) scBox4.nd rfl (Or.inl rfl)) (pss_cons (ps_set (i := 5) scBox4.nd rfl (Or.inl rfl) (pe_op op_mod (pe_op op_add (pe_op op_add (pe_op op_mul (pe_op op_mod (pv 2) pe_int) pe_int) (pe_op op_mul pe_int (pv 4))) pe_int) pe_int))
      (pss_cons (ps_set (i := 5) scBox4.nd rfl (Or.inl rfl) (pe_op op_mod (pe_op op_mul (pv 5) (pv 5)) pe_int))
      (pss_one (ps_set (i := 3) scBox4.nd rfl (Or.inl rfl) (pe_op op_add (pe_op op_mul (pv 3) pe_int) (pe_op op_mod (pe_op op_mul (pv 5) (pe_op op_add (pv 5) pe_int)) pe_int)))))))
      (pss_one (ps_ret (pe_lst (pa_cons (pv 3) pa_nil))))))))), ?_⟩
    refine ⟨_, rfl, _, _, rfl, rfl, .inl ⟨by decide, by decide⟩, _, _, rfl, rfl, ?_⟩
    refine ⟨_, rfl, _, rfl, a, _, rfl, .inl hS, _, _, rfl, rfl, _, rfl, ?_⟩
    refine ite2 (fun h1 => ?_) (fun _ => ?_)
    · obtain ⟨z, hz⟩ := int_at (ns := ns) (k := k) h0 (by have := of_decide_eq_true h1; exact this)
      refine ⟨_, rfl, _, rfl, a, _, _, _, rfl, rfl, hS, hz, ?_⟩
      refine ⟨_, rfl, _, _, rfl, rfl, (by show (0 : Int) < 2; decide), rfl, _, rfl, ?_⟩
      refine ite2 (fun _ => ?_) (fun _ => ?_)
      · refine ⟨_, rfl, _, _, rfl, rfl, ⟨by decide, by decide⟩, by show 1 ≤ sizeLine; decide, fun p hp => ?_⟩
        exact q p _ _ hp upd_same (Same.upd hp)
      · refine ⟨16, rfl, by decide, by decide, for_range (n := 16) (fun i σ H' => ∃ (n : Int) (w4 w5 : Option V), σ = [some (.ref a), some (.int k), some (.int z), some (.int n), w4, w5] ∧ H' = H) ⟨0, none, none, rfl, rfl⟩ ?_ ?_⟩
        · rintro i σ H' hi ⟨n, w4, w5, rfl, rfl⟩
          have hc0 := Int.emod_nonneg z (show (2147483647 : Int) ≠ 0 by decide)
          have hc1 := Int.emod_lt_of_pos z (show (0 : Int) < 2147483647 by decide)
          refine ⟨_, rfl, _, _, rfl, rfl, (by show (0 : Int) < 2147483647; decide), _, _, rfl, rfl, .inl ⟨by omega, by omega⟩, _, rfl, _, _, rfl, rfl, .inl ⟨by decide, by decide⟩, _, _, rfl, rfl, _, _, rfl, rfl, _, _, rfl, rfl, (by show (0 : Int) < 2147483647; decide), ?_⟩
          generalize (z % 2147483647 * 48271 + 7919 * (0 + (i : Int)) + 1) = z
          have z0 := Int.emod_nonneg z (show (2147483647 : Int) ≠ 0 by decide)
          have z1 := Int.emod_lt_of_pos z (show (0 : Int) < 2147483647 by decide)
          generalize z % 2147483647 = y at z0 z1
          refine ⟨_, rfl, _, rfl, _, _, rfl, rfl, .inl ⟨by omega, by omega⟩, _, _, rfl, rfl, (by show (0 : Int) < 2147483629; decide), ?_⟩
          have y0 := Int.emod_nonneg (y * y) (show (2147483629 : Int) ≠ 0 by decide)
          have y1 := Int.emod_lt_of_pos (y * y) (show (0 : Int) < 2147483629 by decide)
          generalize y * y % 2147483629 = v at y0 y1
          refine ⟨_, rfl, _, _, rfl, rfl, .inr ⟨by decide, by decide⟩, _, rfl, _, rfl, _, _, rfl, rfl, _, _, rfl, rfl, .inl ⟨by omega, by omega⟩, _, _, rfl, rfl, (by show (0 : Int) < 2147483647; decide), _, _, rfl, rfl, ?_⟩
          exact ⟨_, _, _, rfl, rfl⟩
        · rintro σ H' ⟨n, w4, w5, rfl, rfl⟩
          exact ⟨_, rfl, by show 1 ≤ sizeLine; decide, fun p hp => q p n _ hp upd_same (Same.upd hp)⟩
    · refine ⟨_, rfl, _, _, rfl, rfl, (by show (0 : Int) < 2; decide), rfl, _, rfl, ?_⟩
      refine ite2 (fun _ => ?_) (fun _ => ?_)
      · refine ⟨_, rfl, _, _, rfl, rfl, ⟨by decide, by decide⟩, by show 1 ≤ sizeLine; decide, fun p hp => ?_⟩
        exact q p _ _ hp upd_same (Same.upd hp)
      · refine ⟨16, rfl, by decide, by decide, for_range (n := 16) (fun i σ H' => ∃ (n : Int) (w4 w5 : Option V), σ = [some (.ref a), some (.int k), some (.int (7919 * k + 13)), some (.int n), w4, w5] ∧ H' = H) ⟨0, none, none, rfl, rfl⟩ ?_ ?_⟩
        · rintro i σ H' hi ⟨n, w4, w5, rfl, rfl⟩
          have hc0 := Int.emod_nonneg (7919 * k + 13) (show (2147483647 : Int) ≠ 0 by decide)
          have hc1 := Int.emod_lt_of_pos (7919 * k + 13) (show (0 : Int) < 2147483647 by decide)
          refine ⟨_, rfl, _, _, rfl, rfl, (by show (0 : Int) < 2147483647; decide), _, _, rfl, rfl, .inl ⟨by omega, by omega⟩, _, rfl, _, _, rfl, rfl, .inl ⟨by decide, by decide⟩, _, _, rfl, rfl, _, _, rfl, rfl, _, _, rfl, rfl, (by show (0 : Int) < 2147483647; decide), ?_⟩
          generalize ((7919 * k + 13) % 2147483647 * 48271 + 7919 * (0 + (i : Int)) + 1) = z
          have z0 := Int.emod_nonneg z (show (2147483647 : Int) ≠ 0 by decide)
          have z1 := Int.emod_lt_of_pos z (show (0 : Int) < 2147483647 by decide)
          generalize z % 2147483647 = y at z0 z1
          refine ⟨_, rfl, _, rfl, _, _, rfl, rfl, .inl ⟨by omega, by omega⟩, _, _, rfl, rfl, (by show (0 : Int) < 2147483629; decide), ?_⟩
          have y0 := Int.emod_nonneg (y * y) (show (2147483629 : Int) ≠ 0 by decide)
          have y1 := Int.emod_lt_of_pos (y * y) (show (0 : Int) < 2147483629 by decide)
          generalize y * y % 2147483629 = v at y0 y1
          refine ⟨_, rfl, _, _, rfl, rfl, .inr ⟨by decide, by decide⟩, _, rfl, _, rfl, _, _, rfl, rfl, _, _, rfl, rfl, .inl ⟨by omega, by omega⟩, _, _, rfl, rfl, (by show (0 : Int) < 2147483647; decide), _, _, rfl, rfl, ?_⟩
          exact ⟨_, _, _, rfl, rfl⟩
        · rintro σ H' ⟨n, w4, w5, rfl, rfl⟩
          exact ⟨_, rfl, by show 1 ≤ sizeLine; decide, fun p hp => q p n _ hp upd_same (Same.upd hp)⟩
end
end Mr

namespace Mr
open PySem L2
section
variable {P : Program} {w : World} {K : PySem.W.Frag} {mg : Str → Option Value} {base : Heap}
theorem scRow4 : FnScope ["_law_box_here", "_law_most", "_law_letters", "_law_row_here", "_law_k", "_law_mode"] ["_law_box_here", "_law_most"] (defScope sRow) := ⟨rfl, rfl, rfl, by decide +kernel, rfl, by decide +kernel, by decide +kernel⟩
set_option maxHeartbeats 8000000 in
theorem ok_row4 (a : At K mg "_law_row" sRow ["_law_box_here", "_law_most"]) (d_law_take : Df P w K mg base 1 "_law_take" ["_law_box_here", "_law_many"] spTakeI) (z_len : mg "len" = none) (z_range : mg "range" = none) : Df P w K mg base 3 "_law_row" ["_law_box_here", "_law_most"] spRowI := by
  refine a.df fun f fd F => ?_
  refine F.ok scRow4 (fun vs H Q E h => ?_) (fun cdv A outer s H vs Q E hr h => ?_)
  · obtain ⟨_, _, _, rfl, _⟩ := h
    rfl
  · obtain ⟨b, n, most, rfl, hb, hm0, hm1, q⟩ := h
    refine ⟨_, (@pss_cons _ _ _ _ _ (@ps_set _ _ 2 _ _ _ _ scRow4.nd rfl (Or.inl rfl) (pe_slice sl_strS pe_str po_none (po_some (@pe_op _ _ _ _ _ _ _ _ op_add pe_int (pe_df d_law_take hr rfl (pa_cons (pv 0) (pa_cons pe_int pa_nil)))))) rfl (Or.inl rfl))
      (@pss_cons _ _ _ _ _ (@ps_set _ _ 3 _ _ _ _ scRow4.nd rfl (Or.inl rfl) pe_str rfl (Or.inl rfl))
      (@pss_cons _ _ _ _ _ (ps_for PassesOwn.never rfl (pi_range1 rfl z_range (pa_cons (pe_df d_law_take hr rfl (pa_cons (pv 0) (pa_cons (@pe_op _ _ _ _ _ _ _ _ op_add (pv 1) pe_int) pa_nil))) pa_nil)) (pg_name (i := 4) scRow4.nd rfl (Or.inl rfl)) (@pss_one _ _ _ (@ps_set _ _ 3 _ _ _ _ scRow4.nd rfl (Or.inl rfl) (@pe_op _ _ _ _ _ _ _ _ op_addS (pv 3) (@pe_ix _ _ _ _ _ _ _ ix_strS (pv 2) (pe_df d_law_take hr rfl (pa_cons (pv 0) (pa_cons (pe_callB call_len_str (by rfl) z_len bt_len (pa_cons (pv 2) pa_nil)) pa_nil))) (fun _ _ => rfl))) rfl (Or.inl rfl))))
      (@pss_cons _ _ _ _ _ (@ps_set _ _ 5 _ _ _ _ scRow4.nd rfl (Or.inl rfl) (pe_df d_law_take hr rfl (pa_cons (pv 0) (pa_cons pe_int pa_nil))) rfl (Or.inl rfl))
      (@pss_cons _ _ _ _ _ (@ps_if _ _ _ _ _ _ _ _ (pt_cmpR op_eq (pv 5) pe_int (nomark _)) (@pss_one _ _ _ (@ps_set _ _ 3 _ _ _ _ scRow4.nd rfl (Or.inl rfl) (pe_slice sl_strS (@pe_op _ _ _ _ _ _ _ _ op_addS (pv 3) (pe_rev (pv 3) (pe_un un_neg pe_int))) po_none (po_some (pv 1))) rfl (Or.inl rfl))) pss_nil)
      (@pss_cons _ _ _ _ _ (@ps_if _ _ _ _ _ _ _ _ (pt_cmpR op_eq (pv 5) pe_int (nomark _)) (@pss_one _ _ _ (@ps_set _ _ 3 _ _ _ _ scRow4.nd rfl (Or.inl rfl) (pe_slice sl_strS (@pe_op _ _ _ _ _ _ _ _ op_addS (pv 3) (pe_slice sl_strS (pe_rev (pv 3) (pe_un un_neg pe_int)) (po_some pe_int) po_none)) po_none (po_some (pv 1))) rfl (Or.inl rfl))) pss_nil)
      (@pss_one _ _ _ (@ps_ret _ _ _ _ (pv 3))))))))), ?_⟩
    refine ⟨_, rfl, b, n, 4, rfl, hb, by decide, by decide, fun d1 n1 H1 hd1 hd1' hb1 k1 => ⟨_, _, rfl, rfl, _, rfl, [97, 98, 99, 122], congrArg V.str e_abcz, by decide, ?_⟩⟩
    obtain ⟨d, rfl⟩ := Int.eq_ofNat_of_zero_le hd1
    have ed : (1 : Int) + (d : Int) = ((1 + d : Nat) : Int) := by omega
    rw [ed, cut_to]
    have hA : Abcz (([97, 98, 99, 122] : List Nat).take (1 + d)) := fun c h => by
      have := List.mem_of_mem_take h
      simpa using this
    have hl0 : 0 < (([97, 98, 99, 122] : List Nat).take (1 + d)).length := by rw [List.length_take]; show 0 < min _ 4; omega
    have hl1 : (([97, 98, 99, 122] : List Nat).take (1 + d)).length ≤ 4 := by rw [List.length_take]; show min _ 4 ≤ 4; omega
    generalize ([97, 98, 99, 122] : List Nat).take (1 + d) = lt at hA hl0 hl1
    refine ⟨_, rfl, _, rfl, _, _, rfl, rfl, b, n1, most + 1, rfl, hb1, by omega, by omega, fun d2 n2 H2 hd2 hd2' hb2 k2 => ?_⟩
    obtain ⟨many, rfl⟩ := Int.eq_ofNat_of_zero_le hd2
    refine ⟨_, rfl, by omega, by omega, ?_⟩
    have e0 : ((many : Int)).toNat = many := by omega
    rw [e0]
    refine for_range (fun i σ H' => ∃ (cs : List Nat) (n' : Int) (w4 : Option V), σ = [some (.ref b), some (.int most), some (.str (tx lt)), some (.str (tx cs)), w4, none] ∧ Abcz cs ∧ cs.length = i ∧ H' b = some (.lst [.int n']) ∧ But b H H') ⟨[], n2, none, (by rw [← e_nil]; rfl), Abcz.nil, rfl, hb2, k1.trans k2⟩ ?_ ?_
    · rintro i σ H3 hi ⟨cs, n3, w4, rfl, hc, hcl, hb3, k3⟩
      refine ⟨_, rfl, _, rfl, _, rfl, _, rfl, tx lt, rfl, (by rw [tx_len, sizeLine_eq]; omega), b, n3, _, rfl, hb3, (by rw [tx_len]; omega), (by rw [tx_len]; omega), fun d3 n4 H4 hd3 hd3' hb4 k4 => ?_⟩
      rw [tx_len] at hd3'
      obtain ⟨c, hc1, hc2⟩ := at_ofInt (xs := lt) hd3 hd3'
      refine ⟨lt, _, c, rfl, rfl, (by rw [sizeLine_eq]; omega), hc1, cs, [c], rfl, rfl, (by rw [sizeLine_eq]; show _ + 1 ≤ _; omega), ?_⟩
      refine ⟨cs ++ [c], n4, _, rfl, hc.app fun z hz => ?_, by simp; omega, hb4, k3.trans k4⟩
      have e : z = c := by simpa using hz
      subst e
      exact hA z hc2
    · rintro σ H3 ⟨cs, n3, w4, rfl, hc, hcl, hb3, k3⟩
      refine ⟨_, rfl, b, n3, 4, rfl, hb3, by decide, by decide, fun d4 n4 H4 _ _ hb4 k4 => ?_⟩
      have k4' := k3.trans k4
      have hcm : (cs.length : Int) ≤ most := by omega
      refine ⟨_, rfl, rfl, _, rfl, ite2 (fun _ => ?_) (fun _ => ?_)⟩
      · refine ⟨_, rfl, _, rfl, _, rfl, cs, rfl, rfl, (by rw [sizeLine_eq]; omega), cs, _, rfl, rfl, (by rw [List.length_reverse, sizeLine_eq]; omega), _, rfl, _, rfl, _, rfl, (by rw [List.length_append, List.length_reverse, sizeLine_eq]; omega), ?_⟩
        have hA2 : Abcz (cutL (cs ++ cs.reverse) none (some most)) := (hc.app hc.rev).cut _ _
        have hl2 : ((cutL (cs ++ cs.reverse) none (some most)).length : Int) ≤ most := by
          obtain ⟨mo, rfl⟩ := Int.eq_ofNat_of_zero_le hm0
          rw [cut_to, List.length_take]; omega
        generalize cutL (cs ++ cs.reverse) none (some most) = ms at hA2 hl2
        refine ⟨_, rfl, rfl, _, rfl, ite2 (fun _ => ?_) (fun _ => ?_)⟩
        · refine ⟨_, rfl, _, rfl, _, rfl, ms, rfl, rfl, (by rw [sizeLine_eq]; omega), _, rfl, ms.reverse, rfl, (by rw [List.length_reverse, sizeLine_eq]; omega), ms, _, rfl, rfl, ?_, _, rfl, _, rfl, _, rfl, ?_, ?_⟩
          · have := cut_le ms.reverse (some 1) none
            rw [List.length_reverse] at this
            rw [sizeLine_eq]; omega
          · have := cut_le ms.reverse (some 1) none
            rw [List.length_reverse] at this
            rw [List.length_append, sizeLine_eq]; omega
          · obtain ⟨mo, rfl⟩ := Int.eq_ofNat_of_zero_le hm0
            refine ⟨_, rfl, ?_⟩
            rw [cut_to]
            refine q _ n4 H4 ((hA2.app (hA2.rev.cut _ _)).take _) ?_ hb4 k4'
            rw [List.length_take]; omega
        · exact ⟨_, rfl, q _ n4 H4 hA2 hl2 hb4 k4'⟩
      · refine ⟨_, rfl, rfl, _, rfl, ite2 (fun _ => ?_) (fun _ => ?_)⟩
        · refine ⟨_, rfl, _, rfl, _, rfl, cs, rfl, rfl, (by rw [sizeLine_eq]; omega), _, rfl, cs.reverse, rfl, (by rw [List.length_reverse, sizeLine_eq]; omega), cs, _, rfl, rfl, ?_, _, rfl, _, rfl, _, rfl, ?_, ?_⟩
          · have := cut_le cs.reverse (some 1) none
            rw [List.length_reverse] at this
            rw [sizeLine_eq]; omega
          · have := cut_le cs.reverse (some 1) none
            rw [List.length_reverse] at this
            rw [List.length_append, sizeLine_eq]; omega
          · obtain ⟨mo, rfl⟩ := Int.eq_ofNat_of_zero_le hm0
            refine ⟨_, rfl, ?_⟩
            rw [cut_to]
            refine q _ n4 H4 ((hc.app (hc.rev.cut _ _)).take _) ?_ hb4 k4'
            rw [List.length_take]; omega
        · exact ⟨_, rfl, q _ n4 H4 hc hcm hb4 k4'⟩
end
end Mr

namespace Mr
open PySem L2
section
variable {P : Program} {w : World} {K : PySem.W.Frag} {mg : Str → Option Value} {base : Heap}
theorem scEO : FnScope ["lengths"] ["lengths"] (defScope s_even_ones) := ⟨rfl, rfl, rfl, by decide +kernel, rfl, by decide +kernel, by decide +kernel⟩
set_option maxHeartbeats 4000000 in
theorem ok_even_ones (a : At K mg "even_ones" s_even_ones ["lengths"])  : Df P w K mg base 1 "even_ones" ["lengths"] spEv := by
  refine a.df fun f fd F => ?_
  refine F.ok scEO (fun vs H Q E h => ?_) (fun cdv A outer s H vs Q E hr h => ?_)
  · obtain ⟨_, _, rfl, _⟩ := h
    rfl
  · obtain ⟨p, L, rfl, hp, hL, q⟩ := h
    refine ⟨_, (pss_one (ps_ret (pe_comp (ys := []) (ix := []) ⟨rfl, by decide +kernel, rfl, by decide +kernel, rfl, by decide +kernel, trivial, rfl, trivial⟩ rfl (pi_list (pv 0)) (fun C fp s H => (pts_one (pt_cmpR op_eq (pe_op op_mod (pv 0) pe_int) pe_int (nomark _)))) (fun C fp s H => (pv 0))))), ?_⟩
    refine ⟨_, rfl, p, rfl, ⟨_, SqL.of hp⟩, comp_list (K := K) (a := p) (xs := lensV L) (by rw [lensV_len, sizeLine_eq]; omega) (fun j ys H' => H' = H ∧ ys = lensV (evF (L.take j))) ⟨rfl, rfl⟩ (fun j ys H' ⟨e, _⟩ => by rw [e]; exact SqL.of hp) ?_ ?_⟩
    · rintro j x ys H' N hx hy ⟨rfl, rfl⟩ hN
      obtain ⟨k, hk, rfl⟩ := lensV_at hx
      have e : evF (L.take (j + 1)) = evF (L.take j) ++ (if k % 2 = 0 then [k] else []) := by
        unfold evF
        rw [List.take_succ, hk, List.filter_append]
        congr 1
        show List.filter _ [k] = _
        rw [List.filter_cons]
        by_cases h : k % 2 = 0
        · rw [if_pos (decide_eq_true h), if_pos h]; rfl
        · rw [if_neg (by rw [decide_eq_false h]; decide), if_neg h]; rfl
      refine ⟨_, rfl, _, _, rfl, rfl, (by show (0 : Int) < 2; decide), rfl, _, rfl, ?_⟩
      by_cases h : k % 2 = 0
      · rw [decide_eq_true (show V.int ((k : Int) % 2) = V.int 0 from congrArg V.int (by omega))]
        refine iteT ⟨_, rfl, hN _ _ (by rw [List.length_append]; simp at hy ⊢; try omega) ⟨rfl, ?_⟩⟩
        rw [e, if_pos h, lensV_app]; rfl
      · rw [decide_eq_false (show ¬ V.int ((k : Int) % 2) = V.int 0 from fun z => by injection z with z; omega)]
        refine iteF (hN _ _ (by omega) ⟨rfl, ?_⟩)
        rw [e, if_neg h, List.append_nil]
    · rintro ys H' hy ⟨rfl, rfl⟩ p' hp'
      rw [lensV_len, List.take_of_length_le (Nat.le_refl _)]
      exact q p' _ hp' upd_same (Same.upd hp')
end
end Mr

namespace Mr
open PySem L2
section
variable {P : Program} {w : World} {K : PySem.W.Frag} {mg : Str → Option Value} {base : Heap}
theorem scFE : FnScope ["row"] ["row"] (defScope s_fewest_even_by_place) := ⟨rfl, rfl, rfl, by decide +kernel, rfl, by decide +kernel, by decide +kernel⟩
set_option maxHeartbeats 4000000 in
theorem ok_febp (a : At K mg "fewest_even_by_place" s_fewest_even_by_place ["row"]) (d_fewest_by_place : Df P w K mg base 1 "fewest_by_place" ["lengths"] spFBP) (d_ends_by_place : Df P w K mg base 4 "ends_by_place" ["row"] spEBP) (d_even_ones : Df P w K mg base 1 "even_ones" ["lengths"] spEv)  : Df P w K mg base 5 "fewest_even_by_place" ["row"] spEvFew := by
  refine a.df fun f fd F => ?_
  refine F.ok scFE (fun vs H Q E h => ?_) (fun cdv A outer s H vs Q E hr h => ?_)
  · obtain ⟨_, rfl, _⟩ := h
    rfl
  · obtain ⟨l, rfl, hrow, q⟩ := h
    have hlen := (rowL_iff.mp hrow).1
    refine ⟨_, (pss_one (ps_ret (pe_df d_fewest_by_place hr rfl (pa_cons (pe_comp (ys := []) (ix := []) ⟨rfl, by decide +kernel, rfl, by decide +kernel, rfl, by decide +kernel, trivial, rfl, trivial⟩ rfl (pi_list (pe_df d_ends_by_place hr rfl (pa_cons (pv 0) pa_nil))) (fun C fp s H => pts_nil) (fun C fp s H => (pe_df (X := cmpCx _ _ _ _ C fp s H) d_even_ones hr rfl (pa_cons (pv 0) pa_nil)))) pa_nil)))), ?_⟩
    refine ⟨_, rfl, l, rfl, hrow, fun pr xs H1 hfr hpr hL s1 => ?_⟩
    have hxl : xs.length = l.length + 1 := by rw [hL.1, endsAt_len]
    refine ⟨pr, rfl, ⟨_, SqL.of hpr⟩, comp_list (K := K) (a := pr) (xs := xs) (by rw [hxl, sizeLine_eq]; omega) (fun j ys H' => LenV H' ys ((evAt l).take j) ∧ Same H1 H') ⟨ReV.nil, Same.refl _⟩ (fun j ys H' ⟨_, s⟩ => SqL.of (s _ _ hpr)) ?_ ?_⟩
    · rintro j x ys H2 N hx hy ⟨hY, s2⟩ hN
      have hj : j ≤ l.length := by have := (List.getElem?_eq_some_iff.mp hx).1; omega
      obtain ⟨p, rfl, hp⟩ := hL.2 j x _ hx (endsAt_get hj)
      have hc := ends_count (l.take j)
      rw [List.length_take] at hc
      refine yes_ok (iteT ⟨_, rfl, p, endsN (l.take j), rfl, s2 _ _ hp, by omega, fun p3 H3 hf3 hp3 s3 => hN _ _ (by rw [List.length_append]; simp; try omega) ⟨?_, s2.trans s3⟩⟩)
      rw [List.take_succ, evAt_get hj]
      exact ReV.push (hY.mono fun p e h => s3 _ _ h) hp3
    · rintro ys H2 hy ⟨hY, s2⟩ p hp
      rw [List.take_of_length_le (by rw [evAt_len]; omega)] at hY
      refine ⟨p, ys, evAt l, rfl, upd_same, hY.mono fun p' e h => (Same.upd hp) _ _ h, (by rw [evAt_len]; omega), (by rw [evAt_len]; omega), fits_ev l, ev_len l hlen, fun p4 H4 hf4 hp4 s4 => ?_⟩
      rw [evAt_len, show l.length + 1 - 1 = l.length by omega] at hp4
      have t4 := s1.trans (s2.trans (Same.upd (o := .lst ys) hp))
      exact q p4 H4 (t4.free hf4) hp4 (t4.trans s4)
end
end Mr

namespace Mr
open PySem L2
section
variable {P : Program} {w : World} {K : PySem.W.Frag} {mg : Str → Option Value} {base : Heap}
theorem scEE : FnScope ["row"] ["row"] (defScope s_even_ends) := ⟨rfl, rfl, rfl, by decide +kernel, rfl, by decide +kernel, by decide +kernel⟩
set_option maxHeartbeats 4000000 in
theorem ok_even_ends (a : At K mg "even_ends" s_even_ends ["row"]) (d_fewest_even_by_place : Df P w K mg base 5 "fewest_even_by_place" ["row"] spEvFew) (z_enumerate : mg "enumerate" = none) : Df P w K mg base 6 "even_ends" ["row"] (spLens evPlaces) := by
  refine a.df fun f fd F => ?_
  refine F.ok scEE (fun vs H Q E h => ?_) (fun cdv A outer s H vs Q E hr h => ?_)
  · obtain ⟨_, rfl, _⟩ := h
    rfl
  · obtain ⟨l, rfl, hrow, q⟩ := h
    have hlen := (rowL_iff.mp hrow).1
    refine ⟨_, (pss_one (ps_ret (pe_compL (xs := ["behind", "least"]) (ys := []) (ix := []) ⟨rfl, by decide +kernel, rfl, by decide +kernel, by decide +kernel, trivial, rfl, trivial⟩ rfl (pi_enum rfl z_enumerate (pa_cons (pe_df d_fewest_even_by_place hr rfl (pa_cons (pv 0) pa_nil)) pa_nil)) (fun C fp s H => pg_tup rfl (pgs_cons (pg_name (i := 0) (show List.Nodup ((["behind", "least"] : List Str) ++ ([] : List Str)) by decide +kernel) rfl (Or.inl rfl)) (pgs_cons (pg_name (i := 1) (show List.Nodup ((["behind", "least"] : List Str) ++ ([] : List Str)) by decide +kernel) rfl (Or.inl rfl)) pgs_nil))) gs2 (fun C fp s H => (pts_one (pt_cmpR op_notN (pv 1) pe_non (nomark _)))) (fun C fp s H => (pv 0))))), ?_⟩
    refine ⟨_, rfl, l, rfl, hrow, fun pe H1 hfr hpe s1 => ⟨pe, _, rfl, hpe, comp_enum (K := K) (a := pe) (xs := fewV (evFew l)) (by rw [fewV_len, evFew_len, sizeLine_eq]; omega) (fun j ys H' => ys = lensV (evPl l j) ∧ Same H1 H') ⟨rfl, Same.refl _⟩ (fun j ys H' ⟨_, s⟩ => s _ _ hpe) ?_ ?_⟩⟩
    · rintro j x ys H2 N U hx hy ⟨rfl, s2⟩ hU hN
      have hj : j ≤ l.length := by have := (List.getElem?_eq_some_iff.mp hx).1; rw [fewV_len, evFew_len] at this; omega
      rw [fewV_get (evFew_get hj)] at hx
      have hx := Option.some.inj hx
      subst hx
      have s3 : Same H1 (upd H2 U (.tup [.int (j : Int), optV (evN l j)])) := s2.trans (Same.upd hU)
      refine ⟨_, rfl, rfl, _, rfl, ?_⟩
      have hst := evPl_succ l j
      cases e : evN l j with
      | none =>
        rw [show (!decide (optV (none : Option Nat) = V.non)) = false by simp [optV]]
        rw [e] at hst s3
        exact iteF (hN _ _ (by omega) ⟨by rw [hst]; simp, s3⟩)
      | some m =>
        rw [show (!decide (optV (some m) = V.non)) = true by simp [optV]]
        rw [e] at hst s3
        refine iteT ⟨_, rfl, hN _ _ (by rw [List.length_append]; simp at hy ⊢; try omega) ⟨?_, s3⟩⟩
        rw [hst, if_pos (show (some m).isSome = true from rfl), lensV_app]; rfl
    · rintro ys H2 hy ⟨rfl, s2⟩ p hp
      rw [fewV_len, evFew_len]
      have t2 := s1.trans s2
      exact q p _ (t2.free hp) upd_same (t2.trans (Same.upd hp))
end
end Mr

namespace Mr
open PySem L2
section
variable {P : Program} {w : World} {K : PySem.W.Frag} {mg : Str → Option Value} {base : Heap}
theorem scFv : FnScope ["row"] ["row"] (defScope s_fewest_even) := ⟨rfl, rfl, rfl, by decide +kernel, rfl, by decide +kernel, by decide +kernel⟩
theorem ok_fewest_even (a : At K mg "fewest_even" s_fewest_even ["row"]) (d_fewest_even_by_place : Df P w K mg base 5 "fewest_even_by_place" ["row"] spEvFew)  : Df P w K mg base 6 "fewest_even" ["row"] spFewEven := by
  refine a.df fun f fd F => ?_
  refine F.ok scFv (fun vs H Q E h => ?_) (fun cdv A outer s H vs Q E hr h => ?_)
  · obtain ⟨_, rfl, _⟩ := h
    rfl
  · obtain ⟨l, rfl, hrow, q⟩ := h
    refine ⟨_, (pss_one (ps_ret (pe_ix ix_list (pe_df d_fewest_even_by_place hr rfl (pa_cons (pv 0) pa_nil)) (pe_un un_neg pe_int) (fun _ _ => rfl)))), ?_⟩
    refine ⟨_, rfl, l, rfl, hrow, fun p H1 hf hp s1 => ⟨_, rfl, p, _, _, optV (evN l l.length), rfl, rfl, SqL.of hp, ?_, q H1 s1⟩⟩
    have := atI_neg (xs := fewV (evFew l)) (d := 1) (Nat.le_refl _) (by rw [fewV_len, evFew_len]; omega)
    rw [fewV_len, evFew_len, show l.length + 1 - 1 = l.length by omega, fewV_get (evFew_get (Nat.le_refl _))] at this
    exact this
end
end Mr

namespace Mr
open PySem L2
section
variable {P : Program} {w : World} {K : PySem.W.Frag} {mg : Str → Option Value} {base : Heap}
theorem scFe : FnScope ["row"] ["row"] (defScope s_fewest) := ⟨rfl, rfl, rfl, by decide +kernel, rfl, by decide +kernel, by decide +kernel⟩
theorem ok_fewest (a : At K mg "fewest" s_fewest ["row"]) (d_bounds : Df P w K mg base 5 "bounds" ["row"] (spLens boundsN))  : Df P w K mg base 6 "fewest" ["row"] spFewest := by
  refine a.df fun f fd F => ?_
  refine F.ok scFe (fun vs H Q E h => ?_) (fun cdv A outer s H vs Q E hr h => ?_)
  · obtain ⟨_, rfl, _⟩ := h
    rfl
  · obtain ⟨l, rfl, hrow, q⟩ := h
    refine ⟨_, (pss_one (ps_ret (pe_ix ix_list (pe_df d_bounds hr rfl (pa_cons (pv 0) pa_nil)) (pe_un un_neg pe_int) (fun _ _ => rfl)))), ?_⟩
    refine ⟨_, rfl, l, rfl, hrow, fun p H1 hf hp s1 => ⟨_, rfl, p, _, _, V.int ((fewI l l.length : Nat) : Int), rfl, rfl, SqL.of hp, atI_last' ?_, q H1 s1⟩⟩
    unfold lensV
    rw [List.getLast?_map, bounds_last]; rfl
end
end Mr

namespace Mr
open PySem L2
section
variable {P : Program} {w : World} {K : PySem.W.Frag} {mg : Str → Option Value} {base : Heap}
theorem scLaw : FnScope ["_law_script", "_law_k", "_law_box_here", "_law_row_here", "_law_other", "_law_both", "_law_some", "_law_few", "_law_spots"] ["_law_script"] (defScope sLaw) := ⟨rfl, rfl, rfl, by decide +kernel, rfl, by decide +kernel, by decide +kernel⟩
set_option maxHeartbeats 8000000 in
theorem ok_law {f : Addr} {fd : FuncData} (F : Fun K "law" "law" sLaw f fd) (d_law_row : Df P w K mg base 3 "_law_row" ["_law_box_here", "_law_most"] spRowI) (d_law_box : Df P w K mg base 2 "_law_box" ["_law_script", "_law_k"] (spBoxI K)) (d_fewest_even : Df P w K mg base 6 "fewest_even" ["row"] spFewEven) (d_even_ends : Df P w K mg base 6 "even_ends" ["row"] (spLens evPlaces)) (d_fewest : Df P w K mg base 6 "fewest" ["row"] spFewest) (z_int : mg "int" = none) (z_len : mg "len" = none) (z_max : mg "max" = none) (z_min : mg "min" = none) (z_range : mg "range" = none) (z_set : mg "set" = none) (z_sorted : mg "sorted" = none)  : FnOk P w K mg base CX0 9 f fd ["_law_script"] (spLaw K) := by
  refine F.ok scLaw (fun vs H Q E h => ?_) (fun cdv A outer s H vs Q E hr h => ?_)
  · obtain ⟨_, _, rfl, _⟩ := h
    rfl
  · obtain ⟨a, ns, rfl, hS, hlen, q⟩ := h
    refine ⟨_, (@pss_cons _ _ _ _ _ (ps_for PassesOwn.never rfl (pi_range1 rfl z_range (pa_cons (pe_callB (call_max2 rfl) (by rfl) z_max bt_max (pa_cons pe_int (pa_cons (pe_callB (call_min2 rfl) (by rfl) z_min bt_min (pa_cons (pe_callB call_len_seq (by rfl) z_len bt_len (pa_cons (pv 0) pa_nil)) (pa_cons pe_int pa_nil))) pa_nil))) pa_nil)) (pg_name (i := 1) scLaw.nd rfl (Or.inl rfl)) (@pss_cons _ _ _ _ _ (@ps_set _ _ 2 _ _ _ _ scLaw.nd rfl (Or.inl rfl) (pe_df d_law_box hr rfl (pa_cons (pv 0) (pa_cons (pv 1) pa_nil))) rfl (Or.inl rfl))
      (@pss_cons _ _ _ _ _ (@ps_set _ _ 3 _ _ _ _ scLaw.nd rfl (Or.inl rfl) (PEt.pe (pe_repT (pe_repT (pe_dfT d_law_row hr rfl (pat_cons (pv 2) (pat_int pa_nil)))))) rfl (Or.inl rfl))
      (@pss_cons _ _ _ _ _ (@ps_set _ _ 4 _ _ _ _ scLaw.nd rfl (Or.inl rfl) (PEt.pe (pe_repT (pe_repT (pe_dfT d_law_row hr rfl (pat_cons (pv 2) (pat_int pa_nil)))))) rfl (Or.inl rfl))
      (@pss_cons _ _ _ _ _ (@ps_set _ _ 5 _ _ _ _ scLaw.nd rfl (Or.inl rfl) (@pe_op _ _ _ _ _ _ _ _ op_addS (pv 4) (pe_rev (pv 4) (pe_un un_neg pe_int))) rfl (Or.inl rfl))
      (@pss_cons _ _ _ _ _ (ps_for PassesOwn.never rfl (pi_list (@pe_lst _ _ _ _ (@pa_name _ _ _ _ _ _  (pv 3) (@pa_name _ _ _ _ _ _  (pv 5) (@pa_op _ _ _ _ _ _ _ _  (@pe_op _ _ _ _ _ _ _ _ op_addS (pv 3) (pe_rev (pv 3) (pe_un un_neg pe_int))) (@pa_op _ _ _ _ _ _ _ _  (@pe_op _ _ _ _ _ _ _ _ op_addS (pv 5) (pv 3)) (@pa_op _ _ _ _ _ _ _ _  (@pe_op _ _ _ _ _ _ _ _ op_addS (pv 3) (pv 5)) pa_nil))))))) (pg_name (i := 6) scLaw.nd rfl (Or.inl rfl)) (@pss_cons _ _ _ _ _ (@ps_set _ _ 7 _ _ _ _ scLaw.nd rfl (Or.inl rfl) (pe_df d_fewest_even hr rfl (pa_cons (pv 6) pa_nil)) rfl (Or.inl rfl))
      (@pss_cons _ _ _ _ _ (@ps_set _ _ 8 _ _ _ _ scLaw.nd rfl (Or.inl rfl) (pe_df d_even_ends hr rfl (pa_cons (pv 6) pa_nil)) rfl (Or.inl rfl))
      (@pss_cons _ _ _ _ _ (@ps_if _ _ _ _ _ _ _ _ (PW.pt (pw_or (pt_cmpR op_eq (pe_cmpR op_isN (pv 7) pe_non (nomark _)) (pe_cmpR op_in_seq (pe_callB call_len_str (by rfl) z_len bt_len (pa_cons (pv 6) pa_nil)) (pv 8) (by with_unfolding_all rfl)) (nomark _)) (pw_or (pt_cmpR op_ne (@pe_ix _ _ _ _ _ _ _ ix_list (pv 8) pe_int (fun _ _ => rfl)) pe_int (nomark _)) (pw_or1 (pt_cmpR (op_neL hr.units0) (pv 8) (pe_callB (call_sortedQ rfl) (by rfl) z_sorted bt_sorted (pa_cons (pe_callTy (call_setQ2 rfl) (by rfl) z_set bt_set (pa_cons (pv 8) pa_nil)) pa_nil)) (nomark _)))))) (@pss_one _ _ _ (@ps_ret _ _ _ _ pe_bl)) pss_nil)
      (@pss_cons _ _ _ _ _ (@ps_if _ _ _ _ _ _ _ _ (PW.pt (pw_and (pt_cmpR op_notN (pv 7) pe_non (nomark _)) (pw_and1 (PW.pt (pw_or (pt_cmpR op_eq (@pe_op _ _ _ _ _ _ _ _ op_mod (pe_callB call_len_str (by rfl) z_len bt_len (pa_cons (pv 6) pa_nil)) pe_int) pe_int (nomark _)) (pw_or1 (pt_cmpR op_lt (pv 7) (pe_df d_fewest hr rfl (pa_cons (pv 6) pa_nil)) (nomark _)))))))) (@pss_one _ _ _ (@ps_ret _ _ _ _ pe_bl)) pss_nil)
      (@pss_one _ _ _ (@ps_if _ _ _ _ _ _ _ _ (pt_cmpR op_ne (pe_df d_fewest_even hr rfl (pa_cons (pe_rev (pv 6) (pe_un un_neg pe_int)) pa_nil)) (pv 7) (nomark _)) (@pss_one _ _ _ (@ps_ret _ _ _ _ pe_bl)) pss_nil)))))))
      (@pss_cons _ _ _ _ _ (@ps_if _ _ _ _ _ _ _ _ (PW.pt (pw_or (pt_cmpR op_ne (pe_df d_fewest_even hr rfl (pa_cons (@pe_op _ _ _ _ _ _ _ _ op_addS (pv 3) (pe_rev (pv 3) (pe_un un_neg pe_int))) pa_nil)) (pe_callTy call_int1 (by rfl) z_int bt_int (pa_cons (pe_cmpR op_ne (pv 3) pe_str (nomark _)) pa_nil)) (nomark _)) (pw_or1 (pt_cmpR op_notIn_seq (pe_callB call_len_str (by rfl) z_len bt_len (pa_cons (pv 5) pa_nil)) (pe_df d_even_ends hr rfl (pa_cons (@pe_op _ _ _ _ _ _ _ _ op_addS (pv 5) (pv 3)) pa_nil)) (by with_unfolding_all rfl))))) (@pss_one _ _ _ (@ps_ret _ _ _ _ pe_bl)) pss_nil)
      (@pss_one _ _ _ (@ps_if _ _ _ _ _ _ _ _ (PW.pt (pw_and (pt_cmpR op_notN (pe_df d_fewest_even hr rfl (pa_cons (pv 3) pa_nil)) pe_non (nomark _)) (pw_and1 (pt_cmpR op_isN (pe_df d_fewest_even hr rfl (pa_cons (@pe_op _ _ _ _ _ _ _ _ op_addS (pv 3) (pv 5)) pa_nil)) pe_non (nomark _))))) (@pss_one _ _ _ (@ps_ret _ _ _ _ pe_bl)) pss_nil)))))))))
      (@pss_one _ _ _ (@ps_ret _ _ _ _ pe_bl))), ?_⟩
    refine ⟨_, rfl, a, _, rfl, .inl hS, _, _, rfl, _, _, rfl, _, rfl, ?_, ?_, ?_⟩
    · split <;> split <;> omega
    · split <;> split <;> omega
    refine for_range (fun i σ H' => ∃ (v1 v2 v3 v4 v5 v6 v7 v8 : Option V), σ = [some (.ref a), v1, v2, v3, v4, v5, v6, v7, v8] ∧ Same H H') ⟨none, none, none, none, none, none, none, none, rfl, Same.refl _⟩ ?_ ?_
    rotate_left
    · rintro σ H' ⟨v1, v2, v3, v4, v5, v6, v7, v8, rfl, s0⟩
      exact q H'
    rintro i σ H0 hi ⟨v1, v2, v3, v4, v5, v6, v7, v8, rfl, s0⟩
    refine ⟨_, rfl, _, rfl, a, ns, _, rfl, s0.seq hS, by omega, fun b n H1 hfr hb s1 => ?_⟩
    have fr : H b = none := s0.free hfr
    refine ⟨_, rfl, b, n, 12, rfl, hb, by decide, by decide, fun m n2 H2 hA hml hb2 k2 => ?_⟩
    refine ⟨m, 99, 97, rfl, e_c48, e_a, by decide, by omega, subL 99 97 m, 122, 98, rfl, e_z, e_b1, by decide, (by rw [subL_len]; omega), ?_⟩
    have hAr : Abcz (subL 122 98 (subL 99 97 m)) := (hA.subL (.inl rfl)).subL (.inr rfl)
    have hrl : (subL 122 98 (subL 99 97 m)).length ≤ 12 := by rw [subL_len, subL_len]; omega
    generalize subL 122 98 (subL 99 97 m) = r at hAr hrl
    refine ⟨_, rfl, b, n2, 3, rfl, hb2, by decide, by decide, fun m3 n3 H3 hA3 hml3 hb3 k3 => ?_⟩
    refine ⟨m3, 99, 97, rfl, e_c48, e_a, by decide, by omega, subL 99 97 m3, 122, 98, rfl, e_z, e_b1, by decide, (by rw [subL_len]; omega), ?_⟩
    have hAo : Abcz (subL 122 98 (subL 99 97 m3)) := (hA3.subL (.inl rfl)).subL (.inr rfl)
    have hol : (subL 122 98 (subL 99 97 m3)).length ≤ 3 := by rw [subL_len, subL_len]; omega
    generalize subL 122 98 (subL 99 97 m3) = o at hAo hol
    have S3 : Same H H3 := same_but (same_but (s0.trans s1) fr k2) fr k3
    clear k2 k3 hb2 hb3 hA hA3 hml hml3
    have sz : ∀ {k : Nat}, k ≤ 100 → k ≤ sizeLine := fun h => by rw [sizeLine_eq]; omega
    have lrev : ∀ l : List Nat, l.reverse.length = l.length := fun l => List.length_reverse
    refine ⟨_, rfl, _, rfl, _, rfl, o, rfl, rfl, sz (by omega), o, o.reverse, rfl, rfl, sz (by rw [lrev]; omega), ?_⟩
    have hAd := hAo.app hAo.rev
    have hdl : (o ++ o.reverse).length ≤ 6 := by rw [List.length_append, lrev]; omega
    have hAp := ev_app (r := r) (o := o)
    have hLf := ev_left o r
    generalize o ++ o.reverse = d at hAd hdl hAp hLf
    refine ⟨_, rfl, _, rfl, _, rfl, _, rfl, _, rfl, r, rfl, rfl, sz (by omega), r, r.reverse, rfl, rfl, sz (by rw [lrev]; omega), ?_⟩
    refine ⟨_, rfl, _, rfl, d, r, rfl, rfl, sz (by omega), _, rfl, _, rfl, r, d, rfl, rfl, sz (by omega), (by show 5 ≤ sizeLine; decide), fun pt hpt => ?_⟩
    have s4 := Same.upd (o := .lst [V.str (tx r), V.str (tx d), V.str (tx (r ++ r.reverse)), V.str (tx (d ++ r)), V.str (tx (r ++ d))]) hpt
    have f4 : upd H3 pt (.lst [V.str (tx r), V.str (tx d), V.str (tx (r ++ r.reverse)), V.str (tx (d ++ r)), V.str (tx (r ++ d))]) pt = some (.lst [V.str (tx r), V.str (tx d), V.str (tx (r ++ r.reverse)), V.str (tx (d ++ r)), V.str (tx (r ++ d))]) := upd_same
    generalize upd H3 pt (.lst [V.str (tx r), V.str (tx d), V.str (tx (r ++ r.reverse)), V.str (tx (d ++ r)), V.str (tx (r ++ d))]) = H4 at s4 f4
    have all : ∀ y ∈ [V.str (tx r), V.str (tx d), V.str (tx (r ++ r.reverse)), V.str (tx (d ++ r)), V.str (tx (r ++ d))], ∃ l, y = V.str (tx l) ∧ Abcz l ∧ l.length ≤ 24 := by
      intro y hy
      simp only [List.mem_cons, List.not_mem_nil, or_false] at hy
      rcases hy with rfl | rfl | rfl | rfl | rfl
      · exact ⟨_, rfl, hAr, by omega⟩
      · exact ⟨_, rfl, hAd, by omega⟩
      · exact ⟨_, rfl, hAr.app hAr.rev, by rw [List.length_append, lrev]; omega⟩
      · exact ⟨_, rfl, hAd.app hAr, by rw [List.length_append]; omega⟩
      · exact ⟨_, rfl, hAr.app hAd, by rw [List.length_append]; omega⟩
    generalize [V.str (tx r), V.str (tx d), V.str (tx (r ++ r.reverse)), V.str (tx (d ++ r)), V.str (tx (r ++ d))] = ts at f4 all
    refine ⟨pt, rfl, ⟨_, SqL.of f4⟩, for_list (K := K) (a := pt) (xs := ts) (fun j σ H' => ∃ (w6 w7 w8 : Option V), σ = [some (V.ref a), some (V.int (0 + (i : Int))), some (V.ref b), some (V.str (tx r)), some (V.str (tx o)), some (V.str (tx d)), w6, w7, w8] ∧ Same H4 H') ⟨_, _, _, rfl, Same.refl _⟩ (fun j σ H' _ ⟨_, _, _, _, s⟩ => SqL.of (s _ _ f4)) ?_ ?_⟩
    · rintro j y σ I2 hy ⟨w6', w7', w8', rfl, s2⟩
      obtain ⟨l, rfl, hAl, hll⟩ := all y (List.mem_of_getElem? hy)
      have hrow : rowL l = true := rowL_iff.mpr ⟨by omega, hAl.lets⟩
      have hrowr : rowL l.reverse = true := rowL_iff.mpr ⟨by rw [lrev]; omega, hAl.rev.lets⟩
      have hz : l.length ≤ sizeLine := sz (by omega)
      refine ⟨_, rfl, l, rfl, hrow, fun I3 s3 => ⟨_, rfl, l, rfl, hrow, fun ps I4 hfp hps s4' => ?_⟩⟩
      have hcast : lensV (evPlaces l) = ((evPlaces l).map fun (k : Nat) => (k : Int)).map V.int := by unfold lensV; rw [List.map_map]; rfl
      have hri := evPlaces_rise l
      have hpl := evPlaces_few l
      have h0 := evPlaces_zero l
      have hflat : (lensV (evPlaces l)).all flatV = true := lensV_flat _
      refine ⟨_, rfl, rfl, _, rfl, tx l, rfl, (by rw [tx_len]; exact hz), _, rfl, ps, _, rfl, .inl (SqL.of hps), rfl, hflat, rfl, _, rfl, ?_⟩
      refine ite_no (by
        show decide (V.bl (decide (optV (evN l l.length) = .non)) = V.bl (L2.inV (.int (((tx l).length : Nat) : Int)) (lensV (evPlaces l)))) = false
        rw [tx_len, inV_lens48]
        exact ev_is l) ?_
      refine ⟨_, rfl, ps, _, _, _, rfl, rfl, SqL.of hps, atI_nat (j := 0) (lensV_get h0), rfl, _, rfl, ite_no (ne_no rfl) ?_⟩
      rw [hcast] at hps hflat
      have hkl : ((evPlaces l).map fun (k : Nat) => (k : Int)).length ≤ 60 := by rw [List.length_map]; omega
      generalize (evPlaces l).map (fun (k : Nat) => (k : Int)) = ks at hps hri hflat hkl
      have hsl : (setOfI ks).length ≤ ks.length := PyProof.Rows.firstMet_length_le _ _
      refine ⟨_, rfl, _, rfl, ps, ks, rfl, hps, by omega, fun pq I5 hfq v5 u5 => ?_⟩
      refine ⟨pq, setOfI ks, rfl, v5, by omega, fun lq ms hperm hsort hlq => ?_⟩
      obtain rfl := (sorted_set_eq hperm hsort).mpr hri
      have u6 := Same.upd (o := .lst (ms.map V.int)) hlq
      have v6 : upd I5 lq (.lst (ms.map V.int)) lq = some (.lst (ms.map V.int)) := upd_same
      generalize upd I5 lq (.lst (ms.map V.int)) = I6 at u6 v6
      refine ⟨ps, lq, _, _, rfl, rfl, SqL.of (u6 _ _ (u5 _ _ hps)), SqL.of v6, hflat, hflat, _, rfl, ite_no (not_ya (eqVs_same hflat)) ?_⟩
      have T6 : Same I2 I6 := s3.trans (s4'.trans (u5.trans u6))
      have hev := ev_rev l
      have hge := @ev_ge l
      generalize evN l l.length = e at hev hge
      refine ⟨_, rfl, rfl, _, rfl, ?_⟩
      cases e with
      | none =>
        refine ite_no (by rw [show (optV none) = V.non from rfl, decide_eq_true rfl]; rfl) (iteF ?_)
        refine ⟨_, rfl, _, rfl, l, rfl, rfl, hz, l.reverse, rfl, hrowr, fun I8 s8 => ⟨_, rfl, ?_⟩⟩
        rw [hev]
        exact ⟨scal_opt _ _, _, rfl, ite_no (ne_no rfl) ⟨_, _, _, rfl, s2.trans (T6.trans s8)⟩⟩
      | some q =>
        obtain ⟨h1, h2⟩ := hge rfl
        refine ite_ya (by rw [decide_eq_false (show ¬ optV (some q) = V.non from fun z => by cases z)]; rfl) ?_
        refine ⟨_, rfl, tx l, rfl, (by rw [tx_len]; exact hz), _, _, rfl, rfl, (by show (0 : Int) < 2; decide), rfl, _, rfl, ?_⟩
        refine ite_no (decide_eq_false fun z => ?_) ?_
        · rw [tx_len] at z
          have z2 : ((l.length : Nat) : Int) % 2 = 1 := by injection z
          omega
        refine ⟨_, rfl, _, rfl, l, rfl, hrow, fun I7 s7 => ⟨_, _, rfl, rfl, _, rfl, ite_no (decide_eq_false (show ¬ ((q : Nat) : Int) < ((fewI l l.length : Nat) : Int) by omega)) ?_⟩⟩
        refine ⟨_, rfl, _, rfl, l, rfl, rfl, hz, l.reverse, rfl, hrowr, fun I8 s8 => ⟨_, rfl, ?_⟩⟩
        rw [hev]
        exact ⟨scal_opt _ _, _, rfl, ite_no (ne_no rfl) ⟨_, _, _, rfl, s2.trans (T6.trans (s7.trans s8))⟩⟩
    rintro σ I2 ⟨w6', w7', w8', rfl, s2⟩
    have S2 : Same H I2 := S3.trans (s4.trans s2)
    have hrr : rowL (r ++ r.reverse) = true := rowL_iff.mpr ⟨by rw [List.length_append, lrev]; omega, (hAr.app hAr.rev).lets⟩
    have hdr : rowL (d ++ r) = true := rowL_iff.mpr ⟨by rw [List.length_append]; omega, (hAd.app hAr).lets⟩
    have hrd : rowL (r ++ d) = true := rowL_iff.mpr ⟨by rw [List.length_append]; omega, (hAr.app hAd).lets⟩
    have hrow : rowL r = true := rowL_iff.mpr ⟨by omega, hAr.lets⟩
    refine ⟨_, rfl, _, rfl, _, rfl, r, rfl, rfl, sz (by omega), r, r.reverse, rfl, rfl, sz (by rw [lrev]; omega), r ++ r.reverse, rfl, hrr, fun I3 s3 => ?_⟩
    rw [ev_twice, e_nil]
    have hone : optV (some (if r = [] then 0 else 1)) = V.int (if (!decide (V.str (tx r) = V.str (tx []))) = true then 1 else 0) := by
      rw [eq_tx]
      by_cases h : r = []
      · rw [if_pos h, decide_eq_true h]; rfl
      · rw [if_neg h, decide_eq_false h]; rfl
    refine ⟨_, rfl, rfl, .inr ⟨_, rfl, ?_⟩⟩
    rw [← hone]
    refine ⟨rfl, _, rfl, ite_no (ne_no rfl) ?_⟩
    refine ⟨_, rfl, tx d, rfl, (by rw [tx_len]; exact sz (by omega)), _, rfl, _, rfl, d, r, rfl, rfl, sz (by omega), d ++ r, rfl, hdr, fun pe I4 hfe hpe s4' => ⟨pe, _, rfl, .inl (SqL.of hpe), rfl, lensV_flat _, _, rfl, ?_⟩⟩
    refine ite_no (by
      show (!L2.inV (.int (((tx d).length : Nat) : Int)) (lensV (evPlaces (d ++ r)))) = false
      rw [tx_len, inV_lens48, decide_eq_true hLf]
      rfl) ?_
    have done : ∀ I7 : Hp, Same I4 I7 → Same H I7 := fun I7 s7 => S2.trans (s3.trans (s4'.trans s7))
    refine ⟨_, rfl, r, rfl, hrow, fun I5 s5 => ⟨rfl, _, rfl, ?_⟩⟩
    cases er : evN r r.length with
    | none => exact ite_no (by rw [show (optV none) = V.non from rfl, decide_eq_true rfl]; rfl) (iteF ⟨_, _, _, _, _, _, _, _, rfl, done _ s5⟩)
    | some q2 =>
      refine ite_ya (by rw [decide_eq_false (show ¬ optV (some q2) = V.non from fun z => by cases z)]; rfl) ?_
      refine ⟨_, rfl, _, rfl, r, d, rfl, rfl, sz (by omega), r ++ d, rfl, hrd, fun I6 s6 => ⟨rfl, _, rfl, ?_⟩⟩
      have hne := hAp (by rw [er]; intro z; cases z)
      refine ite_no (decide_eq_false ?_) ⟨_, _, _, _, _, _, _, _, rfl, done _ (s5.trans s6)⟩
      cases e3 : evN (r ++ d) (r ++ d).length with
      | none => exact absurd e3 hne
      | some _ => intro z; cases z
end
end Mr

namespace PySem.W.Fast
def tw12808314613786115946 : Unit := ()
def tw11572440169051590932 : Unit := ()
def tw3429993167248198084 : Unit := ()
def tw7586993001877459250 : Unit := ()
def tw3018475832004167074 : Unit := ()
def tw16791904195837066124 : Unit := ()
def tw15091665469409086432 : Unit := ()
def tw8490230996452261296 : Unit := ()
def tw8806843719369157523 : Unit := ()
def tw10924392049605428868 : Unit := ()
def tw13887181531548145935 : Unit := ()
def tw4008256546457549594 : Unit := ()
def tw13269827015391835103 : Unit := ()
def tw2807339725426935809 : Unit := ()
def tw13257800909453284060 : Unit := ()
def tw13140548470638051283 : Unit := ()
def tw6636789078867959804 : Unit := ()
def tw9735480022693486205 : Unit := ()
def tw8874802574906942458 : Unit := ()
def tw13875943283338052687 : Unit := ()
def tw8825845703927747364 : Unit := ()
def tw3298716887720165666 : Unit := ()
def tw15182534464504405590 : Unit := ()
def tw7809833690276657514 : Unit := ()
def tw14449500584001138814 : Unit := ()
def tw10940694297337522001 : Unit := ()
def tw10718253230191976736 : Unit := ()
def tw7030404903050703293 : Unit := ()
def tw6394255839686638673 : Unit := ()
def tw7879617962948230576 : Unit := ()
def tw14326823251242464815 : Unit := ()
def tw16609003799402616848 : Unit := ()
def tw15939449339091752645 : Unit := ()
def tw14113648652432636485 : Unit := ()
def tw379215743991592858 : Unit := ()
def tw1584964699660372073 : Unit := ()
def tw9731924480650986098 : Unit := ()
def tw12675252421005581583 : Unit := ()
def tw4300704378974890855 : Unit := ()
def tw547426791618607628 : Unit := ()
def tw14683313843643201229 : Unit := ()
def tw9642846492925452582 : Unit := ()
def tw14794433986887262865 : Unit := ()
def tw15234795725594295752 : Unit := ()
def tw5099450574900596200 : Unit := ()
def tw2218305117967609358 : Unit := ()
def tw15697380412326029218 : Unit := ()
def tw1432906697479976015 : Unit := ()
def tw4839393904431973073 : Unit := ()
def tw12154423634483924580 : Unit := ()
def tw1904684546545513877 : Unit := ()
def tw14079814985847299274 : Unit := ()
def tw17763044091268764767 : Unit := ()
def tw1173238614484690908 : Unit := ()
def tw1776517558613468120 : Unit := ()
def tw4159803741676309847 : Unit := ()
def tw8475258327544551439 : Unit := ()
def tw5409714453826915329 : Unit := ()
def tw11060546056798111862 : Unit := ()
def tw3554552426726632991 : Unit := ()
def tw2673527059307141327 : Unit := ()
def tw14332383278615040219 : Unit := ()
def tw7524818483832659794 : Unit := ()
def tw14942873257897629995 : Unit := ()
def tw4979471729484653577 : Unit := ()
def tw12942336571902008078 : Unit := ()
def tw3029296834734577291 : Unit := ()
def tw6449150330821870715 : Unit := ()
def tw16608525382597308279 : Unit := ()
def tw4777122597531338233 : Unit := ()
def tw11050910016268355613 : Unit := ()
def tw22735153934321815 : Unit := ()
def tw8117301915560315707 : Unit := ()
def tw11873746802492328118 : Unit := ()
def tw608973240630997295 : Unit := ()
def tw17812533237169708750 : Unit := ()
def tw6699651023347862343 : Unit := ()
def tw9070600566637316661 : Unit := ()
def tw9658068347215916324 : Unit := ()
def tw17028486816736539094 : Unit := ()
def tw6054328595196803646 : Unit := ()
def tw3849069011066068533 : Unit := ()
def tw9309588200310749719 : Unit := ()
def tw2979086395297548142 : Unit := ()
def tw7245521337624455761 : Unit := ()
def tw17647659855572461471 : Unit := ()
def tw2985578004741351303 : Unit := ()
def tw6309133114384304032 : Unit := ()
def tw9966922580913042134 : Unit := ()
def tw14018706405792068642 : Unit := ()
def tw738877733927164432 : Unit := ()
def tw14507445072991418212 : Unit := ()
def tw4485798547825166450 : Unit := ()
def tw1612489504900275553 : Unit := ()
def tw933126707295659409 : Unit := ()
def tw2258431764143998698 : Unit := ()
def tw5515234194708408223 : Unit := ()
def tw11178306985614297932 : Unit := ()
def tw994869897427410340 : Unit := ()
def tw3249741712527747086 : Unit := ()
def tw14990404519715715426 : Unit := ()
def tw10128640150550305728 : Unit := ()
def tw15049418669563258529 : Unit := ()
def tw6902921517645917642 : Unit := ()
def tw6934055404261354495 : Unit := ()
def tw12823640954715740850 : Unit := ()
def tw10592810692615226073 : Unit := ()
def tw907787691641328107 : Unit := ()
def tw9554876054635111017 : Unit := ()
def tw17353854220417910247 : Unit := ()
def tw9551862291548215665 : Unit := ()
def tw6177010214747076422 : Unit := ()
def tw4960924766473719871 : Unit := ()
def tw13182648736804468021 : Unit := ()
def tw11161485520731560209 : Unit := ()
def tw6485175710568110394 : Unit := ()
def tw10424388585078090741 : Unit := ()
def tw8589642220001528419 : Unit := ()
def tw6262668602045770450 : Unit := ()
def tw10682617439403974842 : Unit := ()
def tw6003502018065674650 : Unit := ()
def tw10424516939747654654 : Unit := ()
def tw14976283179218727801 : Unit := ()
def tw8476752533867785718 : Unit := ()
def tw4831321948437962961 : Unit := ()
def tw18231550606646723463 : Unit := ()
def tw18344265257762152769 : Unit := ()
def tw9283452979457744188 : Unit := ()
def tw12630237420539032606 : Unit := ()
def tw7172180436804583340 : Unit := ()
end PySem.W.Fast
namespace Mr
open PySem L2
theorem all_mk {l : PySem.W.OpenLaw} {w : World} {K : PySem.W.Frag} {mg : Str → Option Value} {fa : Addr} {tM : Tok} {tL : Tok} (hfa : mg "law" = some (.ref fa))
    (a_is_row : At K mg "is_row" sIsRow ["thing"])
    (a_need_row : At K mg "need_row" sNeedRow ["thing"])
    (a_reaches : At K mg "reaches" s_reaches ["row"])
    (a_reach_around : At K mg "reach_around" s_reach_around ["row", "middle"])
    (a_ends_ahead : At K mg "ends_ahead" s_ends_ahead ["told", "behind"])
    (a_ends_by_place : At K mg "ends_by_place" s_ends_by_place ["row"])
    (a_fewest_by_place : At K mg "fewest_by_place" s_fewest_by_place ["lengths"])
    (a_fewest : At K mg "fewest" s_fewest ["row"])
    (a_bounds : At K mg "bounds" s_bounds ["row"])
    (a_fewest_even_by_place : At K mg "fewest_even_by_place" s_fewest_even_by_place ["row"])
    (a_even_ones : At K mg "even_ones" s_even_ones ["lengths"])
    (a_even_ends : At K mg "even_ends" s_even_ends ["row"])
    (a_fewest_even : At K mg "fewest_even" s_fewest_even ["row"])
    (a_law_box : At K mg "_law_box" sBox ["_law_script", "_law_k"])
    (a_law_take : At K mg "_law_take" sTake ["_law_box_here", "_law_many"])
    (a_law_row : At K mg "_law_row" sRow ["_law_box_here", "_law_most"])
    (a_law : At K mg "law" sLaw ["_law_script"])
    (hM : mg "MOST_SIGNS" = some (.int 200 tM))
    (hL : mg "LETTERS" = some (.str (tx lets) tL))
    (z_len : mg "len" = none)
    (z_range : mg "range" = none)
    (z_divmod : mg "divmod" = none)
    (z_isinstance : mg "isinstance" = none)
    (z_str : mg "str" = none)
    (z_all : mg "all" = none)
    (z_max : mg "max" = none)
    (z_min : mg "min" = none)
    (z_int : mg "int" = none)
    (z_sorted : mg "sorted" = none)
    (z_set : mg "set" = none)
    (z_enumerate : mg "enumerate" = none)
    : ∃ fd : FuncData, (∀ (s : Shared) (v : Value), BindsTo s fd ⟨[v], []⟩ [("_law_script", v)]) ∧ ∀ base : Heap, K.In base → base.Ns mainGlobals mg → FnOk l.prog w K mg base CX0 9 fa fd ["_law_script"] (spLaw K) := by
  obtain ⟨f, fd, F, hm, hb⟩ := a_law.ex
  have e := hfa.symm.trans hm
  cases e
  refine ⟨fd, fun s v => .of_eq (hb [v] rfl), fun base _ _ => ?_⟩
  have dIR := ok_isrow (P := l.prog) (w := w) (base := base) a_is_row z_isinstance z_str z_len z_all hM hL
  have dN := ok_need a_need_row dIR
  have d_ra := ok_reach_around (P := l.prog) (w := w) (base := base) a_reach_around z_len
  have d_reaches := ok_reaches a_reaches dN d_ra z_len z_range
  have d_ea := ok_ends_ahead (P := l.prog) (w := w) (base := base) a_ends_ahead z_range
  have d_ebp := ok_ebp a_ends_by_place d_reaches d_ea z_len z_range
  have d_fbp := ok_fbp (P := l.prog) (w := w) (base := base) a_fewest_by_place z_len z_min z_range
  have d_bounds := ok_bounds a_bounds d_fbp d_ebp
  have dTake := ok_take4 (P := l.prog) (w := w) (base := base) a_law_take z_divmod
  have dBox := ok_box4 (P := l.prog) (w := w) (base := base) a_law_box z_len z_range
  have dRow := ok_row4 a_law_row dTake z_len z_range
  have d_eo := ok_even_ones (P := l.prog) (w := w) (base := base) a_even_ones
  have d_feb := ok_febp a_fewest_even_by_place d_fbp d_ebp d_eo
  have d_ee := ok_even_ends a_even_ends d_feb z_enumerate
  have d_fe := ok_fewest_even a_fewest_even d_feb
  have d_fewest := ok_fewest a_fewest d_bounds
  exact ok_law F dRow dBox d_fe d_ee d_fewest z_int z_len z_max z_min z_range z_set z_sorted
theorem walk {l : PySem.W.OpenLaw} {q : Program} {loose : List Str} {XP : (Str → Option Value) → Heap → Prop} {YP : World → Heap → Prop} {d : DefRec} {K : Params → PySem.W.Frag} (hn : l.most = some 63) (hdf : d.params.defaults = [])
    (hY : ∀ (w : World) (h : Heap), YP w h → (K w.params).In h)
    (F : ∀ (w : World) (mg : Str → Option Value) (fa : Addr) (h : Heap), (K w.params).In h → h.Ns mainGlobals mg → mg d.name = some (.ref fa) →
      ∃ fd : FuncData, (∀ (s : Shared) (u : Value), BindsTo s fd ⟨[u], []⟩ [("_law_script", u)]) ∧ ∀ base : Heap, (K w.params).In base → base.Ns mainGlobals mg → FnOk l.prog w (K w.params) mg base CX0 9 fa fd ["_law_script"] (spLaw (K w.params))) :
    PySem.W.WalkO q loose XP YP l.row.toRowW d [] (fun f vs => PySem.call f vs) :=
  L2.walk_of (n := 63) (k := 9) (x := "_law_script") (CX := fun _ => CX0) (sp := fun w => spLaw (K w.params)) hn (by decide) hdf ⟨rfl, by decide, by decide⟩ hY F (fun _ _ a ns hl _ hS => ⟨a, ns, rfl, hS, hl, fun _ => rfl⟩) fun _ _ _ _ _ z => z
theorem us1 {us : List Value} (hl : us.length = 1) : ∃ x0, us = [x0] := by
  rcases us with _ | ⟨x0, _ | ⟨w, t⟩⟩
  all_goals first
    | exact ⟨_, rfl⟩
    | cases hl
theorem us2 {us : List Value} (hl : us.length = 2) : ∃ x0 x1, us = [x0, x1] := by
  rcases us with _ | ⟨x0, _ | ⟨x1, _ | ⟨w, t⟩⟩⟩
  all_goals first
    | exact ⟨_, _, rfl⟩
    | cases hl
end Mr
open PySem PySem.W PyProof.Rows
set_option maxRecDepth 100000 in
set_option maxHeartbeats 0 in
theorem PySem.Challenge.cw_mirrorruns_k48_whole_even_cuts_holds : PySem.Challenge.rw_mirrorruns_k48_whole_even_cuts.Holds := by
  w_on; o_law; k_head; (case hw => w_witness2)
  k_fill
  refine Mr.walk (l := PySem.Challenge.rw_mirrorruns_k48_whole_even_cuts) rfl rfl (fun w h Y => PySem.W.kIn_of Y) ?F
  case F =>
    intro w mg fa h KX G hmg
    refine' Mr.all_mk hmg ?a_is_row ?a_need_row ?a_reaches ?a_reach_around ?a_ends_ahead ?a_ends_by_place ?a_fewest_by_place ?a_fewest ?a_bounds ?a_fewest_even_by_place ?a_even_ones ?a_even_ends ?a_fewest_even ?a_law_box ?a_law_take ?a_law_row ?a_law ?hM ?hL ?z_len ?z_range ?z_divmod ?z_isinstance ?z_str ?z_all ?z_max ?z_min ?z_int ?z_sorted ?z_set ?z_enumerate
    (case a_is_row => refine' L2.At.mk' KX G ?a ?l ?c ?k (fun _ _ _ _ _ _ us hl => by obtain ⟨x0, rfl⟩ := Mr.us1 hl; rfl); (case a => k_is); (case l => k_is); (case c => k_is); (case k => k_is))
    (case a_need_row => refine' L2.At.mk' KX G ?a ?l ?c ?k (fun _ _ _ _ _ _ us hl => by obtain ⟨x0, rfl⟩ := Mr.us1 hl; rfl); (case a => k_is); (case l => k_is); (case c => k_is); (case k => k_is))
    (case a_reaches => refine' L2.At.mk' KX G ?a ?l ?c ?k (fun _ _ _ _ _ _ us hl => by obtain ⟨x0, rfl⟩ := Mr.us1 hl; rfl); (case a => k_is); (case l => k_is); (case c => k_is); (case k => k_is))
    (case a_reach_around => refine' L2.At.mk' KX G ?a ?l ?c ?k (fun _ _ _ _ _ _ us hl => by obtain ⟨x0, x1, rfl⟩ := Mr.us2 hl; rfl); (case a => k_is); (case l => k_is); (case c => k_is); (case k => k_is))
    (case a_ends_ahead => refine' L2.At.mk' KX G ?a ?l ?c ?k (fun _ _ _ _ _ _ us hl => by obtain ⟨x0, x1, rfl⟩ := Mr.us2 hl; rfl); (case a => k_is); (case l => k_is); (case c => k_is); (case k => k_is))
    (case a_ends_by_place => refine' L2.At.mk' KX G ?a ?l ?c ?k (fun _ _ _ _ _ _ us hl => by obtain ⟨x0, rfl⟩ := Mr.us1 hl; rfl); (case a => k_is); (case l => k_is); (case c => k_is); (case k => k_is))
    (case a_fewest_by_place => refine' L2.At.mk' KX G ?a ?l ?c ?k (fun _ _ _ _ _ _ us hl => by obtain ⟨x0, rfl⟩ := Mr.us1 hl; rfl); (case a => k_is); (case l => k_is); (case c => k_is); (case k => k_is))
    (case a_fewest => refine' L2.At.mk' KX G ?a ?l ?c ?k (fun _ _ _ _ _ _ us hl => by obtain ⟨x0, rfl⟩ := Mr.us1 hl; rfl); (case a => k_is); (case l => k_is); (case c => k_is); (case k => k_is))
    (case a_bounds => refine' L2.At.mk' KX G ?a ?l ?c ?k (fun _ _ _ _ _ _ us hl => by obtain ⟨x0, rfl⟩ := Mr.us1 hl; rfl); (case a => k_is); (case l => k_is); (case c => k_is); (case k => k_is))
    (case a_fewest_even_by_place => refine' L2.At.mk' KX G ?a ?l ?c ?k (fun _ _ _ _ _ _ us hl => by obtain ⟨x0, rfl⟩ := Mr.us1 hl; rfl); (case a => k_is); (case l => k_is); (case c => k_is); (case k => k_is))
    (case a_even_ones => refine' L2.At.mk' KX G ?a ?l ?c ?k (fun _ _ _ _ _ _ us hl => by obtain ⟨x0, rfl⟩ := Mr.us1 hl; rfl); (case a => k_is); (case l => k_is); (case c => k_is); (case k => k_is))
    (case a_even_ends => refine' L2.At.mk' KX G ?a ?l ?c ?k (fun _ _ _ _ _ _ us hl => by obtain ⟨x0, rfl⟩ := Mr.us1 hl; rfl); (case a => k_is); (case l => k_is); (case c => k_is); (case k => k_is))
    (case a_fewest_even => refine' L2.At.mk' KX G ?a ?l ?c ?k (fun _ _ _ _ _ _ us hl => by obtain ⟨x0, rfl⟩ := Mr.us1 hl; rfl); (case a => k_is); (case l => k_is); (case c => k_is); (case k => k_is))
    (case a_law_box => refine' L2.At.mk' KX G ?a ?l ?c ?k (fun _ _ _ _ _ _ us hl => by obtain ⟨x0, x1, rfl⟩ := Mr.us2 hl; rfl); (case a => k_is); (case l => k_is); (case c => k_is); (case k => k_is))
    (case a_law_take => refine' L2.At.mk' KX G ?a ?l ?c ?k (fun _ _ _ _ _ _ us hl => by obtain ⟨x0, x1, rfl⟩ := Mr.us2 hl; rfl); (case a => k_is); (case l => k_is); (case c => k_is); (case k => k_is))
    (case a_law_row => refine' L2.At.mk' KX G ?a ?l ?c ?k (fun _ _ _ _ _ _ us hl => by obtain ⟨x0, x1, rfl⟩ := Mr.us2 hl; rfl); (case a => k_is); (case l => k_is); (case c => k_is); (case k => k_is))
    (case a_law => refine' L2.At.mk' KX G ?a ?l ?c ?k (fun _ _ _ _ _ _ us hl => by obtain ⟨x0, rfl⟩ := Mr.us1 hl; rfl); (case a => k_is); (case l => k_is); (case c => k_is); (case k => k_is))
    (case hM => exact PySem.W.mg_of KX G (by k_is))
    (case hL => exact (PySem.W.mg_of KX G (by k_is)).trans (congrArg (fun z => some (Value.str z _)) Mr.e_lets))
    (case z_len => exact PySem.W.mg_none_of KX G (by k_is))
    (case z_range => exact PySem.W.mg_none_of KX G (by k_is))
    (case z_divmod => exact PySem.W.mg_none_of KX G (by k_is))
    (case z_isinstance => exact PySem.W.mg_none_of KX G (by k_is))
    (case z_str => exact PySem.W.mg_none_of KX G (by k_is))
    (case z_all => exact PySem.W.mg_none_of KX G (by k_is))
    (case z_max => exact PySem.W.mg_none_of KX G (by k_is))
    (case z_min => exact PySem.W.mg_none_of KX G (by k_is))
    (case z_int => exact PySem.W.mg_none_of KX G (by k_is))
    (case z_sorted => exact PySem.W.mg_none_of KX G (by k_is))
    (case z_set => exact PySem.W.mg_none_of KX G (by k_is))
    (case z_enumerate => exact PySem.W.mg_none_of KX G (by k_is))
