import PyProof.Rows.All
import Wide.All
import OpenK.AllK
import Wide.FinOn
import Lean
import PyProof.EqAt
import PyProof.EqKinds
import PyProof.TupleCall
import PySem.Challenge.RW_mirrorruns_k76_whole_rows_and_reaches
set_option Elab.async false
set_option linter.all false
set_option maxRecDepth 100000
/-! THE HAND LAYER, for ints, bools, texts, own classes, LISTS and tuples (index, slices, in, append, pop ..), calls, loops. Paste it whole ahead of your own text; what your proof does not reach may be deleted. -/
namespace L2
open PySem PySem.Spec PyProof.Rows

/-- a key: an int or a str -/
abbrev Key := Sum Int Str
def keyIs : Key → Value → Bool
  | .inl k, v => Value.isInt k v
  | .inr x, v => Value.isStrOf x v
def keyH (w : World) : Key → Int
  | .inl k => hashInt k
  | .inr x => hashStr w x
theorem keyIs_shape : ∀ {k : Key} {v : Value}, keyIs k v = true → (∃ i t, k = Sum.inl i ∧ v = Value.int i t) ∨ (∃ x t, k = Sum.inr x ∧ v = Value.str x t)
  | .inl i, v, h => by
    obtain ⟨t, e⟩ := Value.isInt_shape (k := i) (v := v) h
    exact .inl ⟨i, t, rfl, e⟩
  | .inr x, v, h => by
    obtain ⟨t, e⟩ := Value.isStrOf_shape (x := x) (v := v) h
    exact .inr ⟨x, t, rfl, e⟩
theorem key_ll (a b : Int) : decide ((Sum.inl a : Key) = Sum.inl b) = (a == b) := by
  by_cases e : a = b
  · subst e; simp
  · have h : ¬ (Sum.inl a : Key) = Sum.inl b := fun q => e (Sum.inl.inj q)
    rw [decide_eq_false h]
    exact (beq_eq_false_iff_ne.mpr e).symm
theorem key_rr (a b : Str) : decide ((Sum.inr a : Key) = Sum.inr b) = decide (a = b) := by
  by_cases e : a = b
  · subst e; simp
  · have h : ¬ (Sum.inr a : Key) = Sum.inr b := fun q => e (Sum.inr.inj q)
    rw [decide_eq_false h, decide_eq_false e]
theorem key_lr (a : Int) (b : Str) : decide ((Sum.inl a : Key) = Sum.inr b) = false := decide_eq_false (fun q => nomatch q)
theorem key_rl (a : Str) (b : Int) : decide ((Sum.inr a : Key) = Sum.inl b) = false := decide_eq_false (fun q => nomatch q)

def mixKind (prog : Program) (w : World) : PySem.KeyKind prog w Key where
  is := keyIs
  hash := keyH w
  inj := fun v a b ha hb => by
    rcases keyIs_shape ha with ⟨i, t, rfl, rfl⟩ | ⟨x, t, rfl, rfl⟩
    · rcases keyIs_shape hb with ⟨j, u, rfl, e⟩ | ⟨y, u, rfl, e⟩
      · injection e with e1 _; rw [e1]
      · exact nomatch e
    · rcases keyIs_shape hb with ⟨j, u, rfl, e⟩ | ⟨y, u, rfl, e⟩
      · exact nomatch e
      · injection e with e1 _; rw [e1]
  byValue := fun k v h => by
    rcases keyIs_shape h with ⟨i, t, rfl, rfl⟩ | ⟨x, t, rfl, rfl⟩ <;> rfl
  pyHash := fun hv h => by
    rcases keyIs_shape hv with ⟨i, t, rfl, rfl⟩ | ⟨x, t, rfl, rfl⟩
    · exact wpAny_pyHash_int h
    · exact wpAny_pyHash_str h
  eqBool := fun hu hv h => by
    rcases keyIs_shape hu with ⟨i, t, rfl, rfl⟩ | ⟨x, t, rfl, rfl⟩
    · rcases keyIs_shape hv with ⟨j, u, rfl, rfl⟩ | ⟨y, u, rfl, rfl⟩
      · rw [key_ll] at h; exact wpAny_eqBool_int h
      · rw [key_lr] at h; exact SeqAt.EqAt.int_str i t y u _ _ _ _ h
    · rcases keyIs_shape hv with ⟨j, u, rfl, rfl⟩ | ⟨y, u, rfl, rfl⟩
      · rw [key_rl] at h; exact SeqAt.EqAt.str_int x t j u _ _ _ _ h
      · rw [key_rr] at h; exact wpAny_eqBool_str h
  «strs» := fun k x t v h => by
    rcases keyIs_shape h with ⟨i, u, rfl, e⟩ | ⟨y, u, rfl, e⟩
    · exact nomatch e
    · injection e with e1 _
      subst e1
      cases v <;> rfl

theorem mixKind_is (prog : Program) (w : World) (k : Key) (v : Value) : (mixKind prog w).is k v = keyIs k v := rfl
end L2

namespace L2
open PySem PySem.Spec PyProof.Rows

/-- a value, without the heap -/
inductive V where
  | non | bl (b : Bool) | int (i : Int) | str (x : Str) | byt (b : Array UInt8) | flt (b : UInt64) | ref (a : Addr) | ty (n : String)
  deriving DecidableEq

def RelV : V → Value → Prop
  | .non, u => u = Value.none
  | .bl b, u => u = Value.bool b
  | .int i, u => ∃ t, u = Value.int i t
  | .str x, u => ∃ t, u = Value.str x t
  | .byt b, u => ∃ t, u = Value.bytes b t
  | .flt b, u => ∃ t, u = Value.float b t
  | .ref a, u => u = Value.ref a
  | .ty n, u => u = Value.type n

abbrev Vals : List V → List Value → Prop := Paired RelV
theorem Vals.length {xs : List V} {us : List Value} (r : Vals xs us) : xs.length = us.length := Paired.length r
theorem Vals.get : ∀ {xs : List V} {us : List Value} {i : Nat} {x : V}, Vals xs us → xs[i]? = some x → ∃ u, us[i]? = some u ∧ RelV x u
  | _, _, _, _, .nil, e => by simp at e
  | _, _, 0, _, .cons r _, e => by simp at e; subst e; exact ⟨_, rfl, r⟩
  | _, _, i + 1, x, .cons _ t, e => by
    obtain ⟨u, h1, h2⟩ := Vals.get (i := i) (x := x) t (by simpa using e)
    exact ⟨u, by simpa using h1, h2⟩
theorem Vals.set {x : V} {u : Value} (r : RelV x u) : ∀ {xs : List V} {us : List Value} (i : Nat), Vals xs us → Vals (xs.set i x) (us.set i u)
  | _, _, _, .nil => .nil
  | _, _, 0, .cons _ t => .cons r t
  | _, _, i + 1, .cons q t => .cons q (Vals.set r i t)
theorem Vals.append : ∀ {xs ys : List V} {us ws : List Value}, Vals xs us → Vals ys ws → Vals (xs ++ ys) (us ++ ws)
  | _, _, _, _, .nil, s => s
  | _, _, _, _, .cons r t, s => .cons r (Vals.append t s)
def RelO : Option V → Option Value → Prop
  | some v, some u => RelV v u
  | none, none => True
  | _, _ => False
def KV {κ : Type} : List (κ × V) → List (κ × Value) → Prop := Paired fun (p : κ × V) (q : κ × Value) => p.1 = q.1 ∧ RelV p.2 q.2

/-- a key of a dict (00_mix): an int or a text -/
def kV : Key → V
  | .inl i => .int i
  | .inr x => .str x

/-- what stands at a tracked address -/
inductive HO where
  /-- a list -/
  | lst (xs : List V)
  /-- a tuple (never changes) -/
  | tup (xs : List V)
  /-- a dict whose keys are ints and texts; one whose keys are tuples of ints and texts (the empty one is both) -/
  | dK (kvs : List (Key × V)) | dT (kvs : List (List Key × V))
  /-- a set of ints: its members, its size -/
  | set (S : Int → Bool) (n : Nat)
  /-- an instance of the class at C, its dict at dx, its attributes -/
  | ins (C dx : Addr) (fs : List (Str × V))
  /-- the dict of the instance at x -/
  | own (x : Addr)
  /-- the dict of an exception -/
  | xd (fs : List (Str × V))
  /-- a bound method, f of x -/
  | met (f x : Addr)
  /-- a range object lo, lo + 1, .. below hi -/
  | rng (lo hi : Int)
  /-- a thing that is known to the object (the script; a dict while a loop walks it): read, never written while it is so -/
  | frz (o : Obj) (u : HO)
  /-- a code object's table -/
  | tbl (ps : Array Value)
  /-- any other thing, by what is true of its one object (a def of one's own: SetO a S n := HO.ext fun h => ..) -/
  | ext (φ : Heap → Prop)

abbrev Hp := Addr → Option HO
def upd (H : Hp) (a : Addr) (o : HO) : Hp := fun b => if b = a then some o else H b
theorem upd_same {H : Hp} {a : Addr} {o : HO} : upd H a o a = some o := by unfold upd; rw [if_pos rfl]
theorem upd_ne {H : Hp} {a b : Addr} {o : HO} (h : b ≠ a) : upd H a o b = H b := by unfold upd; rw [if_neg h]
theorem ne_of_none {H : Hp} {a b : Addr} {o : HO} (h : H a = some o) (h' : H b = none) : a ≠ b := by
  intro e; subst e; rw [h] at h'; cases h'

section
variable (P : Program) (w : World)
def ObjOk (H : Hp) (h : Heap) (a : Addr) : HO → Prop
  | .lst xs => xs.length ≤ sizeLine ∧ ∃ (its : List Value) (n : Nat), Vals xs its ∧ h.get? a = some { cls := .type "list", data := .seq its.toArray n }
  | .tup xs => xs.length ≤ sizeLine ∧ ∃ its : List Value, Vals xs its ∧ IsTup h a its.toArray
  | .dK kvs => kvs.length ≤ sizeLine ∧ (a == sysModules) = false ∧ ∃ vs, KV kvs vs ∧ h.DictOf (mixKind P w) a vs
  | .dT kvs => kvs.length ≤ sizeLine ∧ (a == sysModules) = false ∧ ∃ xs : List (List Key × Addr × Value),
      Paired (fun (p : List Key × V) (q : List Key × Addr × Value) => p.1 = q.1 ∧ H q.2.1 = some (.tup (p.1.map kV)) ∧ RelV p.2 q.2.2) kvs xs ∧
      ∃ o es ep, h.get? a = some o ∧ o.ExactDict ∧ o.data = .dict es ep ∧ es.toList = xs.map (entryOfKey (tupleKind (mixKind P w))) ∧ (xs.map (·.1)).Nodup
  | .set S n => h.SetOf (intKind P w) a S n
  | .ins C dx fs => H dx = some (.own a) ∧ fs.length ≤ 1000 ∧ dx ≠ a ∧ h.get? a = some (PySem.W.instObj C dx) ∧
      ∃ mA, h.Ns1 dx mA ∧ (∀ f, RelO (fs.lookup f) (mA f)) ∧ PySem.Within mA (fs.map (·.1))
  | .own _ => ∃ o, h.get? a = some o
  | .xd fs => ∃ mA, h.Ns1 a mA ∧ ∀ f, RelO (fs.lookup f) (mA f)
  | .rng lo hi => ∃ t u v, h.get? a = some { cls := .type "range", data := .fields #[.int lo t, .int hi u, .int 1 v] }
  | .frz o u => h.get? a = some o ∧ ObjOk H h a u
  | .tbl ps => h.get? a = some { cls := .none, data := .fields ps }
  | .met f x => h.get? a = some (PySem.W.methodObj (.ref f) (.ref x))
  | .ext φ => φ h ∧ (∃ o, h.get? a = some o) ∧ ∀ h1 h2 : Heap, φ h1 → (∀ o, h1.get? a = some o → h2.get? a = some o) → φ h2
/-- the abstract heap is held -/
def HOk (H : Hp) (h : Heap) : Prop := ∀ a o, H a = some o → ObjOk P w H h a o
end

section
variable {P : Program} {w : World} {H H' : Hp} {h h' : Heap} {a : Addr} {o : HO}
theorem ObjOk.lt (x : ObjOk P w H h a o) : a < h.objs.size := by
  cases o with
  | lst xs => obtain ⟨_, _, _, _, e⟩ := x; exact Heap.lt_size e
  | tup xs => obtain ⟨_, _, _, p⟩ := x; exact p.lt
  | dK kvs => obtain ⟨_, _, _, _, o, _, _, e, _⟩ := x; exact Heap.lt_size e
  | dT kvs => obtain ⟨_, _, _, _, o, _, _, e, _⟩ := x; exact Heap.lt_size e
  | set S n => obtain ⟨o, _, _, _, e, _⟩ := x; exact Heap.lt_size e
  | ins C dx fs => obtain ⟨_, _, _, e, _⟩ := x; exact Heap.lt_size e
  | own y => obtain ⟨_, e⟩ := x; exact Heap.lt_size e
  | xd fs => obtain ⟨_, ⟨_, _, _, e, _⟩, _⟩ := x; exact Heap.lt_size e
  | rng lo hi => obtain ⟨_, _, _, e⟩ := x; exact Heap.lt_size e
  | frz ob u => obtain ⟨e, _⟩ := x; exact Heap.lt_size e
  | tbl ps => exact Heap.lt_size (show h.get? a = some _ from x)
  | met f y => exact Heap.lt_size (show h.get? a = some _ from x)
  | ext φ => obtain ⟨_, ⟨_, e⟩, _⟩ := x; exact Heap.lt_size e
theorem Paired.mapP {α β : Type} {F G : α → β → Prop} : ∀ {l₁ : List α} {l₂ : List β}, Paired F l₁ l₂ → (∀ a b, F a b → G a b) → Paired G l₁ l₂
  | _, _, .nil, _ => .nil
  | _, _, .cons r t, f => .cons (f _ _ r) (Paired.mapP t f)
/-- what an object's description leans on: its own object, its own dict, the tuples -/
theorem ObjOk.stay (x : ObjOk P w H h a o) (k : ∀ b u, (b = a ∨ H b = some (.own a)) → h.get? b = some u → h'.get? b = some u)
    (ho : ∀ b, H b = some (.own a) → H' b = some (.own a)) (ht : ∀ b xs, H b = some (.tup xs) → H' b = some (.tup xs)) : ObjOk P w H' h' a o := by
  induction o with
  | lst xs => obtain ⟨z, its, n, r, e⟩ := x; exact ⟨z, its, n, r, k _ _ (.inl rfl) e⟩
  | tup xs => obtain ⟨z, its, r, ob, e, c⟩ := x; exact ⟨z, its, r, ob, k _ _ (.inl rfl) e, c⟩
  | dK kvs => obtain ⟨z, y, vs, r, ob, es, ep, e, c⟩ := x; exact ⟨z, y, vs, r, ob, es, ep, k _ _ (.inl rfl) e, c⟩
  | dT kvs =>
    obtain ⟨z, y, xs, r, ob, es, ep, e, c⟩ := x
    exact ⟨z, y, xs, Paired.mapP r fun p q z => ⟨z.1, ht _ _ z.2.1, z.2.2⟩, ob, es, ep, k _ _ (.inl rfl) e, c⟩
  | set S n => obtain ⟨ob, es, ep, t, e, c⟩ := x; exact ⟨ob, es, ep, t, k _ _ (.inl rfl) e, c⟩
  | ins C dx fs =>
    obtain ⟨d, z, ne, e, mA, ⟨od, es, ep, e2, c⟩, r⟩ := x
    exact ⟨ho _ d, z, ne, k _ _ (.inl rfl) e, mA, ⟨od, es, ep, k _ _ (.inr d) e2, c⟩, r⟩
  | own y => obtain ⟨ob, e⟩ := x; exact ⟨ob, k _ _ (.inl rfl) e⟩
  | xd fs => obtain ⟨mA, ⟨od, es, ep, e, c⟩, r⟩ := x; exact ⟨mA, ⟨od, es, ep, k _ _ (.inl rfl) e, c⟩, r⟩
  | rng lo hi => obtain ⟨t, u, v, e⟩ := x; exact ⟨t, u, v, k _ _ (.inl rfl) e⟩
  | frz ob u ih => obtain ⟨e, q⟩ := x; exact ⟨k _ _ (.inl rfl) e, ih q⟩
  | tbl ps =>
    have e : h.get? a = some { cls := .none, data := .fields ps } := x
    show h'.get? a = some { cls := .none, data := .fields ps }
    exact k a _ (.inl rfl) e
  | met f y =>
    have e : h.get? a = some (PySem.W.methodObj (.ref f) (.ref y)) := x
    show h'.get? a = some (PySem.W.methodObj (.ref f) (.ref y))
    exact k a _ (.inl rfl) e
  | ext φ => obtain ⟨p, ⟨o, e⟩, st⟩ := x; exact ⟨st _ _ p fun o q => k _ _ (.inl rfl) q, ⟨o, k _ _ (.inl rfl) e⟩, st⟩
theorem HOk.lt (x : HOk P w H h) (e : H a = some o) : a < h.objs.size := (x a o e).lt
theorem HOk.fresh (x : HOk P w H h) (e : h.objs.size ≤ a) : H a = none := by
  cases q : H a with
  | none => rfl
  | some u => exact absurd (Nat.lt_of_lt_of_le (x.lt q) e) (Nat.lt_irrefl _)
/-- every object of the heap is kept -/
theorem HOk.kept (x : HOk P w H h) (k : ∀ b u, h.get? b = some u → h'.get? b = some u) : HOk P w H h' := fun a o e =>
  (x a o e).stay (fun b u _ q => k b u q) (fun _ q => q) fun _ _ q => q
/-- a new object is laid and tracked -/
theorem HOk.laid (x : HOk P w H h) (k : ∀ b u, h.get? b = some u → h'.get? b = some u) (hp : h.objs.size ≤ a) (new : ObjOk P w (upd H a o) h' a o) : HOk P w (upd H a o) h' := fun b u e => by
  have hn := x.fresh hp
  by_cases hb : b = a
  · subst hb; rw [upd_same] at e; cases e; exact new
  · rw [upd_ne hb] at e
    exact (x b u e).stay (fun c v _ q => k c v q) (fun c q => by rw [upd_ne (ne_of_none q hn)]; exact q) fun c xs q => by rw [upd_ne (ne_of_none q hn)]; exact q
end

/-- what may be read as u: it is u, or a known u -/
def Rd (H : Hp) (a : Addr) (u : HO) : Prop := H a = some u ∨ ∃ o, H a = some (.frz o u)
theorem Rd.ok {P : Program} {w : World} {H : Hp} {h : Heap} {a : Addr} {u : HO} (r : Rd H a u) (x : HOk P w H h) : ObjOk P w H h a u := by
  rcases r with r | ⟨o, r⟩
  · exact x a u r
  · obtain ⟨_, q⟩ := x a _ r
    exact q
/-- what may be written -/
def Mut : Option HO → Prop
  | some (.lst _) => True
  | some (.dK _) => True
  | some (.dT _) => True
  | some (.set _ _) => True
  | some (.ins _ _ _) => True
  | some (.ext _) => True
  | _ => False
section
variable {P : Program} {w : World} {H : Hp} {h h' : Heap} {x e : Addr} {o' : HO}
/-- the object at e is changed: x itself, or the dict of the instance x -/
theorem HOk.write (ok : HOk P w H h) (mu : Mut (H x)) (he : e = x ∨ H e = some (.own x)) (k : ∀ b u, b ≠ e → h.get? b = some u → h'.get? b = some u) (heo : ∃ u, h'.get? e = some u)
    (new : ObjOk P w (upd H x o') h' x o') : HOk P w (upd H x o') h' := fun b u q => by
  have nown : ∀ c y, H c = some (.own y) → c ≠ x := fun c y r z => by subst z; rw [r] at mu; exact mu
  have ntup : ∀ c xs, H c = some (.tup xs) → c ≠ x := fun c xs r z => by subst z; rw [r] at mu; exact mu
  by_cases hb : b = x
  · subst hb; rw [upd_same] at q; cases q; exact new
  · rw [upd_ne hb] at q
    by_cases hbe : b = e
    · have q' : H b = some (.own x) := by
        rcases he with z | z
        · exact absurd (hbe.trans z) hb
        · rw [hbe]; exact z
      rw [q] at q'; cases q'
      obtain ⟨v, hv⟩ := heo
      exact ⟨v, by rw [hbe]; exact hv⟩
    · refine (ok b u q).stay (fun c v hc r => k c v ?_ r) (fun c r => by rw [upd_ne (nown c b r)]; exact r) fun c xs r => by rw [upd_ne (ntup c xs r)]; exact r
      rcases hc with rfl | hc
      · exact hbe
      · rintro rfl
        rcases he with z | z
        · exact nown c b hc z
        · rw [hc] at z; cases z; exact hb rfl
end

/-! ### kept unless tracked; of the frames at fs (the callers') the slots may change (an exception that passes writes there); of the records at ex (iterators) nothing is said -/
structure Un (fs ex : List Addr) (H H' : Hp) (h h' : Heap) : Prop where
  keep : ∀ b o, h.get? b = some o → H b = none → b ∉ fs → b ∉ ex → h'.get? b = some o
  slot : ∀ b o, h.get? b = some o → H b = none → b ∈ fs → b ∉ ex → ∃ sl, h'.get? b = some { o with slots := sl }
  free : ∀ b o, h.get? b = some o → H b = none → b ∉ ex → H' b = none
  there : ∀ b o, h.get? b = some o → b ∉ ex → ∃ o', h'.get? b = some o'
  tups : ∀ b xs, H b = some (.tup xs) → H' b = some (.tup xs)
  frzs : ∀ b o u, H b = some (.frz o u) → H' b = some (.frz o u)
  tbls : ∀ b ps, H b = some (.tbl ps) → ∃ more, H' b = some (.tbl (ps ++ more))
section
variable {fs fs' ex ex' : List Addr} {H H1 H2 : Hp} {h h1 h2 h' : Heap} {a x e : Addr} {o : HO}
theorem Un.any (u : Un fs ex H H1 h h1) {b : Addr} {ob : Obj} (q : h.get? b = some ob) (n : H b = none) (hx : b ∉ ex) : ∃ sl, h1.get? b = some { ob with slots := sl } := by
  by_cases hb : b ∈ fs
  · exact u.slot b ob q n hb hx
  · exact ⟨ob.slots, u.keep b ob q n hb hx⟩
theorem Un.kept (k : ∀ b u, h.get? b = some u → h'.get? b = some u) : Un fs ex H H h h' :=
  ⟨fun b ob q _ _ _ => k b ob q, fun b ob q _ _ _ => ⟨ob.slots, k b ob q⟩, fun _ _ _ n _ => n, fun b ob q _ => ⟨ob, k b ob q⟩, fun _ _ q => q, fun _ _ _ q => q, fun _ ps q => ⟨#[], by rw [q]; simp⟩⟩
theorem Un.refl : Un fs ex H H h h := Un.kept fun _ _ q => q
theorem Un.laid (k : ∀ b u, h.get? b = some u → h'.get? b = some u) (hp : h.objs.size ≤ a) (hn : H a = none) : Un fs ex H (upd H a o) h h' where
  keep := fun b u q _ _ _ => k b u q
  slot := fun b u q _ _ _ => ⟨u.slots, k b u q⟩
  free := fun b u q n _ => by rw [upd_ne (Nat.ne_of_lt (Nat.lt_of_lt_of_le (Heap.lt_size q) hp))]; exact n
  there := fun b u q _ => ⟨u, k b u q⟩
  tups := fun b xs q => by rw [upd_ne (ne_of_none q hn)]; exact q
  frzs := fun b u xs q => by rw [upd_ne (ne_of_none q hn)]; exact q
  tbls := fun b ps q => ⟨#[], by rw [upd_ne (ne_of_none q hn), q]; simp⟩
theorem Un.write (mu : Mut (H x)) (he : e = x ∨ H e = some (.own x)) (k : ∀ b u, b ≠ e → h.get? b = some u → h'.get? b = some u) (heo : ∃ u, h'.get? e = some u) : Un fs ex H (upd H x o) h h' := by
  have hx : ∀ b, H b = none → b ≠ x := fun b n z => by subst z; rw [n] at mu; exact mu
  have hb : ∀ b, H b = none → b ≠ e := fun b n z => by
    subst z
    rcases he with r | r
    · exact hx b n r
    · rw [n] at r; cases r
  have hm : ∀ b u, H b = some u → ¬ Mut (some u) → b ≠ x := fun b u q nm z => by subst z; rw [q] at mu; exact nm mu
  refine ⟨fun b u q n _ _ => k b u (hb b n) q, fun b u q n _ _ => ⟨u.slots, k b u (hb b n) q⟩, fun b u q n _ => by rw [upd_ne (hx b n)]; exact n, fun b u q _ => ?_,
    fun b xs q => by rw [upd_ne (hm b _ q fun z => z)]; exact q, fun b u xs q => by rw [upd_ne (hm b _ q fun z => z)]; exact q, fun b ps q => ⟨#[], by rw [upd_ne (hm b _ q fun z => z), q]; simp⟩⟩
  by_cases hbe : b = e
  · subst hbe; exact heo
  · exact ⟨u, k b u hbe q⟩
end

/-! ### the heap without what is tracked -/
def trk (h : Heap) (H : Hp) : List Addr := (List.range h.objs.size).filter fun a => (H a).isSome
def hidT (h : Heap) (H : Hp) : Heap := PySem.W.hideAll h (trk h H)
theorem hidT_size (h : Heap) (H : Hp) : (hidT h H).objs.size = h.objs.size := PySem.W.hideAll_size _ _
theorem hidT_get {h : Heap} {H : Hp} {b : Addr} {o : Obj} (e : h.get? b = some o) (n : H b = none) : (hidT h H).get? b = some o :=
  PySem.W.hideAll_get _ e fun hm => by
    have q : (H b).isSome = true := (List.mem_filter.mp hm).2
    rw [n] at q; simp at q
theorem of_hidT {h : Heap} {H : Hp} {b : Addr} {o : Obj} (e : (hidT h H).get? b = some o) : h.get? b = some o ∧ H b = none := by
  have e' : h.get? b = some o := PySem.W.of_hideAll (trk h H) e
  refine ⟨e', ?_⟩
  cases q : H b with
  | none => rfl
  | some x =>
    have hm : b ∈ trk h H := List.mem_filter.mpr ⟨List.mem_range.mpr (Heap.lt_size e'), by simp [q]⟩
    have z : (hidT h H).get? b = none := PySem.W.hideAll_none (trk h H) hm
    rw [z] at e; cases e

/-! ### OpenK's ledger, filled with every new object but one -/
def allNews (g h : Heap) (L : Addr) : List (Addr × Obj) := (List.range h.objs.size).filterMap fun a => if a = L ∨ (g.get? a).isSome = true then none else (h.get? a).map fun o => (a, o)
def rest (g h : Heap) (L d : Addr) : List (Addr × Obj) := (allNews g h L).filter fun p => decide (p.1 ≠ d)
end L2

namespace L2
open PySem PySem.Spec PyProof.Rows

/-- the module's facts, over the base: the heap at the law's entry without what is tracked there -/
structure Mod (K : PySem.W.Frag) (mg : Str → Option Value) (base : Heap) : Prop where
  kin : K.In base
  glob : base.Ns mainGlobals mg
  blt : ∃ mb, base.Ns builtinsNs mb ∧ ∀ x : Str, x ≠ "__name__" → mb x = bootBuiltins x
  nolimit : base.NoLimit

/-- the context: a def's body (or a comprehension's block) running. base: fixed through the whole law; s₀, H₀: the entry; outer: the frames whose slots others may change (a def's callers); stack: all frames that run;
   ex: iterators that were made ahead of the entry and are walked here (a comprehension's); fn: the names whose cells were made at the entry (a def: all; a comprehension's block: its own); calm: not within an except suite; pn: pins that every state bears; xe: what is wanted of an exception that leaves the code -/
structure Cx where
  prog : Program
  w : World
  K : PySem.W.Frag
  mg : Str → Option Value
  base : Heap
  A : Around
  N : List Str
  s₀ : Shared
  H₀ : Hp
  env : Env
  outer : List Env
  stack : List Env
  ex : List Addr
  fn : Str → Bool
  calm : Bool
  pn : List (Addr × Obj)
  xe : Value → Shared → Prop
/-- the callers' frames -/
def frs (l : List Env) : List Addr := l.filterMap (·.frame)
abbrev Cx.fs (X : Cx) : List Addr := frs X.outer

def Vis (sc : Scope) (x : Str) : Prop := sc.names.lookup x = some .local ∨ sc.names.lookup x = some .cell ∨ sc.names.lookup x = some .free
def Loc (sc : Scope) (x : Str) : Prop := sc.names.lookup x = some .local ∨ sc.names.lookup x = some .cell
def Look (env : Env) (h : Heap) (m : Str → Option Value) (x : Str) (u : Value) : Prop :=
  (env.kindOf x = some .local ∧ m x = some u) ∨ ((env.kindOf x = some .cell ∨ env.kindOf x = some .free) ∧ ∃ c, env.cells.lookup x = some c ∧ h.IsCell c (some u))

structure Cx.Ok (X : Cx) : Prop where
  mod : Mod X.K X.mg X.base
  kind : X.env.scope.kind = .function
  glob : X.env.globals = mainGlobals
  blt : X.env.builtins = builtinsNs
  above : X.s₀.heap.objs.size ≤ X.env.locals
  inj : ∀ x y c, X.env.cells.lookup x = some c → X.env.cells.lookup y = some c → x = y
  has : ∀ x, (X.env.kindOf x = some .cell ∨ X.env.kindOf x = some .free) → ∃ c, X.env.cells.lookup x = some c
  cab : ∀ x c, X.fn x = true → X.env.cells.lookup x = some c → X.s₀.heap.objs.size ≤ c
  hd : X.calm = true → X.A.handled = none
  frames : X.A.frames = some X.stack
  stk : X.stack = X.outer ∨ (X.stack = X.env :: X.outer ∧ X.env.frame = some X.env.locals)
  exf : ∀ b ∈ X.ex, b ≠ X.env.locals ∧ ∀ x c, X.env.cells.lookup x = some c → c ≠ b
  bs : ∀ b o, X.base.get? b = some o → X.s₀.heap.get? b = some o ∧ X.H₀ b = none
  bsz : X.base.objs.size ≤ X.s₀.heap.objs.size
  noex : ∀ b o, X.base.get? b = some o → b ∉ X.ex
  exfs : ∀ b ∈ X.ex, b ∉ X.fs
  funs : X.s₀.heap.FunFrames X.base X.outer
  frf : ∀ b ∈ X.fs, X.H₀ b = none

structure Inv (X : Cx) (pins : List (Addr × Obj)) (σ : List (Option V)) (H : Hp) (s : Shared) : Prop where
  ok : X.Ok
  os : s.os = X.s₀.os
  bare : AllBare s.gens
  base : Un X.fs X.ex X.H₀ H X.s₀.heap s.heap
  loc : ∃ m, s.heap.Ns X.env.locals m ∧ ∀ (i : Nat) (x : Str) (v : V), X.N[i]? = some x → σ[i]? = some (some v) → Vis X.env.scope x → ∃ u, RelV v u ∧ Look X.env s.heap m x u
  cell : ∀ x c, X.env.cells.lookup x = some c → ∃ v, s.heap.IsCell c v
  free : H X.env.locals = none
  freeC : ∀ x c, X.env.cells.lookup x = some c → H c = none
  pin : ∀ p ∈ X.pn ++ pins, s.heap.get? p.1 = some p.2 ∧ H p.1 = none ∧ p.1 ≠ X.env.locals ∧ p.1 ∉ X.fs ∧ ∀ v, p.2.data ≠ .cell v
  hok : HOk X.prog X.w H s.heap
  len : σ.length = X.N.length

section
variable {X : Cx} {pins : List (Addr × Obj)} {σ : List (Option V)} {H H' : Hp} {s : Shared} {h' : Heap}

theorem Cx.Ok.nofr (ok : X.Ok) {b : Addr} {o : Obj} (e : X.base.get? b = some o) : b ∉ X.fs := fun hb => by
  have := (ok.funs.mem hb).1
  rw [e] at this; cases this
theorem Inv.bs (I : Inv X pins σ H s) : ∀ b o, X.base.get? b = some o → s.heap.get? b = some o ∧ H b = none := fun b o e =>
  ⟨I.base.keep b o (I.ok.bs b o e).1 (I.ok.bs b o e).2 (I.ok.nofr e) (I.ok.noex b o e), I.base.free b o (I.ok.bs b o e).1 (I.ok.bs b o e).2 (I.ok.noex b o e)⟩
theorem Inv.bk (I : Inv X pins σ H s) : ∀ b o, X.base.get? b = some o → s.heap.get? b = some o := fun b o e => (I.bs b o e).1
theorem Inv.mod (I : Inv X pins σ H s) : Mod X.K X.mg X.base := I.ok.mod
theorem Inv.kIn (I : Inv X pins σ H s) : X.K.In s.heap := I.ok.mod.kin.keeps I.bk
theorem Inv.lt (I : Inv X pins σ H s) : X.env.locals < s.heap.objs.size := let ⟨_, hn, _⟩ := I.loc; hn.lt
theorem Inv.sz (I : Inv X pins σ H s) : X.s₀.heap.objs.size ≤ s.heap.objs.size := Nat.le_trans I.ok.above (Nat.le_of_lt I.lt)
theorem Inv.nofs (I : Inv X pins σ H s) {a : Addr} (h : s.heap.objs.size ≤ a) : a ∉ X.fs := fun hb => by
  obtain ⟨_, o, ho, _⟩ := I.ok.funs.mem hb
  exact absurd (Nat.lt_of_lt_of_le (Heap.lt_size ho) (Nat.le_trans I.sz h)) (Nat.lt_irrefl _)
theorem Inv.cne (I : Inv X pins σ H s) : ∀ x c, X.env.cells.lookup x = some c → c ≠ X.env.locals := fun x c e z => by
  obtain ⟨v, o, ho, hd⟩ := I.cell x c e
  obtain ⟨m, ⟨o', es, ep, ho', hd', _⟩, _⟩ := I.loc
  rw [z, ho'] at ho; cases ho; rw [hd'] at hd; cases hd
theorem Inv.funs (I : Inv X pins σ H s) : s.heap.FunFrames X.base X.outer := by
  have all : ∀ (l : List Env), (∀ b ∈ frs l, b ∈ X.fs) → X.s₀.heap.FunFrames X.base l → s.heap.FunFrames X.base l := by
    intro l
    induction l with
    | nil => intro _ _; trivial
    | cons env r ih =>
      intro hs hl
      obtain ⟨hk, ⟨L, o, hf, hn, ho, hd⟩, hr⟩ := hl
      have hL : L ∈ X.fs := hs L (by unfold frs; rw [List.filterMap_cons, hf]; exact List.mem_cons_self)
      obtain ⟨sl, e⟩ := I.base.slot L o ho (I.ok.frf L hL) hL fun z => I.ok.exfs L z hL
      exact ⟨hk, ⟨L, _, hf, hn, e, hd⟩, ih (fun b hb => hs b (by unfold frs; rw [List.filterMap_cons, hf]; exact List.mem_cons_of_mem _ hb)) hr⟩
  exact all X.outer (fun _ hb => hb) I.ok.funs

/-- the frames that run, for a call -/
theorem Inv.stack (I : Inv X pins σ H s) : s.heap.FunFrames X.base X.stack := by
  rcases I.ok.stk with e | ⟨e, hf⟩
  · rw [e]; exact I.funs
  · rw [e]
    obtain ⟨m, hn, _⟩ := I.loc
    refine .cons (by rw [I.ok.kind]; decide) hf hn ?_ I.funs
    exact Heap.get?_none_of_le (Nat.le_trans I.ok.bsz I.ok.above)
theorem Inv.stkSub (I : Inv X pins σ H s) : ∀ b ∈ frs X.stack, b ∈ X.env.locals :: X.fs := fun b hb => by
  rcases I.ok.stk with e | ⟨e, hf⟩
  · rw [e] at hb; exact List.mem_cons_of_mem _ hb
  · rw [e] at hb
    unfold frs at hb
    rw [List.filterMap_cons, hf] at hb
    exact hb
theorem Inv.stkFree (I : Inv X pins σ H s) : ∀ b ∈ frs X.stack, H b = none := fun b hb => by
  rcases List.mem_cons.mp (I.stkSub b hb) with e | hb
  · rw [e]; exact I.free
  · obtain ⟨_, o, ho, _⟩ := I.ok.funs.mem hb
    exact I.base.free b o ho (I.ok.frf b hb) fun z => I.ok.exfs b z hb

/-- THE STEP: the untracked objects but the frame and the records at ch are kept (the callers' frames up to slots), the frame's map is kept, the new abstract heap is held -/
theorem Inv.step {g' : Array GenState} {t' : Nat} {d' : Drawn} {ch : List Addr} (I : Inv X pins σ H s)
    (hch : ∀ b ∈ ch, (b ∈ X.ex ∨ X.s₀.heap.objs.size ≤ b) ∧ b ≠ X.env.locals ∧ (∀ x c, X.env.cells.lookup x = some c → c ≠ b) ∧ ∀ p ∈ X.pn ++ pins, p.1 ≠ b)
    (keep : ∀ b o, b ≠ X.env.locals → b ∉ X.fs → b ∉ ch → s.heap.get? b = some o → H b = none → h'.get? b = some o)
    (slot : ∀ b o, b ≠ X.env.locals → b ∈ X.fs → b ∉ ch → s.heap.get? b = some o → H b = none → ∃ sl, h'.get? b = some { o with slots := sl }) (free : ∀ b o, b ∉ ch → s.heap.get? b = some o → H b = none → H' b = none)
    (there : ∀ b o, b ∉ ch → s.heap.get? b = some o → ∃ o', h'.get? b = some o')
    (tups : ∀ b xs, H b = some (.tup xs) → H' b = some (.tup xs)) (frzs : ∀ b o u, H b = some (.frz o u) → H' b = some (.frz o u)) (tbls : ∀ b ps, H b = some (.tbl ps) → ∃ more, H' b = some (.tbl (ps ++ more)))
    (ns : ∀ m, s.heap.Ns X.env.locals m → h'.Ns X.env.locals m) (hok : HOk X.prog X.w H' h') (hg : AllBare g') :
    Inv X pins σ H' { s with heap := h', gens := g', drawn := d', toks := t' } := by
  have neL : ∀ b o, X.s₀.heap.get? b = some o → b ≠ X.env.locals := fun b o e => Nat.ne_of_lt (Nat.lt_of_lt_of_le (Heap.lt_size e) I.ok.above)
  have neC : ∀ b o, X.s₀.heap.get? b = some o → b ∉ X.ex → b ∉ ch := fun b o e hx hb => by
    rcases (hch b hb).1 with z | z
    · exact hx z
    · exact absurd (Nat.lt_of_lt_of_le (Heap.lt_size e) z) (Nat.lt_irrefl _)
  have cellK : ∀ x c, X.env.cells.lookup x = some c → ∀ v, s.heap.IsCell c v → h'.IsCell c v := fun x c e v ⟨o, ho, hd⟩ => by
    have nch : c ∉ ch := fun z => (hch c z).2.2.1 x c e rfl
    by_cases hc : c ∈ X.fs
    · obtain ⟨sl, q⟩ := slot c o (I.cne x c e) hc nch ho (I.freeC x c e)
      exact ⟨_, q, hd⟩
    · exact ⟨o, keep c o (I.cne x c e) hc nch ho (I.freeC x c e), hd⟩
  refine ⟨I.ok, I.os, hg, ⟨fun b o e n hb hx => ?_, fun b o e n hb hx => ?_, fun b o e n hx => ?_, fun b o e hx => ?_, fun b xs e => tups b xs (I.base.tups b xs e), fun b o xs e => frzs b o xs (I.base.frzs b o xs e), fun b ps e => ?_⟩, ?_, fun x c e => ?_, ?_, fun x c e => ?_, fun p hp => ?_, hok, I.len⟩
  · exact keep b o (neL b o e) hb (neC b o e hx) (I.base.keep b o e n hb hx) (I.base.free b o e n hx)
  · obtain ⟨sl, e1⟩ := I.base.slot b o e n hb hx
    obtain ⟨sl', e2⟩ := slot b _ (neL b o e) hb (neC b o e hx) e1 (I.base.free b o e n hx)
    exact ⟨sl', e2⟩
  · obtain ⟨o', e1⟩ := I.base.there b o e hx
    exact free b o' (neC b o e hx) e1 (I.base.free b o e n hx)
  · obtain ⟨o', e1⟩ := I.base.there b o e hx
    exact there b o' (neC b o e hx) e1
  · obtain ⟨m1, e1⟩ := I.base.tbls b ps e
    obtain ⟨m2, e2⟩ := tbls b _ e1
    exact ⟨m1 ++ m2, by rw [e2, Array.append_assoc]⟩
  · obtain ⟨m, hn, hl⟩ := I.loc
    refine ⟨m, ns m hn, fun i x v e1 e2 e3 => ?_⟩
    obtain ⟨u, r, l⟩ := hl i x v e1 e2 e3
    refine ⟨u, r, ?_⟩
    rcases l with l | ⟨k, c, e, z⟩
    · exact .inl l
    · exact .inr ⟨k, c, e, cellK x c e _ z⟩
  · obtain ⟨v, z⟩ := I.cell x c e
    exact ⟨v, cellK x c e v z⟩
  · obtain ⟨m, ⟨o, _, _, ho, _⟩, _⟩ := I.loc
    exact free _ o (fun z => (hch _ z).2.1 rfl) ho I.free
  · obtain ⟨v, o, ho, hd⟩ := I.cell x c e
    exact free c o (fun z => (hch c z).2.2.1 x c e rfl) ho (I.freeC x c e)
  · obtain ⟨e, n, ne, nf, d⟩ := I.pin p hp
    have nch : p.1 ∉ ch := fun z => (hch p.1 z).2.2.2 p hp rfl
    exact ⟨keep p.1 p.2 ne nf nch e n, free p.1 p.2 nch e n, ne, nf, d⟩
/-- .. where the frame's own object is kept too -/
theorem Inv.un {t' : Nat} (I : Inv X pins σ H s) (u : Un X.fs [] H H' s.heap h') (hok : HOk X.prog X.w H' h') : Inv X pins σ H' { s with heap := h', toks := t' } := by
  obtain ⟨m, ⟨o, es, ep, ho, r⟩, _⟩ := id I.loc
  obtain ⟨sl, hL⟩ := u.any ho I.free (by simp)
  exact I.step (g' := s.gens) (d' := s.drawn) (ch := []) (fun _ z => nomatch z) (fun b o _ hb _ e n => u.keep b o e n hb (by simp)) (fun b o _ hb _ e n => u.slot b o e n hb (by simp)) (fun b o _ e n => u.free b o e n (by simp)) (fun b o _ e => u.there b o e (by simp)) u.tups u.frzs u.tbls (fun m' hm => by
    obtain ⟨o', es', ep', ho', r'⟩ := hm
    rw [ho] at ho'; cases ho'
    exact ⟨_, es', ep', hL, r'⟩) hok I.bare
/-- behind a call (or a comprehension's block): the slots of this frame may have changed too, the records at ch may have turned -/
theorem Inv.call {g' : Array GenState} {t' : Nat} {d' : Drawn} {ch : List Addr} (I : Inv X pins σ H s) (u : Un (frs X.stack) ch H H' s.heap h') (hok : HOk X.prog X.w H' h') (hg : AllBare g')
    (hch : ∀ b ∈ ch, (b ∈ X.ex ∨ X.s₀.heap.objs.size ≤ b) ∧ b ≠ X.env.locals ∧ (∀ x c, X.env.cells.lookup x = some c → c ≠ b) ∧ ∀ p ∈ X.pn ++ pins, p.1 ≠ b) :
    Inv X pins σ H' { s with heap := h', gens := g', drawn := d', toks := t' } := by
  obtain ⟨m, ⟨o, es, ep, ho, r⟩, _⟩ := id I.loc
  obtain ⟨sl, hL⟩ := u.any ho I.free fun z => (hch _ z).2.1 rfl
  exact I.step (ch := ch) hch (fun b o hL hb hc e n => u.keep b o e n (fun z => (List.mem_cons.mp (I.stkSub b z)).elim hL hb) hc) (fun b o _ _ hc e n => u.any e n hc) (fun b o hc e n => u.free b o e n hc) (fun b o hc e => u.there b o e hc) u.tups u.frzs u.tbls (fun m' hm => by
    obtain ⟨o', es', ep', ho', r'⟩ := hm
    rw [ho] at ho'; cases ho'
    exact ⟨_, es', ep', hL, r'⟩) hok hg
/-- an untracked record of ours (an iterator) has turned -/
theorem Inv.turned {t' : Nat} {it : Addr} (I : Inv X pins σ H s) (k : ∀ b o, b ≠ it → s.heap.get? b = some o → h'.get? b = some o) (hn : H it = none) (hL : it ≠ X.env.locals)
    (h1 : it ∈ X.ex ∨ X.s₀.heap.objs.size ≤ it) (h2 : ∀ x c, X.env.cells.lookup x = some c → c ≠ it) (h3 : ∀ p ∈ X.pn ++ pins, p.1 ≠ it) : Inv X pins σ H { s with heap := h', toks := t' } := by
  have nit : ∀ b u, H b = some u → b ≠ it := fun b u e z => by rw [z, hn] at e; cases e
  refine I.step (g' := s.gens) (d' := s.drawn) (ch := [it]) (fun b hb => ?_) (fun b o _ _ hc e _ => k b o (fun z => hc (by simp [z])) e) (fun b o _ _ hc e _ => ⟨o.slots, k b o (fun z => hc (by simp [z])) e⟩) (fun _ _ _ _ n => n)
    (fun b o hc e => ⟨o, k b o (fun z => hc (by simp [z])) e⟩) (fun _ _ e => e) (fun _ _ _ e => e) (fun b ps e => ⟨#[], by rw [e]; simp⟩) (fun m hm => ?_) (fun b u e => ?_) I.bare
  · have e : b = it := by simpa using hb
    subst e
    exact ⟨h1, hL, h2, h3⟩
  · obtain ⟨o, es, ep, ho, r⟩ := hm
    exact ⟨o, es, ep, k _ o (Ne.symm hL) ho, r⟩
  · refine (I.hok b u e).stay (fun c v hc q => k c v ?_ q) (fun _ q => q) fun _ _ q => q
    rcases hc with z | z
    · rw [z]; exact nit b u e
    · exact nit c _ z
theorem Inv.tok (I : Inv X pins σ H s) (t : Nat) : Inv X pins σ H { s with toks := t } := I.un (h' := s.heap) (t' := t) Un.refl I.hok
/-- all objects kept -/
theorem Inv.kept {t' : Nat} (I : Inv X pins σ H s) (k : ∀ b u, s.heap.get? b = some u → h'.get? b = some u) : Inv X pins σ H { s with heap := h', toks := t' } := I.un (Un.kept k) (I.hok.kept k)
/-- a new object laid and tracked -/
theorem Inv.laid {a : Addr} {o : HO} {t' : Nat} (I : Inv X pins σ H s) (k : ∀ b u, s.heap.get? b = some u → h'.get? b = some u) (hp : s.heap.objs.size ≤ a) (new : ObjOk X.prog X.w (upd H a o) h' a o) :
    Inv X pins σ (upd H a o) { s with heap := h', toks := t' } := I.un (Un.laid k hp (I.hok.fresh hp)) (I.hok.laid k hp new)
/-- an object written -/
theorem Inv.write {x e : Addr} {o : HO} {t' : Nat} (I : Inv X pins σ H s) (mu : Mut (H x)) (he : e = x ∨ H e = some (.own x)) (k : ∀ b u, b ≠ e → s.heap.get? b = some u → h'.get? b = some u) (heo : ∃ u, h'.get? e = some u)
    (new : ObjOk X.prog X.w (upd H x o) h' x o) : Inv X pins σ (upd H x o) { s with heap := h', toks := t' } := I.un (Un.write mu he k heo) (I.hok.write mu he k heo new)
/-- forgetting slots, pins -/
theorem Inv.weak {σ' : List (Option V)} (I : Inv X pins σ H s) (hl : σ'.length = σ.length) (w : ∀ (i : Nat) v, σ'[i]? = some (some v) → σ[i]? = some (some v)) : Inv X pins σ' H s :=
  ⟨I.ok, I.os, I.bare, I.base, let ⟨m, hn, hl'⟩ := I.loc; ⟨m, hn, fun i x v e1 e2 e3 => hl' i x v e1 (w i v e2) e3⟩, I.cell, I.free, I.freeC, I.pin, I.hok, hl.trans I.len⟩
theorem Inv.pins_of {pins' : List (Addr × Obj)} (I : Inv X pins σ H s) (h : ∀ p ∈ pins', s.heap.get? p.1 = some p.2 ∧ H p.1 = none ∧ p.1 ≠ X.env.locals ∧ p.1 ∉ X.fs ∧ ∀ v, p.2.data ≠ .cell v) : Inv X pins' σ H s :=
  ⟨I.ok, I.os, I.bare, I.base, I.loc, I.cell, I.free, I.freeC, fun p hp => (List.mem_append.mp hp).elim (fun z => I.pin p (List.mem_append_left _ z)) (h p), I.hok, I.len⟩

theorem nodup_ix {N : List Str} (hN : N.Nodup) {i j : Nat} {x : Str} (a : N[i]? = some x) (b : N[j]? = some x) : i = j := by
  obtain ⟨h1, e1⟩ := List.getElem?_eq_some_iff.mp a
  obtain ⟨h2, e2⟩ := List.getElem?_eq_some_iff.mp b
  exact (List.getElem_inj hN).mp (e1.trans e2.symm)

/-- a name is stored; what changed -/
theorem store_ok2 {M : Model} {A : Around} {E : Value → Shared → Prop} {i : Nat} {x : Str} {v : V} {u : Value} {Q : Unit → Shared → Prop} (I : Inv X pins σ H s) (hN : X.N.Nodup) (hi : X.N[i]? = some x) (hx : Loc X.env.scope x) (r : RelV v u)
    (h : ∀ s', Inv X pins (σ.set i (some v)) H s' → (∃ a, Heap.SameBut a s.heap s'.heap ∧ (a = X.env.locals ∨ X.env.cells.lookup x = some a)) → Q () s') (hf : X.fn x = true ∨ X.env.scope.names.lookup x = some .local := by first | exact .inl rfl | exact .inr rfl | assumption) : wpAny M A (storeName X.env x u) Q E s := by
  obtain ⟨m, hn, hl⟩ := id I.loc
  have hcls : (X.env.scope.kind == .class || (X.env.scope.kind == .module && X.env.locals != X.env.globals)) = false := by rw [I.ok.kind]; rfl
  have hiσ : i < σ.length := by rw [I.len]; exact (List.getElem?_eq_some_iff.mp hi).1
  have cne := I.cne
  have tracked : ∀ {a : Addr} {h' : Heap}, (∃ o, s.heap.get? a = some o ∧ H a = none) → Heap.SameBut a s.heap h' → HOk X.prog X.w H h' := fun {a h'} ha hs b ob e => by
    obtain ⟨_, _, hfree⟩ := ha
    refine (I.hok b ob e).stay (fun c w' hc q => (hs.2 c ?_).trans q) (fun _ q => q) fun _ _ q => q
    rintro rfl
    rcases hc with rfl | hc
    · rw [hfree] at e; cases e
    · rw [hfree] at hc; cases hc
  rcases hx with hk | hk
  · refine wpAny_storeName_local hk hn (fun h' hn' hs => ?_) hcls
    obtain ⟨oL, _, _, hoL, _⟩ := id hn
    refine h _ ⟨I.ok, I.os, I.bare, ⟨fun b o e n hb hx => ?_, fun b o e n hb hx => ?_, I.base.free, fun b o e hx => ?_, I.base.tups, I.base.frzs, I.base.tbls⟩, ⟨_, hn', fun j y v' e1 e2 e3 => ?_⟩, fun y c e => ?_, I.free, I.freeC, fun p hp => ?_, tracked ⟨oL, hoL, I.free⟩ hs, by simpa using I.len⟩ ⟨_, hs, .inl rfl⟩
    · exact (hs.2 b (Nat.ne_of_lt (Nat.lt_of_lt_of_le (Heap.lt_size e) I.ok.above))).trans (I.base.keep b o e n hb hx)
    · obtain ⟨sl, e1⟩ := I.base.slot b o e n hb hx
      exact ⟨sl, (hs.2 b (Nat.ne_of_lt (Nat.lt_of_lt_of_le (Heap.lt_size e) I.ok.above))).trans e1⟩
    · obtain ⟨o', e1⟩ := I.base.there b o e hx
      exact ⟨o', (hs.2 b (Nat.ne_of_lt (Nat.lt_of_lt_of_le (Heap.lt_size e) I.ok.above))).trans e1⟩
    · by_cases hj : j = i
      · subst hj
        rw [hi] at e1; cases e1
        rw [List.getElem?_set_self hiσ] at e2
        cases e2
        exact ⟨u, r, .inl ⟨hk, by simp⟩⟩
      · rw [List.getElem?_set_ne (Ne.symm hj)] at e2
        obtain ⟨u', r', q⟩ := hl j y v' e1 e2 e3
        refine ⟨u', r', ?_⟩
        rcases q with ⟨k, e⟩ | ⟨k, c, e, z⟩
        · refine .inl ⟨k, ?_⟩
          have : y ≠ x := fun e => hj (nodup_ix hN e1 (e ▸ hi))
          simp [this, e]
        · exact .inr ⟨k, c, e, z.sameBut hs (cne y c e)⟩
    · obtain ⟨w', z⟩ := I.cell y c e
      exact ⟨w', z.sameBut hs (cne y c e)⟩
    · obtain ⟨e, n, ne, nf, d⟩ := I.pin p hp
      exact ⟨(hs.2 p.1 ne).trans e, n, ne, nf, d⟩
  · have hfn : X.fn x = true := by
      rcases hf with z | z
      · exact z
      · rw [z] at hk; cases hk
    obtain ⟨c, hc⟩ := I.ok.has x (.inl hk)
    obtain ⟨w', z⟩ := I.cell x c hc
    refine wpAny_storeName_cell I.ok.kind hk hc z (fun h' hc' hs => ?_)
    obtain ⟨oc, hoc, hocd⟩ := id z
    refine h { s with heap := h' } ⟨I.ok, I.os, I.bare, ⟨fun b o e n hb hx => ?_, fun b o e n hb hx => ?_, I.base.free, fun b o e hx => ?_, I.base.tups, I.base.frzs, I.base.tbls⟩, ⟨m, hn.sameBut hs (Ne.symm (cne x c hc)), fun j y v' e1 e2 e3 => ?_⟩, fun y c' e => ?_, I.free, I.freeC, fun p hp => ?_, tracked ⟨oc, hoc, I.freeC x c hc⟩ hs, by simpa using I.len⟩ ⟨c, hs, .inr hc⟩
    · exact (hs.2 b (Nat.ne_of_lt (Nat.lt_of_lt_of_le (Heap.lt_size e) (I.ok.cab x c hfn hc)))).trans (I.base.keep b o e n hb hx)
    · obtain ⟨sl, e1⟩ := I.base.slot b o e n hb hx
      exact ⟨sl, (hs.2 b (Nat.ne_of_lt (Nat.lt_of_lt_of_le (Heap.lt_size e) (I.ok.cab x c hfn hc)))).trans e1⟩
    · obtain ⟨o', e1⟩ := I.base.there b o e hx
      exact ⟨o', (hs.2 b (Nat.ne_of_lt (Nat.lt_of_lt_of_le (Heap.lt_size e) (I.ok.cab x c hfn hc)))).trans e1⟩
    · by_cases hj : j = i
      · subst hj
        rw [hi] at e1; cases e1
        rw [List.getElem?_set_self hiσ] at e2
        cases e2
        exact ⟨u, r, .inr ⟨.inl hk, c, hc, hc'⟩⟩
      · rw [List.getElem?_set_ne (Ne.symm hj)] at e2
        obtain ⟨u', r', q⟩ := hl j y v' e1 e2 e3
        refine ⟨u', r', ?_⟩
        rcases q with q | ⟨k, c', e, z'⟩
        · exact .inl q
        · refine .inr ⟨k, c', e, z'.sameBut hs ?_⟩
          rintro rfl
          exact hj (nodup_ix hN e1 (I.ok.inj _ _ _ e hc ▸ hi))
    · by_cases hcc : c' = c
      · subst hcc; exact ⟨_, hc'⟩
      · obtain ⟨w2, z2⟩ := I.cell y c' e
        exact ⟨w2, z2.sameBut hs hcc⟩
    · obtain ⟨e, n, ne, nf, d⟩ := I.pin p hp
      refine ⟨(hs.2 p.1 ?_).trans e, n, ne, nf, d⟩
      intro q
      rw [q, hoc] at e
      have q' : oc = p.2 := Option.some.inj e
      exact d w' (by rw [← q']; exact hocd)
theorem store_ok {M : Model} {A : Around} {E : Value → Shared → Prop} {i : Nat} {x : Str} {v : V} {u : Value} {Q : Unit → Shared → Prop} (I : Inv X pins σ H s) (hN : X.N.Nodup) (hi : X.N[i]? = some x) (hx : Loc X.env.scope x) (r : RelV v u)
    (h : ∀ s', Inv X pins (σ.set i (some v)) H s' → Q () s') (hf : X.fn x = true ∨ X.env.scope.names.lookup x = some .local := by first | exact .inl rfl | exact .inr rfl | assumption) : wpAny M A (storeName X.env x u) Q E s :=
  store_ok2 I hN hi hx r (fun s' I' _ => h s' I') hf
/-- behind a call or a block, the state as it is -/
theorem Inv.call' {s' : Shared} {ch : List Addr} (I : Inv X pins σ H s) (ho : s'.os = s.os) (u : Un (frs X.stack) ch H H' s.heap s'.heap) (hok : HOk X.prog X.w H' s'.heap) (hg : AllBare s'.gens)
    (hch : ∀ b ∈ ch, (b ∈ X.ex ∨ X.s₀.heap.objs.size ≤ b) ∧ b ≠ X.env.locals ∧ (∀ x c, X.env.cells.lookup x = some c → c ≠ b) ∧ ∀ p ∈ X.pn ++ pins, p.1 ≠ b) : Inv X pins σ H' s' := by
  obtain ⟨h', g', d', t', o'⟩ := s'
  have e : o' = s.os := ho
  subst e
  exact I.call (g' := g') (t' := t') (d' := d') u hok hg hch
end

/-! ### the judgements -/
/-- an exception: its class, its own dict's address (where it has one), the abstract heap behind it -/
abbrev XK := Value → Option Addr → Hp → Prop
abbrev St := List (Option V)
abbrev VK := V → Hp → Prop
/-- an expression's reading; a test's; an argument list's -/
abbrev TE := St → Hp → VK → Prop
abbrev TT := St → Hp → (Bool → Hp → Prop) → Prop
abbrev TA := St → Hp → (List V → Hp → Prop) → Prop
/-- what is wanted behind a statement -/
structure Ends where
  nx : St → Hp → Prop
  rt : VK
  bk : St → Hp → Prop := fun _ _ => False
  ct : St → Hp → Prop := fun _ _ => False
abbrev TS := Ends → St → Hp → Prop

def EP (X : Cx) (pins : List (Addr × Obj)) (σ : St) (Q : VK) (u : Value) (s' : Shared) : Prop := ∃ v H', Inv X pins σ H' s' ∧ RelV v u ∧ Q v H'
def TP (X : Cx) (pins : List (Addr × Obj)) (σ : St) (Q : Bool → Hp → Prop) (b : Bool) (s' : Shared) : Prop := ∃ H', Inv X pins σ H' s' ∧ Q b H'
def AP (X : Cx) (pins : List (Addr × Obj)) (σ : St) (Q : List V → Hp → Prop) (us : List Value) (s' : Shared) : Prop := ∃ vs H', Inv X pins σ H' s' ∧ Vals vs us ∧ Q vs H'
def SP (X : Cx) (pins : List (Addr × Obj)) (D : Ends) (f : Flow) (s' : Shared) : Prop :=
  match f with
  | .next => ∃ σ' H', Inv X pins σ' H' s' ∧ D.nx σ' H'
  | .brk => ∃ σ' H', Inv X pins σ' H' s' ∧ D.bk σ' H'
  | .cont => ∃ σ' H', Inv X pins σ' H' s' ∧ D.ct σ' H'
  | .ret u => ∃ v σ' H', Inv X pins σ' H' s' ∧ RelV v u ∧ D.rt v H'

def PE (X : Cx) (e : Expr) (t : TE) : Prop :=
  ∀ (pins : List (Addr × Obj)) (s : Shared) (σ : St) (H : Hp) (Q : VK), Inv X pins σ H s → t σ H Q → wpAny (model X.prog X.w) X.A (eval e X.env) (EP X pins σ Q) X.xe s
def PT (X : Cx) (e : Expr) (t : TT) : Prop :=
  ∀ (pins : List (Addr × Obj)) (s : Shared) (σ : St) (H : Hp) (Q : Bool → Hp → Prop), Inv X pins σ H s → t σ H Q → wpAny (model X.prog X.w) X.A (isTrue e X.env (eval e X.env)) (TP X pins σ Q) X.xe s
/-- a test whatever its 'whole' is (and, or) -/
def PW (X : Cx) (e : Expr) (t : TT) : Prop :=
  ∀ (whole : Sem Value) (pins : List (Addr × Obj)) (s : Shared) (σ : St) (H : Hp) (Q : Bool → Hp → Prop), Inv X pins σ H s → t σ H Q → wpAny (model X.prog X.w) X.A (isTrue e X.env whole) (TP X pins σ Q) X.xe s
theorem PW.pt {X : Cx} {e : Expr} {t : TT} (h : PW X e t) : PT X e t := h _
/-- an argument list (no star), from the left -/
def PA (X : Cx) (es : List Expr) (t : TA) : Prop :=
  ∀ (pos : Pos) (pins : List (Addr × Obj)) (s : Shared) (σ : St) (H : Hp) (Q : List V → Hp → Prop), Inv X pins σ H s → t σ H Q → wpAny (model X.prog X.w) X.A (spliced (backTo pos (starEach es X.env))) (AP X pins σ Q) X.xe s
def PS (X : Cx) (st : Stmt) (t : TS) : Prop :=
  ∀ (pins : List (Addr × Obj)) (s : Shared) (σ : St) (H : Hp) (D : Ends), Inv X pins σ H s → t D σ H → wpAny (model X.prog X.w) X.A (exec st X.env) (SP X pins D) X.xe s
def PSs (X : Cx) (st : List Stmt) (t : TS) : Prop :=
  ∀ (pins : List (Addr × Obj)) (s : Shared) (σ : St) (H : Hp) (D : Ends), Inv X pins σ H s → t D σ H → wpAny (model X.prog X.w) X.A (execs st X.env) (SP X pins D) X.xe s
/-- weaken the end -/
theorem thn {α : Type} {t : Sem α} {Q Q' : α → Shared → Prop} {M : Model} {A : Around} {E : Value → Shared → Prop} {s : Shared} (h : wpAny M A t Q E s) (hQ : ∀ a s, Q a s → Q' a s) : wpAny M A t Q' E s := wpAny_mono h hQ fun _ _ x => x
end L2

namespace L2
open PySem PySem.Spec PyProof.Rows
section
variable {X : Cx}

/-! ### names and constants -/
def tVar (i : Nat) : TE := fun σ H Q => ∃ v, σ[i]? = some (some v) ∧ Q v H
def tC (v : V) : TE := fun _ H Q => Q v H
theorem pe_var {i : Nat} {x : Str} {pos : Pos} (hN : X.N[i]? = some x) (hv : Vis X.env.scope x) (hd : (x == ("__debug__" : Str)) = false := by decide) (hcd : (x == ("__classdict__" : Str)) = false := by decide) : PE X (.Name x pos) (tVar i) := by
  intro pins s σ H Q I h
  obtain ⟨v, e, h⟩ := h
  obtain ⟨m, hn, hl⟩ := I.loc
  obtain ⟨u, r, l⟩ := hl i x v hN e hv
  have fin : EP X pins σ Q u s := ⟨v, H, I, r, h⟩
  rcases l with ⟨hk, hm⟩ | ⟨hk, c, hc, hcell⟩
  · exact wpAny_Name (wpAny_loadName_local I.ok.kind hk hn hm fin) hd
  · rcases hk with hk | hk
    · exact wpAny_Name (wpAny_loadName_cell I.ok.kind hk hc hcell fin) hd
    · exact wpAny_Name (wpAny_loadName_free I.ok.kind hk hc hcell fin hcd) hd
theorem pe_int {i j pos} : PE X (.Constant (.int i) j pos) (tC (.int i)) := fun _ _ _ H _ I h => wpAny_Constant_int ⟨.int i, H, I.tok _, ⟨_, rfl⟩, h⟩
theorem pe_bl {b j pos} : PE X (.Constant (.bool b) j pos) (tC (.bl b)) := fun _ _ _ H _ I h => Constant_bool ⟨.bl b, H, I, rfl, h⟩
theorem pe_non {j pos} : PE X (.Constant .none j pos) (tC .non) := fun _ _ _ H _ I h => Constant_none ⟨.non, H, I, rfl, h⟩
theorem pe_str {x j pos} : PE X (.Constant (.str x) j pos) (tC (.str x)) := fun _ _ _ H _ I h => Calls.Constant_str ⟨.str x, H, I.tok _, ⟨_, rfl⟩, h⟩

/-- a global name of the def -/
def Gl (X : Cx) (x : Str) : Prop := X.env.kindOf x = some .globalImplicit
theorem ld_glob {E : Value → Shared → Prop} {pins : List (Addr × Obj)} {s : Shared} {σ : St} {H : Hp} {x : Str} {u : Value} {pos : Pos} {Q : Value → Shared → Prop} (I : Inv X pins σ H s) (hg : Gl X x) (hm : X.mg x = some u) (h : Q u s)
    (hd : (x == ("__debug__" : Str)) = false := by decide) : wpAny (model X.prog X.w) X.A (eval (.Name x pos) X.env) Q E s :=
  Calls.Name_function_global I.ok.kind hg (Calls.loadGlobal_global (by rw [I.ok.glob]; exact I.mod.glob.keeps I.bk) hm h) hd
theorem ld_blt {E : Value → Shared → Prop} {pins : List (Addr × Obj)} {s : Shared} {σ : St} {H : Hp} {x : Str} {u : Value} {pos : Pos} {Q : Value → Shared → Prop} (I : Inv X pins σ H s) (hg : Gl X x) (hm : X.mg x = none) (hv : bootBuiltins x = some u) (h : Q u s)
    (hn : x ≠ "__name__" := by decide) (hd : (x == ("__debug__" : Str)) = false := by decide) : wpAny (model X.prog X.w) X.A (eval (.Name x pos) X.env) Q E s := by
  obtain ⟨mb, h1, h2⟩ := I.mod.blt
  exact Calls.Name_function_global I.ok.kind hg (Calls.loadGlobal_builtin (by rw [I.ok.glob]; exact I.mod.glob.keeps I.bk) hm (by rw [I.ok.blt]; exact h1.keeps I.bk) ((h2 x hn).trans hv) h) hd
/-- a module's constant, a class, a function, as a value -/
theorem pe_glob {x : Str} {v : V} {u : Value} {pos : Pos} (hg : Gl X x) (hm : X.mg x = some u) (r : RelV v u) (hd : (x == ("__debug__" : Str)) = false := by decide) : PE X (.Name x pos) (tC v) :=
  fun _ _ _ H _ I h => ld_glob I hg hm ⟨v, H, I, r, h⟩ hd
theorem pe_bltn {x : Str} {v : V} {u : Value} {pos : Pos} (hg : Gl X x) (hm : X.mg x = none) (hv : bootBuiltins x = some u) (r : RelV v u) (hn : x ≠ "__name__" := by decide) (hd : (x == ("__debug__" : Str)) = false := by decide) : PE X (.Name x pos) (tC v) :=
  fun _ _ _ H _ I h => ld_blt I hg hm hv ⟨v, H, I, r, h⟩ hn hd

/-! ### arithmetic -/
/-- two ints -/
def t2I (ta tb : TE) (k : Int → Int → Hp → Prop) : St → Hp → Prop := fun σ H => ta σ H fun x H1 => tb σ H1 fun y H2 => ∃ i j, x = .int i ∧ y = .int j ∧ k i j H2
def tAdd (ta tb : TE) : TE := fun σ H Q => t2I ta tb (fun i j H2 => Q (.int (i + j)) H2) σ H
def tSub (ta tb : TE) : TE := fun σ H Q => t2I ta tb (fun i j H2 => Q (.int (i - j)) H2) σ H
/-- the left factor below 2^64 -/
def tMul (ta tb : TE) : TE := fun σ H Q => t2I ta tb (fun i j H2 => (-(2 ^ 64) < i ∧ i < 2 ^ 64) ∧ Q (.int (i * j)) H2) σ H
variable {a b : Expr} {ta tb : TE} {pos : Pos}
/-! ### comparisons -/
def PC (X : Cx) (op : CmpOp) (a b : Expr) (t : TE) : Prop :=
  ∀ (pins : List (Addr × Obj)) (s : Shared) (σ : St) (H : Hp) (Q : VK), Inv X pins σ H s → t σ H Q →
    wpAny (model X.prog X.w) X.A (eval a X.env) (fun v s₁ => wpAny (model X.prog X.w) X.A (eval b X.env) (fun u s₂ => wpAny (model X.prog X.w) X.A (compareOp op v u) (EP X pins σ Q) X.xe s₂) X.xe s₁) X.xe s
def tCmp (p : Int → Int → Bool) (ta tb : TE) : TE := fun σ H Q => t2I ta tb (fun i j H2 => Q (.bl (p i j)) H2) σ H
abbrev tLt : TE → TE → TE := tCmp fun i j => decide (i < j)
abbrev tLe : TE → TE → TE := tCmp fun i j => decide (i ≤ j)
abbrev tGt : TE → TE → TE := tCmp fun i j => decide (j < i)
abbrev tGe : TE → TE → TE := tCmp fun i j => decide (j ≤ i)
abbrev tEqI : TE → TE → TE := tCmp fun i j => decide (i = j)
abbrev tNeI : TE → TE → TE := tCmp fun i j => !decide (i = j)
/-- is None -/
def tIsN (ta : TE) : TE := fun σ H Q => ta σ H fun x H1 => Q (.bl (decide (x = .non))) H1
def tNotN (ta : TE) : TE := fun σ H Q => ta σ H fun x H1 => Q (.bl (!decide (x = .non))) H1
/-- a comparison as a value, as a test -/
def tB (t : TE) : TT := fun σ H Q => t σ H fun x H1 => ∃ c, x = .bl c ∧ Q c H1
/-- an expression whose value is a bool, as a test -/
theorem pt_val {e : Expr} {t : TE} (h : PE X e t) (he : ∀ whole, isTrue e X.env whole = (do let v ← whole; standAt e.pos; holding [v] (truthy v)) := by intro _; rfl) : PT X e (tB t) := by
  intro pins s σ H Q I hw
  refine isTrue_plain (thn (h pins s σ H _ I hw) fun v s1 ⟨x, H1, I1, r1, q1⟩ => ?_) (he _)
  obtain ⟨d, rfl, q⟩ := q1
  cases r1
  exact wpAny_truthy_bool ⟨H1, I1, q⟩

/-! ### and, or, not -/
variable {tA tB' : TT} {rest : List Expr}
def tAnd (t u : TT) : TT := fun σ H Q => t σ H fun c H1 => if c = true then u σ H1 Q else Q false H1
def tOr (t u : TT) : TT := fun σ H Q => t σ H fun c H1 => if c = true then Q true H1 else u σ H1 Q
def tNot (t : TT) : TT := fun σ H Q => t σ H fun c H1 => Q (!c) H1
theorem pw_and1 (ha : PT X a tA) : PW X (.BoolOp .And [a] pos) tA := by
  intro wh pins s σ H Q I h
  refine isTrue_and (thn (ha pins s σ H Q I h) fun c s1 e => ?_)
  cases c with
  | true => exact isTrue_and_nil e
  | false => exact e
theorem pw_or1 (ha : PT X a tA) : PW X (.BoolOp .Or [a] pos) tA := by
  intro wh pins s σ H Q I h
  refine isTrue_or (thn (ha pins s σ H Q I h) fun c s1 e => ?_)
  cases c with
  | false => exact isTrue_or_nil e
  | true => exact e
theorem pw_and (ha : PT X a tA) (hb : PW X (.BoolOp .And (b :: rest) pos) tB') : PW X (.BoolOp .And (a :: b :: rest) pos) (tAnd tA tB') := by
  intro wh pins s σ H Q I h
  refine isTrue_and (thn (ha pins s σ H _ I h) fun c s1 ⟨H1, I1, q1⟩ => ?_)
  cases c with
  | true => exact hb wh pins s1 σ H1 Q I1 q1
  | false => exact ⟨H1, I1, q1⟩
theorem pw_or (ha : PT X a tA) (hb : PW X (.BoolOp .Or (b :: rest) pos) tB') : PW X (.BoolOp .Or (a :: b :: rest) pos) (tOr tA tB') := by
  intro wh pins s σ H Q I h
  refine isTrue_or (thn (ha pins s σ H _ I h) fun c s1 ⟨H1, I1, q1⟩ => ?_)
  cases c with
  | true => exact ⟨H1, I1, q1⟩
  | false => exact hb wh pins s1 σ H1 Q I1 q1
theorem pt_not (ha : PT X a tA) : PT X (.UnaryOp .Not a pos) (tNot tA) := by
  intro pins s σ H Q I h
  exact isTrue_not (ha pins s σ H (fun c H1 => Q (!c) H1) I h)
/-- .. as values (bools) -/
def tAndV (ta tb : TE) : TE := fun σ H Q => ta σ H fun x H1 => ∃ c, x = .bl c ∧ if c = true then tb σ H1 Q else Q (.bl false) H1
def tOrV (ta tb : TE) : TE := fun σ H Q => ta σ H fun x H1 => ∃ c, x = .bl c ∧ if c = true then Q (.bl true) H1 else tb σ H1 Q
def tNotV (ta : TE) : TE := fun σ H Q => ta σ H fun x H1 => ∃ c, x = .bl c ∧ Q (.bl (!c)) H1
theorem pe_one {op} {t : TE} (h : PE X a t) : PE X (.BoolOp op [a] pos) t := fun pins s σ H Q I hw => BoolOp_one (h pins s σ H Q I hw)
theorem pe_and (ha : PE X a ta) (hb : PE X (.BoolOp .And (b :: rest) pos) tb) : PE X (.BoolOp .And (a :: b :: rest) pos) (tAndV ta tb) := by
  intro pins s σ H Q I h
  refine BoolOp_and (thn (ha pins s σ H _ I h) fun v s1 ⟨x, H1, I1, r1, q1⟩ => ?_)
  obtain ⟨c, rfl, q1⟩ := q1
  cases r1
  refine wpAny_truthy_bool ?_
  cases c with
  | true => exact hb pins s1 σ H1 Q I1 q1
  | false => exact ⟨.bl false, H1, I1, rfl, q1⟩
theorem pe_not (ha : PE X a ta) : PE X (.UnaryOp .Not a pos) (tNotV ta) := by
  intro pins s σ H Q I h
  refine UnaryOp_ (thn (ha pins s σ H _ I h) fun v s1 ⟨x, H1, I1, r1, q1⟩ => ?_)
  obtain ⟨c, rfl, q1⟩ := q1
  cases r1
  exact not_of (wpAny_truthy_bool ⟨.bl (!c), H1, I1, rfl, q1⟩)
/-- a if t else b -/
def tIf (t : TT) (ta tb : TE) : TE := fun σ H Q => t σ H fun c H1 => if c = true then ta σ H1 Q else tb σ H1 Q
theorem pe_ifExp {c : Expr} (hc : PT X c tA) (ha : PE X a ta) (hb : PE X b tb) : PE X (.IfExp c a b pos) (tIf tA ta tb) := by
  intro pins s σ H Q I h
  refine wpAny_IfExp (thn (hc pins s σ H _ I h) fun d s1 ⟨H1, I1, q1⟩ => ?_)
  cases d with
  | true => exact ha pins s1 σ H1 Q I1 q1
  | false => exact hb pins s1 σ H1 Q I1 q1
end
end L2

namespace L2
open PySem PySem.Spec PyProof.Rows

/-! ### a list, a tuple that is read: tracked, frozen, or an object of the module -/
def SqL (K : PySem.W.Frag) (H : Hp) (a : Addr) (xs : List V) : Prop :=
  Rd H a (.lst xs) ∨
    ∃ (o : Obj) (its : Array Value) (n : Nat), K.lookup a = some o ∧ o.cls = .type "list" ∧ o.dict = none ∧ o.data = .seq its n ∧ its.size ≤ sizeLine ∧ Vals xs its.toList
def SqT (K : PySem.W.Frag) (H : Hp) (a : Addr) (xs : List V) : Prop :=
  Rd H a (.tup xs) ∨
    ∃ (o : Obj) (its : Array Value) (n : Nat), K.lookup a = some o ∧ o.cls = .type "tuple" ∧ o.data = .seq its n ∧ its.size ≤ sizeLine ∧ Vals xs its.toList
def absV : Value → Option V
  | .none => some .non
  | .bool b => some (.bl b)
  | .int i _ => some (.int i)
  | .str x _ => some (.str x)
  | .bytes b _ => some (.byt b)
  | .float b _ => some (.flt b)
  | .ref a => some (.ref a)
  | .type n => some (.ty n)
  | _ => none
theorem RelV.abs {x : V} {u : Value} (r : RelV x u) : absV u = some x := by
  cases x with
  | non => cases r; rfl
  | bl _ => cases r; rfl
  | int _ => obtain ⟨t, rfl⟩ := r; rfl
  | str _ => obtain ⟨t, rfl⟩ := r; rfl
  | byt _ => obtain ⟨t, rfl⟩ := r; rfl
  | flt _ => obtain ⟨t, rfl⟩ := r; rfl
  | ref _ => cases r; rfl
  | ty _ => cases r; rfl
theorem RelV.inj {x y : V} {u : Value} (r : RelV x u) (q : RelV y u) : x = y := Option.some.inj (r.abs.symm.trans q.abs)
theorem Vals.inj : ∀ {xs ys : List V} {us : List Value}, Vals xs us → Vals ys us → xs = ys
  | _, _, _, .nil, .nil => rfl
  | _, _, _, .cons r t, .cons r' t' => by rw [r.inj r', Vals.inj t t']
section
variable {X : Cx} {pins : List (Addr × Obj)} {σ : St} {H : Hp} {s : Shared} {a : Addr} {xs ys : List V}
theorem SqL.of {K : PySem.W.Frag} (h : H a = some (.lst xs)) : SqL K H a xs := .inl (.inl h)
theorem SqT.of {K : PySem.W.Frag} (h : H a = some (.tup xs)) : SqT K H a xs := .inl (.inl h)
theorem Inv.list (I : Inv X pins σ H s) (h : SqL X.K H a xs) : ∃ its : List Value, Vals xs its ∧ PlainL s.heap a its.toArray ∧ xs.length ≤ sizeLine := by
  rcases h with h | ⟨o, its, n, hk, hc, hd, hs, hz, r⟩
  · obtain ⟨z, its, n, r, e⟩ := h.ok I.hok
    exact ⟨its, r, ⟨_, n, e, rfl, rfl, rfl⟩, z⟩
  · refine ⟨its.toList, r, ⟨o, n, I.kIn a o hk, hc, hd, by simpa using hs⟩, ?_⟩
    have e := r.length
    simp only [Array.length_toList] at e
    omega
theorem Inv.tuple (I : Inv X pins σ H s) (h : SqT X.K H a xs) : ∃ its : List Value, Vals xs its ∧ IsTup s.heap a its.toArray ∧ xs.length ≤ sizeLine := by
  rcases h with h | ⟨o, its, n, hk, hc, hs, hz, r⟩
  · obtain ⟨z, its, r, p⟩ := h.ok I.hok
    exact ⟨its, r, p, z⟩
  · refine ⟨its.toList, r, ⟨o, I.kIn a o hk, hc, n, by simpa using hs⟩, ?_⟩
    have e := r.length
    simp only [Array.length_toList] at e
    omega
theorem Inv.list_inj (I : Inv X pins σ H s) (h : SqL X.K H a xs) (h' : SqL X.K H a ys) : xs = ys := by
  obtain ⟨its, r, ⟨o, n, e, _, _, d⟩, _⟩ := I.list h
  obtain ⟨its', r', ⟨o', n', e', _, _, d'⟩, _⟩ := I.list h'
  rw [e] at e'; cases e'
  rw [d] at d'
  injection d' with d1 _
  have : its = its' := by simpa using congrArg Array.toList d1
  subst this
  exact r.inj r'
end

/-! ### another wish about exceptions -/
abbrev Cx.wish (X : Cx) (E : Value → Shared → Prop) : Cx := { X with xe := E }
/-- no exception leaves -/
abbrev Cx.nox (X : Cx) : Cx := X.wish fun _ _ => False
theorem Cx.Ok.wish {X : Cx} (ok : X.Ok) (E : Value → Shared → Prop) : (X.wish E).Ok :=
  ⟨ok.mod, ok.kind, ok.glob, ok.blt, ok.above, ok.inj, ok.has, ok.cab, ok.hd, ok.frames, ok.stk, ok.exf, ok.bs, ok.bsz, ok.noex, ok.exfs, ok.funs, ok.frf⟩
theorem Cx.Ok.unwish {X : Cx} {E : Value → Shared → Prop} (ok : (X.wish E).Ok) : X.Ok :=
  ⟨ok.mod, ok.kind, ok.glob, ok.blt, ok.above, ok.inj, ok.has, ok.cab, ok.hd, ok.frames, ok.stk, ok.exf, ok.bs, ok.bsz, ok.noex, ok.exfs, ok.funs, ok.frf⟩
section
variable {X : Cx} {pins : List (Addr × Obj)} {σ : St} {H : Hp} {s : Shared} {E : Value → Shared → Prop}
theorem Inv.wish (I : Inv X pins σ H s) (E : Value → Shared → Prop) : Inv (X.wish E) pins σ H s := ⟨I.ok.wish E, I.os, I.bare, I.base, I.loc, I.cell, I.free, I.freeC, I.pin, I.hok, I.len⟩
theorem Inv.unwish (I : Inv (X.wish E) pins σ H s) : Inv X pins σ H s := ⟨I.ok.unwish, I.os, I.bare, I.base, I.loc, I.cell, I.free, I.freeC, I.pin, I.hok, I.len⟩
theorem SP.unwish {D : Ends} {f : Flow} {s' : Shared} (h : SP (X.wish E) pins D f s') : SP X pins D f s' := by
  cases f with
  | next => obtain ⟨σ', H', I, q⟩ := h; exact ⟨σ', H', I.unwish, q⟩
  | brk => obtain ⟨σ', H', I, q⟩ := h; exact ⟨σ', H', I.unwish, q⟩
  | cont => obtain ⟨σ', H', I, q⟩ := h; exact ⟨σ', H', I.unwish, q⟩
  | ret u => obtain ⟨v, σ', H', I, r, q⟩ := h; exact ⟨v, σ', H', I.unwish, r, q⟩
theorem PSs.nox {st : List Stmt} {t : TS} (h : PSs X.nox st t) : PSs X st t := fun pins s σ H D I hw =>
  wpAny_mono (h pins s σ H D (I.wish _) hw) (fun _ _ q => q.unwish) fun _ _ z => False.elim z
end

/-! ### blocks and small statements -/
section
variable {X : Cx} {st : Stmt} {rest : List Stmt} {t u : TS} {e : Expr} {te : TE} {pos : Pos}
def tNext : TS := fun D σ H => D.nx σ H
def tSeq (t u : TS) : TS := fun D σ H => t { D with nx := u D } σ H
theorem pss_nil : PSs X [] tNext := fun _ _ σ H _ I h => wpAny_execs_nil ⟨σ, H, I, h⟩
theorem pss_cons (h1 : PS X st t) (h2 : PSs X rest u) : PSs X (st :: rest) (tSeq t u) := by
  intro pins s σ H D I h
  refine wpAny_execs_cons (thn (h1 pins s σ H { D with nx := u D } I h) fun f s1 q => ?_)
  cases f with
  | next =>
    obtain ⟨σ', H', I', q⟩ := q
    exact h2 pins s1 σ' H' D I' q
  | ret v => exact q
  | brk => exact q
  | cont => exact q
theorem pss_one (h1 : PS X st t) : PSs X [st] t := by
  intro pins s σ H D I h
  refine wpAny_execs_cons (thn (h1 pins s σ H D I h) fun f s1 q => ?_)
  cases f with
  | next => exact wpAny_execs_nil q
  | ret v => exact q
  | brk => exact q
  | cont => exact q
def tBreak : TS := fun D σ H => D.bk σ H
def tCont : TS := fun D σ H => D.ct σ H
/-- in a def's body nothing is shown -/
theorem Inv.quiet {pins : List (Addr × Obj)} {σ : St} {H : Hp} {s : Shared} (I : Inv X pins σ H s) : interactive X.env = false := by simp [interactive, I.ok.kind]
/-- an expression whose value is dropped -/
def tDrop (te : TE) : TS := fun D σ H => te σ H fun _ H1 => D.nx σ H1
theorem ps_expr (he : PE X e te) (hs : swapsWith e none pos.line X.env = pure false := by rfl) : PS X (.Expr e pos) (tDrop te) := by
  intro pins s σ H D I h
  exact wpAny_Expr_any (thn (he pins s σ H _ I h) fun v s1 ⟨x, H1, I1, r1, q1⟩ => ⟨σ, H1, I1, q1⟩) I.quiet hs
def tRet (te : TE) : TS := fun D σ H => te σ H D.rt
theorem ps_ret (he : PE X e te) : PS X (.Return (some e) pos) (tRet te) := by
  intro pins s σ H D I h
  exact wpAny_Return_some (thn (he pins s σ H _ I h) fun v s1 ⟨x, H1, I1, r1, q1⟩ => ⟨x, σ, H1, I1, r1, q1⟩)
def tRetN : TS := fun D _ H => D.rt .non H
def tIfS (c : TT) (t u : TS) : TS := fun D σ H => c σ H fun b H1 => if b = true then t D σ H1 else u D σ H1
theorem ps_if {c : Expr} {a b : List Stmt} {tc : TT} (hc : PT X c tc) (ha : PSs X a t) (hb : PSs X b u) : PS X (.If c a b pos) (tIfS tc t u) := by
  intro pins s σ H D I h
  refine wpAny_If (thn (hc pins s σ H _ I h) fun d s1 ⟨H1, I1, q1⟩ => ?_)
  cases d with
  | true => exact ha pins s1 σ H1 D I1 q1
  | false => exact hb pins s1 σ H1 D I1 q1
/-- code that the proof never comes to -/
def tNever : TS := fun _ _ _ => False
theorem ps_never : PS X st tNever := fun _ _ _ _ _ _ h => h.elim
theorem pss_never {sts : List Stmt} : PSs X sts tNever := fun _ _ _ _ _ _ h => h.elim
end

/-! ### targets -/
abbrev TG := V → St → Hp → (St → Hp → Prop) → Prop
abbrev TGs := List V → St → Hp → (St → Hp → Prop) → Prop
def PG (X : Cx) (target : Expr) (t : TG) : Prop :=
  ∀ (pins : List (Addr × Obj)) (s : Shared) (σ : St) (H : Hp) (v : V) (u : Value) (Q : St → Hp → Prop), Inv X pins σ H s → RelV v u → t v σ H Q →
    wpAny (model X.prog X.w) X.A (assign target X.env u) (fun _ s' => ∃ σ' H', Inv X pins σ' H' s' ∧ Q σ' H') X.xe s
/-- several targets, one after another -/
def PGs (X : Cx) (ts : List Expr) (t : TGs) : Prop :=
  ∀ (pins : List (Addr × Obj)) (s : Shared) (σ : St) (H : Hp) (vs : List V) (us : List Value) (Q : St → Hp → Prop), Inv X pins σ H s → Vals vs us → t vs σ H Q →
    wpAny (model X.prog X.w) X.A (assignInOrder ((assignEach ts X.env).map (·.2)) us) (fun _ s' => ∃ σ' H', Inv X pins σ' H' s' ∧ Q σ' H') X.xe s
/-- o[i] = v, by values -/
abbrev TSet := V → V → V → Hp → (Hp → Prop) → Prop
def PSet (X : Cx) (t : TSet) : Prop :=
  ∀ (pins : List (Addr × Obj)) (s : Shared) (σ : St) (H : Hp) (o i v : V) (ov iv u : Value) (Q : Hp → Prop), Inv X pins σ H s → RelV o ov → RelV i iv → RelV v u → t o i v H Q →
    wpAny (model X.prog X.w) X.A (setItem ov iv u) (fun _ s' => ∃ H', Inv X pins σ H' s' ∧ Q H') X.xe s
/-- a op= b, by values -/
abbrev TIp := V → V → Hp → VK → Prop
def PIp (X : Cx) (op : Operator) (t : TIp) : Prop :=
  ∀ (pins : List (Addr × Obj)) (s : Shared) (σ : St) (H : Hp) (x y : V) (v u : Value) (Q : VK), Inv X pins σ H s → RelV x v → RelV y u → t x y H Q →
    wpAny (model X.prog X.w) X.A (inplaceOp op v u) (EP X pins σ Q) X.xe s
section
variable {X : Cx} {pos : Pos}
def gName (i : Nat) : TG := fun v σ H Q => Q (σ.set i (some v)) H
theorem pg_name {i : Nat} {x : Str} (hN : X.N.Nodup) (hi : X.N[i]? = some x) (hx : Loc X.env.scope x) (hf : X.fn x = true ∨ X.env.scope.names.lookup x = some .local := by first | exact .inl rfl | exact .inr rfl | assumption) : PG X (.Name x pos) (gName i) := by
  intro pins s σ H v u Q I r h
  exact wpAny_assign_Name (store_ok I hN hi hx r (fun s' I' => ⟨_, H, I', h⟩) hf)
def gNil : TGs := fun vs σ H Q => vs = [] ∧ Q σ H
def gCons (t : TG) (u : TGs) : TGs := fun vs σ H Q => ∃ v r, vs = v :: r ∧ t v σ H fun σ' H' => u r σ' H' Q
theorem pgs_nil : PGs X [] gNil := by
  intro pins s σ H vs us Q I r h
  obtain ⟨e, h⟩ := h
  subst e
  cases r
  exact assignInOrder_nil ⟨σ, H, I, h⟩
theorem pgs_cons {e : Expr} {es : List Expr} {t : TG} {u : TGs} (h1 : PG X e t) (h2 : PGs X es u)
    (hs : (assignEach (e :: es) X.env).map (·.2) = assign e X.env :: (assignEach es X.env).map (·.2) := by rfl) : PGs X (e :: es) (gCons t u) := by
  intro pins s σ H vs us Q I r h
  obtain ⟨v, vr, e1, h⟩ := h
  subst e1
  cases r with
  | cons r rr =>
    rw [hs]
    refine assignInOrder_cons (thn (h1 pins s σ H _ _ _ I r h) fun _ s1 ⟨σ1, H1, I1, q1⟩ => ?_)
    exact h2 pins s1 σ1 H1 _ _ Q I1 rr q1
/-- (a, b, ..) = a tuple of that length -/
def gTup (K : PySem.W.Frag) (n : Nat) (t : TGs) : TG := fun v σ H Q => ∃ a xs, v = .ref a ∧ SqT K H a xs ∧ xs.length = n ∧ t xs σ H Q
theorem pg_tup {es : List Expr} {k : Nat} {t : TGs} {n : Nat} (hc : X.calm = true) (h : PGs X es t)
    (hn : (assignEach es X.env).length = n := by rfl) (hst : (assignEach es X.env).findIdx? (·.1) = none := by rfl) : PG X (.Tuple es k pos) (gTup X.K n t) := by
  intro pins s σ H v u Q I r hw
  obtain ⟨a, xs, e1, hq, hl, hw⟩ := hw
  subst e1
  cases r
  obtain ⟨its, rv, ht, hz⟩ := I.tuple hq
  refine assign_Tuple_tuple (I.ok.hd hc) ht (by simp [hn, ← hl, rv.length]) hst fun h' hx => ?_
  have I1 : Inv X pins σ H { s with heap := h' } := I.kept (t' := s.toks) fun b o e => hx b o (Nat.ne_of_lt (Heap.lt_size e)) e
  exact h pins _ σ H xs _ Q I1 (by simpa using rv) hw
/-- o[i] = .. -/
def gSub (to ti : TE) (t : TSet) : TG := fun v σ H Q => to σ H fun o H1 => ti σ H1 fun i H2 => t o i v H2 fun H3 => Q σ H3
theorem pg_sub {o i : Expr} {to ti : TE} {t : TSet} (ho : PE X o to) (hi : PE X i ti) (hs : PSet X t)
    (ha : ∀ v, assign (.Subscript o i pos) X.env v = (do
      let ov ← holding [v] (eval o X.env)
      let iv ← holding [v, ov] (eval i X.env)
      standAt pos
      holding [v, ov, iv] (setItem ov iv v)
      release [v, ov, iv] []) := by intro _; rfl) : PG X (.Subscript o i pos) (gSub to ti t) := by
  intro pins s σ H v u Q I r h
  rw [ha]
  refine wpAny_bind (wpAny_holding (thn (ho pins s σ H _ I h) fun ov s1 ⟨x, H1, I1, r1, q1⟩ => ?_))
  refine wpAny_bind (wpAny_holding (thn (hi pins s1 σ H1 _ I1 q1) fun iv s2 ⟨y, H2, I2, r2, q2⟩ => ?_))
  refine wpAny_bind (wpAny_standAt (wpAny_bind (wpAny_holding (thn (hs pins s2 σ H2 x y v ov iv u _ I2 r1 r2 r q2) fun _ s3 ⟨H3, I3, q3⟩ => ?_))))
  exact wpAny_release ⟨σ, H3, I3, q3⟩
/-- target = value -/
def tAsg (te : TE) (g : TG) : TS := fun D σ H => te σ H fun x H1 => g x σ H1 D.nx
theorem ps_asg {tg e : Expr} {te : TE} {g : TG} (he : PE X e te) (hg : PG X tg g) (hs : swapsWithSole [tg] e pos.line X.env = pure false := by rfl) (hw : swappedStores [tg] e X.env = pure none := by rfl)
    (h1 : (assignEach [tg] X.env).map (·.2) = [assign tg X.env] := by rfl) : PS X (.Assign [tg] e pos) (tAsg te g) := by
  intro pins s σ H D I h
  refine wpAny_Assign_stores (thn (he pins s σ H _ I h) fun v s1 ⟨x, H1, I1, r1, q1⟩ => ?_) hs hw
  rw [h1]
  exact thn (hg pins s1 σ H1 x v _ I1 r1 q1) fun _ s2 q => q
/-- name = value -/
theorem ps_set {i : Nat} {x : Str} {e : Expr} {te : TE} {pos' : Pos} (hN : X.N.Nodup) (hi : X.N[i]? = some x) (hx : Loc X.env.scope x) (he : PE X e te) (hs : swapsWith e (some (.Name x pos')) pos.line X.env = pure false := by rfl) (hf : X.fn x = true ∨ X.env.scope.names.lookup x = some .local := by first | exact .inl rfl | exact .inr rfl | assumption) :
    PS X (.Assign [.Name x pos'] e pos) (tAsg te (gName i)) := by
  intro pins s σ H D I h
  refine wpAny_Assign_Name (thn (he pins s σ H _ I h) fun v s1 ⟨y, H1, I1, r1, q1⟩ => ?_) hs
  exact store_ok I1 hN hi hx r1 (fun s2 I2 => ⟨_, H1, I2, q1⟩) hf
/-- a, b = x, y with plain local names: stored from the right; the pair itself is not tracked (the opening rows as in PyProof/Rows/TupAssign.lean:23) -/
def tPar (i j : Nat) (ta : TA) : TS := fun D σ H => ta σ H fun vs H1 => ∃ v w, vs = [v, w] ∧ D.nx ((σ.set i (some v)).set j (some w)) H1
/-- name op= e -/
def tAug (i : Nat) (te : TE) (ti : TIp) : TS := fun D σ H => ∃ x, σ[i]? = some (some x) ∧ te σ H fun y H1 => ti x y H1 fun z H2 => D.nx (σ.set i (some z)) H2
/-- o[i] op= e -/
def tAugS (to ti te : TE) (tget : V → V → Hp → VK → Prop) (tip : TIp) (tset : TSet) : TS := fun D σ H => to σ H fun o H1 => ti σ H1 fun i H2 => tget o i H2 fun x H3 => te σ H3 fun y H4 => tip x y H4 fun z H5 => tset o i z H5 fun H6 => D.nx σ H6
/-- o[i], by values -/
def PGet (X : Cx) (t : V → V → Hp → VK → Prop) : Prop :=
  ∀ (pins : List (Addr × Obj)) (s : Shared) (σ : St) (H : Hp) (o i : V) (ov iv : Value) (Q : VK), Inv X pins σ H s → RelV o ov → RelV i iv → t o i H Q →
    wpAny (model X.prog X.w) X.A (getItem ov iv) (EP X pins σ Q) X.xe s
/-- ints -/
def ipI (f : Int → Int → Int) : TIp := fun x y H Q => ∃ i j, x = .int i ∧ y = .int j ∧ Q (.int (f i j)) H
end

/-! ### while -/
section
variable {X : Cx} {pos : Pos}
/-- the invariant W with its measure -/
def tWhile (c : TT) (tb : TS) : TS := fun D σ H => ∃ W : Nat → St → Hp → Prop, (∃ m, W m σ H) ∧ ∀ m σ H, W m σ H →
  c σ H fun b H1 => if b = true then ∃ N : St → Hp → Prop, (∀ σ' H', N σ' H' → ∃ m', m' < m ∧ W m' σ' H') ∧ tb { D with nx := N, ct := N, bk := D.nx } σ H1 else D.nx σ H1
theorem ps_while {c : Expr} {body : List Stmt} {tc : TT} {tb : TS} (hp : PassesOwn (model X.prog X.w) X.A X.env X.xe) (hc : PT X c tc) (hb : PSs X body tb) : PS X (.While c body [] pos) (tWhile tc tb) := by
  intro pins s σ H D I h
  obtain ⟨W, ⟨m0, w0⟩, turn⟩ := h
  refine wpAny_While (codeAny_whileLoop (fun n s' => ∃ σ' H', Inv X pins σ' H' s' ∧ W n σ' H') ?_ m0 ⟨σ, H, I, w0⟩)
  rintro n s1 ⟨σ1, H1, I1, w1⟩
  refine wpAny_passesOwn hp (thn (hc pins s1 σ1 H1 _ I1 (turn n σ1 H1 w1)) fun b s2 ⟨H2, I2, q2⟩ => ?_)
  cases b with
  | true =>
    obtain ⟨N, hN, q2⟩ := q2
    rw [if_pos rfl]
    refine wpAny_passesOwn hp (thn (hb pins s2 σ1 H2 _ I2 q2) fun f s3 q3 => ?_)
    cases f with
    | next =>
      obtain ⟨σ3, H3, I3, n3⟩ := q3
      obtain ⟨m', hm, w3⟩ := hN σ3 H3 n3
      exact ⟨m', hm, σ3, H3, I3, w3⟩
    | cont =>
      obtain ⟨σ3, H3, I3, n3⟩ := q3
      obtain ⟨m', hm, w3⟩ := hN σ3 H3 n3
      exact ⟨m', hm, σ3, H3, I3, w3⟩
    | brk => exact q3
    | ret v => exact q3
  | false =>
    rw [if_neg Bool.false_ne_true]
    exact wpAny_execs_nil ⟨σ1, H2, I2, q2⟩
end

/-! ### what a loop or a comprehension walks -/
/-- at turn i: it yields x (the heap may grow), or it stops -/
structure It where
  go : Nat → Hp → Prop
  yld : Nat → Hp → V → Hp → Prop
  stop : Nat → Hp → Prop
/-- the iterator's own objects may turn: they are not the frame's, not pinned, younger than the entry (or a comprehension's own) -/
def FpOk (X : Cx) (pins : List (Addr × Obj)) (H : Hp) (b : Addr) : Prop :=
  H b = none ∧ b ≠ X.env.locals ∧ b ∉ X.fs ∧ (b ∈ X.ex ∨ X.s₀.heap.objs.size ≤ b) ∧ (∀ x c, X.env.cells.lookup x = some c → c ≠ b) ∧ ∀ p ∈ X.pn ++ pins, p.1 ≠ b
theorem Inv.fpOk {X : Cx} {pins : List (Addr × Obj)} {σ : St} {H H' : Hp} {s : Shared} {b : Addr} (I : Inv X pins σ H s) (hb : s.heap.objs.size ≤ b) (hn : H' b = none) : FpOk X pins H' b := by
  refine ⟨hn, Nat.ne_of_gt (Nat.lt_of_lt_of_le I.lt hb), I.nofs hb, .inr (Nat.le_trans I.sz hb), fun x c e z => ?_, fun p hp z => ?_⟩
  · obtain ⟨v, q⟩ := I.cell x c e
    exact absurd (Nat.lt_of_lt_of_le q.lt (by rw [z]; exact hb)) (Nat.lt_irrefl _)
  · exact absurd (Nat.lt_of_lt_of_le (Heap.lt_size (I.pin p hp).1) (by rw [z]; exact hb)) (Nat.lt_irrefl _)
structure Turn (P : Program) (w : World) (K : PySem.W.Frag) (tg : Expr) (J : It) (fp : List Addr) (it : Addr) (tn : Nat → Heap → Prop) : Prop where
  mem : it ∈ fp
  obj : ∀ i h, tn i h → ∀ b ∈ fp, ∃ o, h.get? b = some o ∧ ∀ v, o.data ≠ .cell v
  keep : ∀ i h h', tn i h → (∀ b ∈ fp, ∀ o, h.get? b = some o → h'.get? b = some o) → tn i h'
  item : ∀ (X : Cx), X.prog = P → X.w = w → X.K = K → X.calm = true → ∀ (i : Nat) (pins : List (Addr × Obj)) (s : Shared) (σ : St) (H : Hp) (E : Value → Shared → Prop), Inv X pins σ H s → (∀ b ∈ fp, FpOk X pins H b) → tn i s.heap → J.go i H →
    wpAny (model P w) X.A (pyNext (.ref it)) (fun r s1 => ∃ u, r = some u ∧
      wpAny (model P w) X.A (letOwnedTupleGo tg (.ref it) u) (fun _ s2 => ∃ x H', Inv X pins σ H' s2 ∧ RelV x u ∧ J.yld i H x H' ∧ tn (i + 1) s2.heap ∧ ∀ b ∈ fp, H' b = none) E s1) E s
  done : ∀ (X : Cx), X.prog = P → X.w = w → X.K = K → X.calm = true → ∀ (i : Nat) (pins : List (Addr × Obj)) (s : Shared) (σ : St) (H : Hp) (E : Value → Shared → Prop), Inv X pins σ H s → (∀ b ∈ fp, FpOk X pins H b) → tn i s.heap → J.stop i H →
    wpAny (model P w) X.A (pyNext (.ref it)) (fun r s1 => r = none ∧ Inv X pins σ H s1) E s
  self : ∀ (A : Around) (i : Nat) (s : Shared) (Q : Value → Shared → Prop) (E : Value → Shared → Prop), tn i s.heap → Q (.ref it) s → wpAny (model P w) A (pyIter (.ref it)) Q E s
abbrev TI := St → Hp → (It → Hp → Prop) → Prop
/-- an iterator has come -/
def PIE (X : Cx) (pins : List (Addr × Obj)) (σ : St) (tg : Expr) (R : It → Hp → Prop) (itv : Value) (s2 : Shared) : Prop :=
  ∃ (it : Addr) (fp : List Addr) (tn : Nat → Heap → Prop) (J : It) (H' : Hp), itv = .ref it ∧ Inv X pins σ H' s2 ∧ Turn X.prog X.w X.K tg J fp it tn ∧ tn 0 s2.heap ∧ (∀ b ∈ fp, FpOk X pins H' b) ∧ R J H'
def PI (X : Cx) (tg iter : Expr) (wi : TI) : Prop :=
  ∀ (pins : List (Addr × Obj)) (s : Shared) (σ : St) (H : Hp) (R : It → Hp → Prop), Inv X pins σ H s → wi σ H R →
    wpAny (model X.prog X.w) X.A (eval iter X.env) (fun v s1 => wpAny (model X.prog X.w) X.A (pyIter v) (PIE X pins σ tg R) X.xe s1) X.xe s

/-- the step ahead of the store is nothing for an iterator that keeps no tuple -/
theorem go_of {M : Model} {A : Around} {E : Value → Shared → Prop} {s : Shared} {tg : Expr} {it : Addr} {u : Value} {o : Obj} {n : String} {vs : Array Value} {Q : Unit → Shared → Prop} (ho : s.heap.get? it = some o) (hc : o.cls = .type n) (hd : o.data = .fields vs)
    (hn : ["enumerate", "zip", "dict_itemiterator", "dict_reverseitemiterator", "odict_iterator", "itertools.zip_longest", "itertools.pairwise"].contains n = false) (hQ : Q () s) : wpAny M A (letOwnedTupleGo tg (.ref it) u) Q E s := by
  unfold letOwnedTupleGo
  cases tg <;> first
    | exact wpAny_pure hQ
    | (cases u <;> first
        | exact wpAny_pure hQ
        | (refine wpAny_bind (wpAny_load ho ?_)
           rw [hc, hd]
           show wpAny M A (if (["enumerate", "zip", "dict_itemiterator", "dict_reverseitemiterator", "odict_iterator", "itertools.zip_longest", "itertools.pairwise"].contains n && vs[0]? == some (rawInt _)) = true then _ else _) Q E s
           rw [if_neg (by intro h; rw [hn, Bool.false_and] at h; cases h)]
           exact wpAny_pure hQ))

/-- the list at a, as it stands at each turn (a loop may append to it) -/
def Itl (K : PySem.W.Frag) (a : Addr) : It :=
  ⟨fun i H => ∃ xs x, SqL K H a xs ∧ xs[i]? = some x, fun i H x H' => H' = H ∧ ∀ xs, SqL K H a xs → xs[i]? = some x, fun i H => ∃ xs, SqL K H a xs ∧ xs.length ≤ i⟩
def Itt (K : PySem.W.Frag) (a : Addr) : It :=
  ⟨fun i H => ∃ xs x, SqT K H a xs ∧ xs[i]? = some x, fun i H x H' => H' = H ∧ ∀ xs, SqT K H a xs → xs[i]? = some x, fun i H => ∃ xs, SqT K H a xs ∧ xs.length ≤ i⟩
/-- lo, lo + 1, .. (n of them) -/
def Itr (lo : Int) (n : Nat) : It := ⟨fun i _ => i < n, fun i H x H' => H' = H ∧ x = .int (lo + i), fun i _ => n ≤ i⟩
theorem turn_list {P : Program} {w : World} {K : PySem.W.Frag} {tg : Expr} (a it : Addr) : Turn P w K tg (Itl K a) [it] it (fun i h => h.IsListIter it a i) where
  mem := by simp
  obj := fun i h st b hb => by
    have e : b = it := by simpa using hb
    subst e
    obtain ⟨o, e, c, d⟩ := st
    exact ⟨o, e, fun v z => by rw [d] at z; cases z⟩
  keep := fun i h h' st k => st.at fun o e => k it (by simp) o e
  item := by
    intro X hP hw hK hc i pins s σ H E I hf st hg
    subst hP hw hK
    obtain ⟨xs, x, hq, hx⟩ := hg
    obtain ⟨its, rv, p, hz⟩ := I.list hq
    obtain ⟨u, hu, ru⟩ := rv.get hx
    obtain ⟨f0, f1, f2, f3, f4, f5⟩ := hf it (by simp)
    refine wpAny_pyNext_list_item st p.isList (x := u) (by simpa using hu) fun h' st' sb => ?_
    have I1 : Inv X pins σ H { s with heap := h' } := I.turned (t' := s.toks) (fun b o hb e => (sb.2 b hb).trans e) f0 f1 f3 f4 f5
    obtain ⟨o, e, c, d⟩ := id st'
    exact ⟨u, rfl, go_of (s := { s with heap := h' }) e c d (by decide) ⟨x, H, I1, ru, ⟨rfl, fun ys hy => by rw [I.list_inj hy hq]; exact hx⟩, st', fun b hb => (hf b hb).1⟩⟩
  done := by
    intro X hP hw hK hc i pins s σ H E I hf st hg
    subst hP hw hK
    obtain ⟨xs, hq, hx⟩ := hg
    obtain ⟨its, rv, p, hz⟩ := I.list hq
    obtain ⟨f0, f1, f2, f3, f4, f5⟩ := hf it (by simp)
    have hl := rv.length
    exact wpAny_pyNext_list_end (I.ok.hd hc) st p.isList (by simp; omega) fun h' eb => ⟨rfl, I.turned (t' := s.toks) (fun b o hb e => eb b o hb e) f0 f1 f3 f4 f5⟩
  self := fun _ _ _ _ _ st h => wpAny_pyIter_listiter st h
theorem turn_range {P : Program} {w : World} {K : PySem.W.Frag} {tg : Expr} (it : Addr) (lo : Int) (n : Nat) : Turn P w K tg (Itr lo n) [it] it (fun i h => IsRangeIter h it (lo + (i : Nat) * 1) ((n : Int) - (i : Nat)) 1) where
  mem := by simp
  obj := fun i h st b hb => by
    have e : b = it := by simpa using hb
    subst e
    exact ⟨_, st, fun v z => by
      have z' : Data.fields _ = Data.cell v := z
      cases z'⟩
  keep := fun i h h' st k => k it (by simp) _ st
  item := by
    intro X hP hw hK hc i pins s σ H E I hf st hg
    subst hP hw hK
    obtain ⟨f0, f1, f2, f3, f4, f5⟩ := hf it (by simp)
    have W := Walks.range (prog := X.prog) (w := X.w) (I.ok.hd hc) it lo 1 n
    refine W.item i s _ _ hg st fun v h' tk hv st' kk => ?_
    obtain ⟨t, rfl⟩ := hv
    have I1 : Inv X pins σ H { s with heap := h', toks := tk } := I.turned (fun b o hb e => kk b o (by simpa using hb) e) f0 f1 f3 f4 f5
    refine ⟨_, rfl, go_of (s := { s with heap := h', toks := tk }) (n := "range_iterator") st' rfl rfl (by decide) ⟨.int (lo + i), H, I1, ⟨t, ?_⟩, ⟨rfl, rfl⟩, st', fun b hb => (hf b hb).1⟩⟩
    rw [Int.mul_one]
  done := by
    intro X hP hw hK hc i pins s σ H E I hf st hg
    subst hP hw hK
    obtain ⟨f0, f1, f2, f3, f4, f5⟩ := hf it (by simp)
    exact wpAny_pyNext_range_end (I.ok.hd hc) st (by have : n ≤ i := hg; omega) fun h' eb => ⟨rfl, I.turned (t' := s.toks) (fun b o hb e => eb b o hb e) f0 f1 f3 f4 f5⟩
  self := fun _ _ _ _ _ st h => wpAny_pyIter_rangeiter st h
end L2

namespace L2
open PySem PySem.Spec PyProof.Rows
section
variable {X : Cx} {tg : Expr}
def iList (K : PySem.W.Frag) (tl : TE) : TI := fun σ H R => tl σ H fun x H1 => ∃ a, x = .ref a ∧ (∃ xs, SqL K H1 a xs) ∧ R (Itl K a) H1
def iTup (K : PySem.W.Frag) (tl : TE) : TI := fun σ H R => tl σ H fun x H1 => ∃ a, x = .ref a ∧ (∃ xs, SqT K H1 a xs) ∧ R (Itt K a) H1
theorem pi_list {l : Expr} {tl : TE} (hl : PE X l tl) : PI X tg l (iList X.K tl) := by
  intro pins s σ H R I h
  refine thn (hl pins s σ H _ I h) fun v s1 ⟨x, H1, I1, r1, q1⟩ => ?_
  obtain ⟨a, e, ⟨xs, hq⟩, q⟩ := q1
  subst e
  cases r1
  obtain ⟨its, rv, p, hz⟩ := I1.list hq
  refine wpAny_pyIter_list p.isList ?_
  refine ⟨s1.heap.objs.size, [s1.heap.objs.size], _, _, H1, rfl, I1.kept (t' := s1.toks) fun b o e => Heap.get?_push_of_some _ e, turn_list a _, ⟨_, Heap.get?_push_size _ rfl, rfl, rfl⟩, fun b hb => ?_, q⟩
  have e : b = s1.heap.objs.size := by simpa using hb
  subst e
  exact I1.fpOk (Nat.le_refl _) (I1.hok.fresh (Nat.le_refl _))
/-- a range object just made, walked -/
theorem range_it {pins : List (Addr × Obj)} {σ : St} {H : Hp} {s : Shared} {R : It → Hp → Prop} {E : Value → Shared → Prop} {lo hi : Int} {t u v : Tok} {tk : Nat} (I : Inv X pins σ H s) (h1 : -(2 ^ 62) ≤ lo) (h2 : lo < 2 ^ 62) (h3 : -(2 ^ 62) ≤ hi) (h4 : hi < 2 ^ 62)
    (q : R (Itr lo (hi - lo).toNat) H) : wpAny (model X.prog X.w) X.A (pyIter (.ref s.heap.objs.size)) (PIE X pins σ tg R) E { s with heap := s.heap.push { cls := .type "range", data := .fields #[.int lo t, .int hi u, .int 1 v] }, toks := tk } := by
  refine wpAny_pyIter_range (IsRange.new ..) (small_one h1 h2 h3 h4) ?_
  have I1 : Inv X pins σ H { s with heap := s.heap.push { cls := .type "range", data := .fields #[.int lo t, .int hi u, .int 1 v] }, toks := tk } := I.kept fun b o e => Heap.get?_push_of_some _ e
  refine ⟨(s.heap.push { cls := .type "range", data := .fields #[.int lo t, .int hi u, .int 1 v] }).objs.size, [(s.heap.push { cls := .type "range", data := .fields #[.int lo t, .int hi u, .int 1 v] }).objs.size], _, _, H, rfl,
    I1.kept (t' := tk) fun b o e => Heap.get?_push_of_some _ e, turn_range _ lo (hi - lo).toNat, ?_, fun b hb => ?_, q⟩
  · have e1 : lo + ((0 : Nat) : Int) * 1 = lo := by simp
    have e2 : (((hi - lo).toNat : Nat) : Int) - ((0 : Nat) : Int) = Builtin.Range.rangeSize lo hi 1 := by rw [rangeSize_one]; split <;> omega
    show IsRangeIter _ _ (lo + ((0 : Nat) : Int) * 1) ((((hi - lo).toNat : Nat) : Int) - ((0 : Nat) : Int)) 1
    rw [e1, e2]
    exact Heap.get?_push_size _ rfl
  · have e : b = (s.heap.push { cls := .type "range", data := .fields #[.int lo t, .int hi u, .int 1 v] }).objs.size := by simpa using hb
    subst e
    exact I1.fpOk (Nat.le_refl _) (I1.hok.fresh (Nat.le_refl _))
def iRng1 (ta : TA) : TI := fun σ H R => ta σ H fun vs H1 => ∃ j : Int, vs = [.int j] ∧ -(2 ^ 62) ≤ j ∧ j < 2 ^ 62 ∧ R (Itr 0 j.toNat) H1
def iRng2 (ta : TA) : TI := fun σ H R => ta σ H fun vs H1 => ∃ i j : Int, vs = [.int i, .int j] ∧ (-(2 ^ 62) ≤ i ∧ i < 2 ^ 62 ∧ -(2 ^ 62) ≤ j ∧ j < 2 ^ 62) ∧ R (Itr i (j - i).toNat) H1
theorem pi_range1 {a : Expr} {ta : TA} {p pos : Pos} (hg : Gl X "range") (hm : X.mg "range" = none) (ha : PA X [a] ta) (hs : starEach [a] X.env = [(false, eval a X.env)] := by rfl) : PI X tg (.Call (.Name "range" p) [a] [] pos) (iRng1 ta) := by
  intro pins s σ H R I h
  refine Call_ (ld_blt I hg hm boot_range (PyProof.Rows.callWith_type1 (thn (ha pos pins s σ H _ I h) fun us s1 ⟨vs, H1, I1, r1, q1⟩ => ?_) hs rfl))
  obtain ⟨j, e, q1, q2, q⟩ := q1
  subst e
  cases r1 with
  | cons r rr =>
    cases rr
    obtain ⟨t, rfl⟩ := r
    exact call_range_1 (range_it I1 (by omega) (by omega) q1 q2 (by simpa using q))
theorem pi_range2 {a b : Expr} {ta : TA} {p pos : Pos} (hg : Gl X "range") (hm : X.mg "range" = none) (ha : PA X [a, b] ta) (hs : starEach [a, b] X.env = [(false, eval a X.env), (false, eval b X.env)] := by rfl) (hs2 : starEach [b] X.env = [(false, eval b X.env)] := by rfl) :
    PI X tg (.Call (.Name "range" p) [a, b] [] pos) (iRng2 ta) := by
  intro pins s σ H R I h
  refine Call_ (ld_blt I hg hm boot_range (PyProof.Rows.callWith_type1 (thn (ha pos pins s σ H _ I h) fun us s1 ⟨vs, H1, I1, r1, q1⟩ => ?_) (by rw [hs, hs2]) (by rw [hs2]; rfl)))
  obtain ⟨i, j, e, ⟨q1, q2, q3, q4⟩, q⟩ := q1
  subst e
  cases r1 with
  | cons r rr =>
    cases rr with
    | cons r' rr =>
      cases rr
      obtain ⟨t, rfl⟩ := r
      obtain ⟨t', rfl⟩ := r'
      exact call_range_2 (range_it I1 q1 q2 q3 q4 q)

/-! ### for -/
/-- W: the invariant by the turn and a measure; N: what the body is to reach -/
def tFor (wi : TI) (g : TG) (tb : TS) : TS := fun D σ H => wi σ H fun J H1 => ∃ W : Nat → Nat → St → Hp → Prop, (∃ m, W 0 m σ H1) ∧ ∀ i m σ H, W i m σ H →
  (J.stop i H ∧ D.nx σ H) ∨ (J.go i H ∧ ∃ N : St → Hp → Prop, (∀ σ' H', N σ' H' → ∃ m', m' < m ∧ W (i + 1) m' σ' H') ∧ ∀ x H', J.yld i H x H' → g x σ H' fun σ2 H2 => tb { D with nx := N, ct := N, bk := D.nx } σ2 H2)
/-- the records at fp as they stand -/
def pinsAt (fp : List Addr) (h : Heap) : List (Addr × Obj) := fp.filterMap fun b => (h.get? b).map fun o => (b, o)
theorem mem_pinsAt {fp : List Addr} {h : Heap} {b : Addr} {o : Obj} (hb : b ∈ fp) (e : h.get? b = some o) : (b, o) ∈ pinsAt fp h := List.mem_filterMap.mpr ⟨b, hb, by rw [e]; rfl⟩
theorem of_pinsAt {fp : List Addr} {h : Heap} {p : Addr × Obj} (hp : p ∈ pinsAt fp h) : p.1 ∈ fp ∧ h.get? p.1 = some p.2 := by
  obtain ⟨b, hb, e⟩ := List.mem_filterMap.mp hp
  cases q : h.get? b with
  | none => rw [q] at e; cases e
  | some o =>
    rw [q] at e
    have e' : (b, o) = p := Option.some.inj e
    subst e'
    exact ⟨hb, q⟩
theorem Inv.pinned {pins : List (Addr × Obj)} {σ : St} {H : Hp} {s : Shared} {fp : List Addr} (I : Inv X pins σ H s) (hf : ∀ b ∈ fp, FpOk X pins H b) (ho : ∀ b ∈ fp, ∃ o, s.heap.get? b = some o ∧ ∀ v, o.data ≠ .cell v) : Inv X (pins ++ pinsAt fp s.heap) σ H s :=
  I.pins_of fun p hp => (List.mem_append.mp hp).elim (fun z => I.pin p (List.mem_append_right _ z)) fun z => by
    obtain ⟨hb, e⟩ := of_pinsAt z
    obtain ⟨f0, f1, f2, _⟩ := hf p.1 hb
    obtain ⟨o, e', d⟩ := ho p.1 hb
    rw [e] at e'; cases e'
    exact ⟨e, f0, f1, f2, d⟩
theorem Inv.unpinned {pins pl : List (Addr × Obj)} {σ : St} {H : Hp} {s : Shared} (I : Inv X (pins ++ pl) σ H s) : Inv X pins σ H s := I.pins_of fun p hp => I.pin p (List.mem_append_right _ (List.mem_append_left _ hp))
theorem ps_for {iter : Expr} {body : List Stmt} {wi : TI} {g : TG} {tb : TS} {pos : Pos} (hp : PassesOwn (model X.prog X.w) X.A X.env X.xe) (hc : X.calm = true) (hi : PI X tg iter wi) (hg : PG X tg g) (hb : PSs X body tb)
    (hs : ∀ x, foldedSetIterable iter X.env x = pure x := by intro _; rfl) : PS X (.For tg iter body [] pos) (tFor wi g tb) := by
  intro pins s σ H D I h
  refine wpAny_For (thn (hi pins s σ H _ I h) fun v s1 h1 => thn h1 fun itv s2 h2 => ?_) hs
  obtain ⟨it, fp, tn, J, H2, e, I2, T, st2, f2, W, ⟨m0, w0⟩, turn⟩ := h2
  subst e
  -- what stays true of the iterator's objects through the loop
  have stat : ∀ {H' : Hp}, (∀ b ∈ fp, H' b = none) → ∀ b ∈ fp, FpOk X pins H' b := fun hn b hb => ⟨hn b hb, (f2 b hb).2⟩
  refine codeAny_forLoop_any (fun n s' => ∃ i σ' H', Inv X pins σ' H' s' ∧ tn i s'.heap ∧ (∀ b ∈ fp, H' b = none) ∧ W i n σ' H') ?_ m0 ⟨0, σ, H2, I2, st2, fun b hb => (f2 b hb).1, w0⟩
  rintro n s3 ⟨i, σ3, H3, I3, st3, fr3, w3⟩
  rcases turn i n σ3 H3 w3 with ⟨stop, qn⟩ | ⟨go, N, hN, step⟩
  · refine wpAny_passesOwn hp (thn (T.done X rfl rfl rfl hc i pins s3 σ3 H3 X.xe I3 (stat fr3) st3 stop) fun r s4 ⟨hr, I4⟩ => ?_)
    subst hr
    exact wpAny_execs_nil ⟨σ3, H3, I4, qn⟩
  · refine wpAny_passesOwn hp (thn (T.item X rfl rfl rfl hc i pins s3 σ3 H3 X.xe I3 (stat fr3) st3 go) fun r s4 ⟨u, hr, h4⟩ => ?_)
    subst hr
    refine wpAny_passesOwn hp (thn h4 fun _ s5 ⟨x, H5, I5, r5, y5, st5, fr5⟩ => ?_)
    have I5' := I5.pinned (stat fr5) (T.obj _ _ st5)
    refine wpAny_passesOwn hp (thn (hg _ s5 σ3 H5 x u _ I5' r5 (step x H5 y5)) fun _ s6 ⟨σ6, H6, I6, q6⟩ => ?_)
    refine wpAny_passesOwn hp (thn (hb _ s6 σ6 H6 _ I6 q6) fun f s7 q7 => ?_)
    have again : ∀ {σ7 : St} {H7 : Hp}, Inv X (pins ++ pinsAt fp s5.heap) σ7 H7 s7 → N σ7 H7 → ∃ m, m < n ∧ ∃ i σ' H', Inv X pins σ' H' s7 ∧ tn i s7.heap ∧ (∀ b ∈ fp, H' b = none) ∧ W i m σ' H' := fun {σ7 H7} I7 n7 => by
      obtain ⟨m', hm, w7⟩ := hN σ7 H7 n7
      refine ⟨m', hm, i + 1, σ7, H7, I7.unpinned, T.keep _ _ _ st5 fun b hb o e => (I7.pin (b, o) (List.mem_append_right _ (List.mem_append_right _ (mem_pinsAt hb e)))).1, fun b hb => ?_, w7⟩
      obtain ⟨o, e, d⟩ := T.obj _ _ st5 b hb
      exact (I7.pin (b, o) (List.mem_append_right _ (List.mem_append_right _ (mem_pinsAt hb e)))).2.1
    cases f with
    | next => obtain ⟨σ7, H7, I7, n7⟩ := q7; exact again I7 n7
    | cont => obtain ⟨σ7, H7, I7, n7⟩ := q7; exact again I7 n7
    | brk => obtain ⟨σ7, H7, I7, q7⟩ := q7; exact ⟨σ7, H7, I7.unpinned, q7⟩
    | ret v => obtain ⟨x7, σ7, H7, I7, r7, q7⟩ := q7; exact ⟨x7, σ7, H7, I7.unpinned, r7, q7⟩
end

/-! ### the forms one uses -/
/-- over a list that the body leaves as it is -/
theorem for_list {K : PySem.W.Frag} {a : Addr} {xs : List V} {g : TG} {tb : TS} {D : Ends} {σ : St} {H : Hp} (Pv : Nat → St → Hp → Prop) (h0 : Pv 0 σ H) (hl : ∀ i σ H, i ≤ xs.length → Pv i σ H → SqL K H a xs)
    (hs : ∀ i x σ H, xs[i]? = some x → Pv i σ H → g x σ H fun σ2 H2 => tb { D with nx := Pv (i + 1), ct := Pv (i + 1), bk := D.nx } σ2 H2) (hd : ∀ σ H, Pv xs.length σ H → D.nx σ H) :
    ∃ W : Nat → Nat → St → Hp → Prop, (∃ m, W 0 m σ H) ∧ ∀ i m σ H, W i m σ H →
      ((Itl K a).stop i H ∧ D.nx σ H) ∨ ((Itl K a).go i H ∧ ∃ N : St → Hp → Prop, (∀ σ' H', N σ' H' → ∃ m', m' < m ∧ W (i + 1) m' σ' H') ∧ ∀ x H', (Itl K a).yld i H x H' → g x σ H' fun σ2 H2 => tb { D with nx := N, ct := N, bk := D.nx } σ2 H2) := by
  refine ⟨fun i m σ H => m = xs.length - i ∧ i ≤ xs.length ∧ Pv i σ H, ⟨xs.length, by simp, Nat.zero_le _, h0⟩, ?_⟩
  rintro i m σ H ⟨rfl, hi, p⟩
  have q := hl i σ H hi p
  by_cases hlt : i < xs.length
  · refine .inr ⟨⟨xs, xs[i], q, by simp [hlt]⟩, Pv (i + 1), fun σ' H' p' => ⟨xs.length - (i + 1), by omega, rfl, hlt, p'⟩, fun x H' y => ?_⟩
    obtain ⟨e, y⟩ := y
    subst e
    exact hs i x σ _ (y xs q) p
  · have e : i = xs.length := by omega
    subst e
    exact .inl ⟨⟨xs, q, Nat.le_refl _⟩, hd σ H p⟩
theorem for_range {lo : Int} {n : Nat} {g : TG} {tb : TS} {D : Ends} {σ : St} {H : Hp} (Pv : Nat → St → Hp → Prop) (h0 : Pv 0 σ H)
    (hs : ∀ i σ H, i < n → Pv i σ H → g (.int (lo + i)) σ H fun σ2 H2 => tb { D with nx := Pv (i + 1), ct := Pv (i + 1), bk := D.nx } σ2 H2) (hd : ∀ σ H, Pv n σ H → D.nx σ H) :
    ∃ W : Nat → Nat → St → Hp → Prop, (∃ m, W 0 m σ H) ∧ ∀ i m σ H, W i m σ H →
      ((Itr lo n).stop i H ∧ D.nx σ H) ∨ ((Itr lo n).go i H ∧ ∃ N : St → Hp → Prop, (∀ σ' H', N σ' H' → ∃ m', m' < m ∧ W (i + 1) m' σ' H') ∧ ∀ x H', (Itr lo n).yld i H x H' → g x σ H' fun σ2 H2 => tb { D with nx := N, ct := N, bk := D.nx } σ2 H2) := by
  refine ⟨fun i m σ H => m = n - i ∧ i ≤ n ∧ Pv i σ H, ⟨n, by simp, Nat.zero_le _, h0⟩, ?_⟩
  rintro i m σ H ⟨rfl, hi, p⟩
  by_cases hlt : i < n
  · refine .inr ⟨hlt, Pv (i + 1), fun σ' H' p' => ⟨n - (i + 1), by omega, rfl, hlt, p'⟩, fun x H' y => ?_⟩
    obtain ⟨e, y⟩ := y
    subst e y
    exact hs i σ _ hlt p
  · have e : i = n := by omega
    subst e
    exact .inl ⟨Nat.le_refl _, hd σ H p⟩
end L2

namespace L2
open PySem PySem.Spec PyProof.Rows

abbrev R2 := V → V → Hp → VK → Prop
/-- a two-place operation on values: f is binaryOp op, inplaceOp op or compareOp op -/
def OpR (X : Cx) (f : Value → Value → Sem Value) (r : R2) : Prop :=
  ∀ (pins : List (Addr × Obj)) (s : Shared) (σ : St) (H : Hp) (x y : V) (v u : Value) (Q : VK), Inv X pins σ H s → RelV x v → RelV y u → r x y H Q →
    wpAny (model X.prog X.w) X.A (f v u) (EP X pins σ Q) X.xe s
/-- a one-place operation -/
def UnR (X : Cx) (f : Value → Sem Value) (r : V → Hp → VK → Prop) : Prop :=
  ∀ (pins : List (Addr × Obj)) (s : Shared) (σ : St) (H : Hp) (x : V) (v : Value) (Q : VK), Inv X pins σ H s → RelV x v → r x H Q →
    wpAny (model X.prog X.w) X.A (f v) (EP X pins σ Q) X.xe s
/-- a call of a value that is known (a builtin, a type) with values -/
def CallR (X : Cx) (f : Value) (r : List V → Hp → VK → Prop) : Prop :=
  ∀ (pins : List (Addr × Obj)) (s : Shared) (σ : St) (H : Hp) (xs : List V) (us : List Value) (Q : VK), Inv X pins σ H s → Vals xs us → r xs H Q →
    wpAny (model X.prog X.w) X.A (call f us) (EP X pins σ Q) X.xe s
/-- a value's truth -/
def TruR (X : Cx) (r : V → Hp → (Bool → Hp → Prop) → Prop) : Prop :=
  ∀ (pins : List (Addr × Obj)) (s : Shared) (σ : St) (H : Hp) (x : V) (v : Value) (Q : Bool → Hp → Prop), Inv X pins σ H s → RelV x v → r x H Q →
    wpAny (model X.prog X.w) X.A (truthy v) (TP X pins σ Q) X.xe s

def tOp (r : R2) (ta tb : TE) : TE := fun σ H Q => ta σ H fun x H1 => tb σ H1 fun y H2 => r x y H2 Q
def tUn (r : V → Hp → VK → Prop) (ta : TE) : TE := fun σ H Q => ta σ H fun x H1 => r x H1 Q
/-- ints in, under C, and a value out -/
def rI (C : Int → Int → Prop) (g : Int → Int → V) : R2 := fun x y H Q => ∃ i j, x = .int i ∧ y = .int j ∧ C i j ∧ Q (g i j) H
def rI0 (g : Int → Int → V) : R2 := fun x y H Q => ∃ i j, x = .int i ∧ y = .int j ∧ Q (g i j) H
def rU (g : Int → V) : V → Hp → VK → Prop := fun x H Q => ∃ i, x = .int i ∧ Q (g i) H

section
variable {X : Cx} {a b c : Expr} {ta tb tc : TE} {pos : Pos}

theorem binT (ha : PE X a ta) (hb : PE X b tb) {pins : List (Addr × Obj)} {s : Shared} {σ : St} {H : Hp} {R : V → V → Hp → Prop} (I : Inv X pins σ H s)
    (h : ta σ H fun x H1 => tb σ H1 fun y H2 => R x y H2) {Q : Value → Shared → Prop} {f : Value → Value → Sem Value}
    (hf : ∀ v u s2 x y H2, Inv X pins σ H2 s2 → RelV x v → RelV y u → R x y H2 → wpAny (model X.prog X.w) X.A (f v u) Q X.xe s2) :
    wpAny (model X.prog X.w) X.A (eval a X.env) (fun v s₁ => wpAny (model X.prog X.w) X.A (eval b X.env) (fun u s₂ => wpAny (model X.prog X.w) X.A (f v u) Q X.xe s₂) X.xe s₁) X.xe s := by
  refine thn (ha pins s σ H _ I h) fun v s1 ⟨x, H1, I1, r1, q1⟩ => ?_
  refine thn (hb pins s1 σ H1 _ I1 q1) fun u s2 ⟨y, H2, I2, r2, q2⟩ => ?_
  exact hf v u s2 x y H2 I2 r1 r2 q2

theorem pe_op {op : Operator} {r : R2} (ho : OpR X (binaryOp op) r) (ha : PE X a ta) (hb : PE X b tb) : PE X (.BinOp a op b pos) (tOp r ta tb) := by
  intro pins s σ H Q I h
  exact wpAny_BinOp (binT ha hb I h fun v u s2 x y H2 I2 rx ry q => ho pins s2 σ H2 x y v u Q I2 rx ry q)
theorem pe_un {op : UnaryOp} {r : V → Hp → VK → Prop} (ho : UnR X (unaryOp op) r) (ha : PE X a ta) : PE X (.UnaryOp op a pos) (tUn r ta) := by
  intro pins s σ H Q I h
  exact UnaryOp_ (thn (ha pins s σ H _ I h) fun v s1 ⟨x, H1, I1, r1, q1⟩ => ho pins s1 σ H1 x v Q I1 r1 q1)
/-! ### ints -/
theorem opI {f : Value → Value → Sem Value} {C : Int → Int → Prop} {g : Int → Int → Int}
    (rule : ∀ (i j : Int) (t u : Tok) (s : Shared) (Q : Value → Shared → Prop) (E : Value → Shared → Prop), C i j → Q (.int (g i j) s.toks) { s with toks := s.toks + 1 } → wpAny (model X.prog X.w) X.A (f (.int i t) (.int j u)) Q E s) :
    OpR X f (rI C fun i j => .int (g i j)) := by
  intro pins s σ H x y v u Q I rx ry h
  obtain ⟨i, j, rfl, rfl, hc, q⟩ := h
  obtain ⟨t, rfl⟩ := rx
  obtain ⟨t', rfl⟩ := ry
  exact rule i j t t' s _ _ hc ⟨.int (g i j), H, I.tok _, ⟨_, rfl⟩, q⟩
theorem opI0 {f : Value → Value → Sem Value} {g : Int → Int → Int}
    (rule : ∀ (i j : Int) (t u : Tok) (s : Shared) (Q : Value → Shared → Prop) (E : Value → Shared → Prop), Q (.int (g i j) s.toks) { s with toks := s.toks + 1 } → wpAny (model X.prog X.w) X.A (f (.int i t) (.int j u)) Q E s) :
    OpR X f (rI0 fun i j => .int (g i j)) := by
  intro pins s σ H x y v u Q I rx ry h
  obtain ⟨i, j, rfl, rfl, q⟩ := h
  obtain ⟨t, rfl⟩ := rx
  obtain ⟨t', rfl⟩ := ry
  exact rule i j t t' s _ _ ⟨.int (g i j), H, I.tok _, ⟨_, rfl⟩, q⟩
theorem opB0 {f : Value → Value → Sem Value} {g : Int → Int → Bool}
    (rule : ∀ (i j : Int) (t u : Tok) (s : Shared) (Q : Value → Shared → Prop) (E : Value → Shared → Prop), Q (.bool (g i j)) s → wpAny (model X.prog X.w) X.A (f (.int i t) (.int j u)) Q E s) :
    OpR X f (rI0 fun i j => .bl (g i j)) := by
  intro pins s σ H x y v u Q I rx ry h
  obtain ⟨i, j, rfl, rfl, q⟩ := h
  obtain ⟨t, rfl⟩ := rx
  obtain ⟨t', rfl⟩ := ry
  exact rule i j t t' s _ _ ⟨.bl (g i j), H, I, rfl, q⟩

def CDiv (i j : Int) : Prop := 0 < j ∧ j < 1073741824
def CDivN (i j : Int) : Prop := j ≠ 0 ∧ j.natAbs < 1073741824
def CPow (i j : Int) : Prop := 0 ≤ j ∧ j ≤ 1000000 ∧ i.natAbs < 2 ^ 64
def CMul (i j : Int) : Prop := (-(2 ^ 64) < i ∧ i < 2 ^ 64) ∨ (-(2 ^ 64) < j ∧ j < 2 ^ 64)
theorem CMul.ok {i j : Int} (h : CMul i j) : IntMulOk i j := by
  rcases h with ⟨h1, h2⟩ | ⟨h1, h2⟩
  · exact .of_left (intBits_le_64 h1 h2)
  · exact .of_right (intBits_le_64 h1 h2)
theorem op_add : OpR X (binaryOp .Add) (rI0 fun i j => .int (i + j)) := opI0 fun _ _ _ _ _ _ _ q => add_int q
theorem op_sub : OpR X (binaryOp .Sub) (rI0 fun i j => .int (i - j)) := opI0 fun _ _ _ _ _ _ _ q => sub_int q
theorem op_mul : OpR X (binaryOp .Mult) (rI CMul fun i j => .int (i * j)) := opI fun _ _ _ _ _ _ _ hc q => mul_int q hc.ok
/-- // by a positive divisor -/
theorem op_fdiv : OpR X (binaryOp .FloorDiv) (rI CDiv fun i j => .int (i / j)) := opI fun i j _ _ _ _ _ hc q => by
  have h1 : (0 : Int) < j := hc.1
  have h2 : j < 1073741824 := hc.2
  exact floordiv_int (by omega) (by rw [Int.fdiv_eq_ediv_of_nonneg i (by omega)]; exact q) (.inl (PyProof.noPylong_small (by omega)))
/-- % by a positive divisor of any size -/
theorem op_mod : OpR X (binaryOp .Mod) (rI (fun _ j => 0 < j) fun i j => .int (i % j)) := opI fun i j _ _ _ _ _ hc q => by
  have h1 : (0 : Int) < j := hc
  exact mod_int' (by omega) (by rw [Int.fmod_eq_emod_of_nonneg i (by omega)]; exact q)
theorem unI {f : Value → Sem Value} {g : Int → Int}
    (rule : ∀ (i : Int) (t : Tok) (s : Shared) (Q : Value → Shared → Prop) (E : Value → Shared → Prop), Q (.int (g i) s.toks) { s with toks := s.toks + 1 } → wpAny (model X.prog X.w) X.A (f (.int i t)) Q E s) :
    UnR X f (rU fun i => .int (g i)) := by
  intro pins s σ H x v Q I rx h
  obtain ⟨i, rfl, q⟩ := h
  obtain ⟨t, rfl⟩ := rx
  exact rule i t s _ _ ⟨.int (g i), H, I.tok _, ⟨_, rfl⟩, q⟩
theorem un_neg : UnR X (unaryOp .USub) (rU fun i => .int (-i)) := unI fun _ _ _ _ _ q => neg_int q
/-! ### bools among ints: n += (a < b) -/
end

/-! ### comparisons -/
/-- the scalars that == tells apart as data does -/
def scal : V → V → Bool
  | .non, .non => true | .non, .int _ => true | .int _, .non => true | .non, .bl _ => true | .bl _, .non => true | .non, .str _ => true | .str _, .non => true
  | .int _, .int _ => true | .bl _, .bl _ => true | .str _, .str _ => true | .byt _, .byt _ => true
  | .int _, .str _ => true | .str _, .int _ => true | .bl _, .str _ => true | .str _, .bl _ => true
  | _, _ => false
def rEq : R2 := fun x y H Q => scal x y = true ∧ Q (.bl (decide (x = y))) H
def rNe : R2 := fun x y H Q => scal x y = true ∧ Q (.bl (!decide (x = y))) H

theorem dec_int {i j : Int} : decide (V.int i = V.int j) = (i == j) := by
  rw [Bool.eq_iff_iff]
  simp
theorem dec_bl {i j : Bool} : decide (V.bl i = V.bl j) = (i == j) := by
  rw [Bool.eq_iff_iff]
  simp
theorem dec_str {i j : Str} : decide (V.str i = V.str j) = (i == j) := by
  rw [Bool.eq_iff_iff]
  simp
theorem dec_byt {i j : Array UInt8} : decide (V.byt i = V.byt j) = (i.toList == j.toList) := by
  rw [Bool.eq_iff_iff]
  cases i
  cases j
  simp

section
variable {X : Cx} {a b c : Expr} {ta tb tc : TE} {pos : Pos}
theorem fin_bl {pins : List (Addr × Obj)} {σ : St} {H : Hp} {s : Shared} {Q : VK} {k k' : Bool} (I : Inv X pins σ H s) (q : Q (.bl k) H) (e : k = k') : EP X pins σ Q (.bool k') s := by
  subst e
  exact ⟨.bl k, H, I, rfl, q⟩
theorem op_eq : OpR X (compareOp .Eq) rEq := by
  intro pins s σ H x y v u Q I rx ry h
  obtain ⟨hs, q⟩ := h
  cases x with
  | non =>
    cases rx
    cases y with
    | non => cases ry; exact PySem.EqNone.eq_none_none (fin_bl I q (by simp))
    | bl j => cases ry; exact PySem.EqNone.eq_none_bool (fin_bl I q (by simp))
    | int j => obtain ⟨t', rfl⟩ := ry; exact PySem.EqNone.eq_none_int (fin_bl I q (by simp))
    | str j => obtain ⟨t', rfl⟩ := ry; exact PySem.EqNone.eq_none_str (fin_bl I q (by simp))
    | _ => exact absurd (show false = true from hs) Bool.false_ne_true
  | bl i =>
    cases rx
    cases y with
    | non => cases ry; exact PySem.EqNone.eq_bool_none (fin_bl I q (by simp))
    | bl j => cases ry; exact eq_bool (fin_bl I q dec_bl)
    | str j => obtain ⟨t', rfl⟩ := ry; exact PySem.EqMixed.eq_bool_str (fin_bl I q (by simp))
    | _ => exact absurd (show false = true from hs) Bool.false_ne_true
  | int i =>
    obtain ⟨t, rfl⟩ := rx
    cases y with
    | non => cases ry; exact PySem.EqNone.eq_int_none (fin_bl I q (by simp))
    | int j => obtain ⟨t', rfl⟩ := ry; exact eq_int (fin_bl I q dec_int)
    | str j => obtain ⟨t', rfl⟩ := ry; exact PySem.EqMixed.eq_int_str (fin_bl I q (by simp))
    | _ => exact absurd (show false = true from hs) Bool.false_ne_true
  | str i =>
    obtain ⟨t, rfl⟩ := rx
    cases y with
    | non => cases ry; exact PySem.EqNone.eq_str_none (fin_bl I q (by simp))
    | bl j => cases ry; exact PySem.EqMixed.eq_str_bool (fin_bl I q (by simp))
    | int j => obtain ⟨t', rfl⟩ := ry; exact PySem.EqMixed.eq_str_int (fin_bl I q (by simp))
    | str j => obtain ⟨t', rfl⟩ := ry; exact eq_str (fin_bl I q dec_str)
    | _ => exact absurd (show false = true from hs) Bool.false_ne_true
  | byt i =>
    obtain ⟨t, rfl⟩ := rx
    cases y with
    | byt j => obtain ⟨t', rfl⟩ := ry; exact PySem.W.eq_bytes (fin_bl I q dec_byt)
    | _ => exact absurd (show false = true from hs) Bool.false_ne_true
  | _ => cases y <;> exact absurd (show false = true from hs) Bool.false_ne_true
theorem op_ne : OpR X (compareOp .NotEq) rNe := by
  intro pins s σ H x y v u Q I rx ry h
  obtain ⟨hs, q⟩ := h
  cases x with
  | non =>
    cases rx
    cases y with
    | non => cases ry; exact PySem.EqNone.ne_none_none (fin_bl I q (by simp))
    | bl j => cases ry; exact PySem.EqNone.ne_none_bool (fin_bl I q (by simp))
    | int j => obtain ⟨t', rfl⟩ := ry; exact PySem.EqNone.ne_none_int (fin_bl I q (by simp))
    | str j => obtain ⟨t', rfl⟩ := ry; exact PySem.EqNone.ne_none_str (fin_bl I q (by simp))
    | _ => exact absurd (show false = true from hs) Bool.false_ne_true
  | bl i =>
    cases rx
    cases y with
    | non => cases ry; exact PySem.EqNone.ne_bool_none (fin_bl I q (by simp))
    | bl j => cases ry; exact ne_bool (fin_bl I q (congrArg not dec_bl))
    | str j => obtain ⟨t', rfl⟩ := ry; exact PySem.EqMixed.ne_bool_str (fin_bl I q (by simp))
    | _ => exact absurd (show false = true from hs) Bool.false_ne_true
  | int i =>
    obtain ⟨t, rfl⟩ := rx
    cases y with
    | non => cases ry; exact PySem.EqNone.ne_int_none (fin_bl I q (by simp))
    | int j => obtain ⟨t', rfl⟩ := ry; exact ne_int (fin_bl I q (congrArg not dec_int))
    | str j => obtain ⟨t', rfl⟩ := ry; exact PySem.EqMixed.ne_int_str (fin_bl I q (by simp))
    | _ => exact absurd (show false = true from hs) Bool.false_ne_true
  | str i =>
    obtain ⟨t, rfl⟩ := rx
    cases y with
    | non => cases ry; exact PySem.EqNone.ne_str_none (fin_bl I q (by simp))
    | bl j => cases ry; exact PySem.EqMixed.ne_str_bool (fin_bl I q (by simp))
    | int j => obtain ⟨t', rfl⟩ := ry; exact PySem.EqMixed.ne_str_int (fin_bl I q (by simp))
    | str j => obtain ⟨t', rfl⟩ := ry; exact ne_str (fin_bl I q (congrArg not dec_str))
    | _ => exact absurd (show false = true from hs) Bool.false_ne_true
  | byt i =>
    obtain ⟨t, rfl⟩ := rx
    cases y with
    | byt j => obtain ⟨t', rfl⟩ := ry; exact PySem.W.ne_bytes (fin_bl I q (congrArg not dec_byt))
    | _ => exact absurd (show false = true from hs) Bool.false_ne_true
  | _ => cases y <;> exact absurd (show false = true from hs) Bool.false_ne_true

theorem op_lt : OpR X (compareOp .Lt) (rI0 fun i j => .bl (decide (i < j))) := opB0 fun _ _ _ _ _ _ _ q => lt_int q
theorem op_le : OpR X (compareOp .LtE) (rI0 fun i j => .bl (decide (i ≤ j))) := opB0 fun _ _ _ _ _ _ _ q => le_int q
theorem op_gt : OpR X (compareOp .Gt) (rI0 fun i j => .bl (decide (j < i))) := opB0 fun _ _ _ _ _ _ _ q => gt_int q
theorem op_ge : OpR X (compareOp .GtE) (rI0 fun i j => .bl (decide (j ≤ i))) := opB0 fun _ _ _ _ _ _ _ q => ge_int q
/-- the one string within the other -/
theorem op_in_str : OpR X (compareOp .In) (fun x y H Q => ∃ i j, x = .str i ∧ y = .str j ∧ Q (.bl (!(Builtin.Str.occurrences j i 0 j.length 1).isEmpty)) H) := by
  intro pins s σ H x y v u Q I rx ry h
  obtain ⟨i, j, rfl, rfl, q⟩ := h
  obtain ⟨t, rfl⟩ := rx
  obtain ⟨t', rfl⟩ := ry
  exact in_str (fin_bl I q rfl)

/-- is None, is not None: the right side a value none -/
theorem op_isN : OpR X (compareOp .Is) (fun x y H Q => y = .non ∧ Q (.bl (decide (x = .non))) H) := by
  intro pins s σ H x y v u Q I rx ry h
  obtain ⟨rfl, q⟩ := h
  cases ry
  refine is_none_gen (fin_bl I q ?_)
  cases x <;> first
    | (cases rx; rfl)
    | (obtain ⟨t, rfl⟩ := rx; rfl)
/-- is, is not of two objects that are tracked lists or instances -/
def isObj : HO → Bool
  | .lst _ => true
  | .ins _ _ _ => true
  | _ => false
theorem nomark (b : Expr) {op : CmpOp} (h : op ≠ .In := by decide) (h2 : op ≠ .NotIn := by decide) : behindInMarks op b = false := by
  have e1 : (op == CmpOp.In) = false := by cases op <;> first | rfl | exact absurd rfl h
  have e2 : (op == CmpOp.NotIn) = false := by cases op <;> first | rfl | exact absurd rfl h2
  cases b <;> simp [behindInMarks, e1, e2]
/-- a comparison as a value; hm: nomark b, or (for in, not in) by with_unfolding_all rfl -/
theorem pe_cmpR {op : CmpOp} {r : R2} (ho : OpR X (compareOp op) r) (ha : PE X a ta) (hb : PE X b tb) (hm : behindInMarks op b = false) : PE X (.Compare a [op] [b] pos) (tOp r ta tb) := by
  intro pins s σ H Q I h
  exact wpAny_Compare1 (binT ha hb I h fun v u s2 x y H2 I2 rx ry q => ho pins s2 σ H2 x y v u Q I2 rx ry q) hm
/-- a reading of a value as a test -/
def tTest (t : TE) : TT := fun σ H Q => t σ H fun x H' => ∃ k, x = .bl k ∧ Q k H'
theorem pt_cmpR {op : CmpOp} {r : R2} (ho : OpR X (compareOp op) r) (ha : PE X a ta) (hb : PE X b tb) (hm : behindInMarks op b = false) : PT X (.Compare a [op] [b] pos) (tTest (tOp r ta tb)) := by
  intro pins s σ H Q I h
  refine wpAny_isTrue_Compare1 (thn (ha pins s σ H _ I h) fun v s1 ⟨x, H1, I1, r1, q1⟩ => thn (hb pins s1 σ H1 _ I1 q1) fun u s2 ⟨y, H2, I2, r2, q2⟩ =>
    thn (ho pins s2 σ H2 x y v u _ I2 r1 r2 q2) fun c s3 ⟨z, H3, I3, r3, k, e, q3⟩ => ?_) hm
  subst e
  cases r3
  exact wpAny_truthy_bool ⟨H3, I3, q3⟩
/-- a op1 b op2 c -/
def tChain (r r' : R2) (ta tb tc : TE) : TE := fun σ H Q => ta σ H fun x H1 => tb σ H1 fun y H2 => r x y H2 fun z H3 => ∃ k, z = .bl k ∧
  (if k = true then tc σ H3 fun w' H4 => r' y w' H4 Q else Q (.bl false) H3)
theorem pe_chain {op op' : CmpOp} {r r' : R2} (ho : OpR X (compareOp op) r) (ho' : OpR X (compareOp op') r') (ha : PE X a ta) (hb : PE X b tb) (hc : PE X c tc)
    (hm : lastMarks [op, op'] [b, c] = false := by with_unfolding_all rfl) : PE X (.Compare a [op, op'] [b, c] pos) (tChain r r' ta tb tc) := by
  intro pins s σ H Q I h
  refine Compare_chain (thn (ha pins s σ H _ I h) fun v s1 ⟨x, H1, I1, r1, q1⟩ => chain_link (thn (hb pins s1 σ H1 _ I1 q1) fun u s2 ⟨y, H2, I2, r2, q2⟩ =>
    thn (ho pins s2 σ H2 x y v u _ I2 r1 r2 q2) fun d s3 ⟨z, H3, I3, r3, k, e, q3⟩ => ?_)) hm
  subst e
  cases r3
  refine wpAny_truthy_bool ?_
  cases k with
  | false => exact ite_ff ⟨.bl false, H3, I3, rfl, q3⟩
  | true => exact ite_tt (chain_last (thn (hc pins s3 σ H3 _ I3 q3) fun w' s4 ⟨z', H4, I4, r4, q4⟩ => ho' pins s4 σ H4 y z' u w' Q I4 r2 r4 q4))
/-! ### truth -/
/-- a value's truth by the abstract heap -/
def TruV (K : PySem.W.Frag) (x : V) (H : Hp) (k : Bool) : Prop :=
  match x with
  | .non => k = false
  | .bl b => k = b
  | .int i => k = (i != 0)
  | .str y => y.length ≤ sizeLine ∧ k = ((y.length : Int) != 0)
  | .byt y => y.size ≤ sizeLine ∧ k = ((y.size : Int) != 0)
  | .ref p => (∃ xs, SqL K H p xs ∧ k = !xs.isEmpty) ∨ (∃ xs, SqT K H p xs ∧ k = !xs.isEmpty) ∨ ∃ kvs, H p = some (.dK kvs) ∧ k = !kvs.isEmpty
  | _ => False
theorem line63 : (sizeLine : Nat) < 2 ^ 63 := by rw [sizeLine_eq]; decide
/-! ### strs and bytes -/
theorem op_add_str : OpR X (binaryOp .Add) (fun x y H Q => ∃ i j, x = .str i ∧ y = .str j ∧ i.length + j.length ≤ sizeLine ∧ Q (.str (i ++ j)) H) := by
  intro pins s σ H x y v u Q I rx ry h
  obtain ⟨i, j, rfl, rfl, hz, q⟩ := h
  obtain ⟨t, rfl⟩ := rx
  obtain ⟨t', rfl⟩ := ry
  exact add_str (fun t' tk => ⟨.str (i ++ j), H, I.tok _, ⟨_, rfl⟩, q⟩) hz
def PlainIxT (b : Expr) : Prop := ∀ o i, subscripted b false o i = operate [o, i] (getItem o i)
/-! ### scalar builtins, by CallR -/
theorem vals1 {x : V} {us : List Value} (r : Vals [x] us) : ∃ u, us = [u] ∧ RelV x u := by
  cases r with
  | cons r1 r2 => cases r2; exact ⟨_, rfl, r1⟩
theorem vals2 {x y : V} {us : List Value} (r : Vals [x, y] us) : ∃ u w', us = [u, w'] ∧ RelV x u ∧ RelV y w' := by
  cases r with
  | cons r1 r2 =>
    cases r2 with
    | cons r3 r4 => cases r4; exact ⟨_, _, rfl, r1, r3⟩
theorem call_max2 (hc : X.calm = true) : CallR X (.builtin "max") (fun xs H Q => ∃ i j, xs = [.int i, .int j] ∧ Q (.int (if j > i then j else i)) H) := by
  intro pins s σ H xs us Q I r h
  obtain ⟨i, j, rfl, q⟩ := h
  obtain ⟨u, w', rfl, ⟨t, rfl⟩, ⟨t', rfl⟩⟩ := vals2 r
  refine max_two_ints (I.ok.hd hc) fun h' tk k => ⟨_, H, I.kept k, ?_, q⟩
  by_cases hj : j > i
  · rw [if_pos hj, if_pos hj]; exact ⟨_, rfl⟩
  · rw [if_neg hj, if_neg hj]; exact ⟨_, rfl⟩
theorem call_min2 (hc : X.calm = true) : CallR X (.builtin "min") (fun xs H Q => ∃ i j, xs = [.int i, .int j] ∧ Q (.int (if j < i then j else i)) H) := by
  intro pins s σ H xs us Q I r h
  obtain ⟨i, j, rfl, q⟩ := h
  obtain ⟨u, w', rfl, ⟨t, rfl⟩, ⟨t', rfl⟩⟩ := vals2 r
  refine min_two_ints (I.ok.hd hc) fun h' tk k => ⟨_, H, I.kept k, ?_, q⟩
  by_cases hj : j < i
  · rw [if_pos hj, if_pos hj]; exact ⟨_, rfl⟩
  · rw [if_neg hj, if_neg hj]; exact ⟨_, rfl⟩
/-- len of a str, a bytes, a list, a tuple -/
def LenV (K : PySem.W.Frag) (x : V) (H : Hp) (n : Nat) : Prop :=
  match x with
  | .str y => y.length ≤ sizeLine ∧ n = y.length
  | .byt y => y.size ≤ sizeLine ∧ n = y.size
  | .ref p => (∃ xs, SqL K H p xs ∧ n = xs.length) ∨ ∃ xs, SqT K H p xs ∧ n = xs.length
  | _ => False
/-- divmod: a new tuple -/
theorem call_divmod : CallR X (.builtin "divmod") (fun xs H Q => ∃ i j, xs = [.int i, .int j] ∧ CDiv i j ∧ ∀ p, H p = none → Q (.ref p) (upd H p (.tup [.int (i / j), .int (i % j)]))) := by
  intro pins s σ H xs us Q I r h
  obtain ⟨i, j, rfl, ⟨h1, h2⟩, q⟩ := h
  obtain ⟨u, w', rfl, ⟨t, rfl⟩, ⟨t', rfl⟩⟩ := vals2 r
  refine divmod_int (by omega) ?_ (.inl (PyProof.noPylong_small (by omega)))
  rw [Int.fdiv_eq_ediv_of_nonneg i (by omega), Int.fmod_eq_emod_of_nonneg i (by omega)]
  have hn : H s.heap.objs.size = none := I.hok.fresh (Nat.le_refl _)
  refine ⟨.ref s.heap.objs.size, _, ?_, rfl, q _ hn⟩
  refine I.laid (fun b o e => Heap.get?_push_of_some _ e) (Nat.le_refl _) ⟨by simp only [List.length_cons, List.length_nil]; rw [sizeLine_eq]; decide, [.int (i / j) s.toks, .int (i % j) (s.toks + 1)], .cons ⟨_, rfl⟩ (.cons ⟨_, rfl⟩ .nil), ?_⟩
  exact ⟨_, Heap.get?_push_size s.heap rfl, rfl, 0, rfl⟩
end
end L2

namespace L2
open PySem PySem.Spec PyProof.Rows

/-! ### an instance, its attributes a map -/
structure ObjM (h : Heap) (x dx C : Addr) (mA : Str → Option Value) : Prop where
  obj : h.get? x = some (PySem.W.instObj C dx)
  ns : h.Ns1 dx mA
  ne : dx ≠ x

theorem lookIn_ns {h : Heap} {dx : Addr} {mA : Str → Option Value} (n : h.Ns1 dx mA) : ∃ od, h.get? dx = some od ∧ ∀ name, PySem.W.lookIn name od = some (mA name) := by
  obtain ⟨o, es, ep, ho, hd, hk, _, hm⟩ := n
  refine ⟨o, ho, fun name => ?_⟩
  have e := hm name
  unfold nsFind findBy at e
  rw [← Array.find?_toList] at e
  unfold PySem.W.lookIn
  rw [hd]
  dsimp only
  split
  · rename_i y q
    rw [q] at e
    exact congrArg some e
  · rename_i q
    rw [q] at e
    have a : es.toList.any (·.refKey) = false := by
      rw [List.any_eq_false]
      intro y hy
      obtain ⟨z, t, hkey⟩ := hk y (Array.mem_toList_iff.mp hy)
      simp [DictEntry.refKey, hkey]
    have a' : ¬ es.toList.any (·.refKey) = true := by rw [a]; exact Bool.false_ne_true
    rw [if_neg a']
    exact congrArg some e

theorem ObjM.look {h : Heap} {x dx C : Addr} {mA : Str → Option Value} (I : ObjM h x dx C mA) : ∃ od, PySem.W.InstAt h x (PySem.W.instObj C dx) C (some od) ∧ ∀ name, PySem.W.lookIn name od = some (mA name) :=
  let ⟨od, ho, hl⟩ := lookIn_ns I.ns
  ⟨od, ⟨I.obj, rfl, rfl, ho⟩, hl⟩

section
variable {prog : Program} {w : World} {A : Around} {E : Value → Shared → Prop} {s : Shared} {K : PySem.W.Frag} {x dx C f : Addr} {mA : Str → Option Value} {name : Str} {v : Value}

end

/-! ### the attributes as a list of pairs -/
def putF (f : Str) (v : V) : List (Str × V) → List (Str × V)
  | [] => [(f, v)]
  | (g, x) :: r => if g = f then (g, v) :: r else (g, x) :: putF f v r
section
variable {P : Program} {w : World} {H H' : Hp} {h h' : Heap} {a C dx : Addr} {fs fs' : List (Str × V)}
theorem ins_get (hok : HOk P w H h) (e : H a = some (.ins C dx fs)) : ∃ mA, ObjM h a dx C mA ∧ (∀ f, RelO (fs.lookup f) (mA f)) ∧ PySem.Within mA (fs.map (·.1)) ∧ fs.length ≤ 1000 ∧ H dx = some (.own a) := by
  obtain ⟨d, z, ne, ob, mA, n, r, q⟩ := (show ObjOk P w H h a (.ins C dx fs) from hok a _ e)
  exact ⟨mA, ⟨ob, n, ne⟩, r, q, z, d⟩
end

/-! ### what of the text a class must have -/
structure Cls (K : PySem.W.Frag) (C : Addr) : Prop where
  pg : PySem.W.plainGet K C Str.empty = true
  hd : PySem.W.hasDictIn K C = true
  po : PySem.W.plainOver K C = true
  sa : PySem.W.findIn K (.ref C) "__setattr__" = some (some (.builtin "object.__setattr__"))
theorem Cls.get {K : PySem.W.Frag} {C : Addr} (c : Cls K C) (f : Str) : PySem.W.plainGet K C f = true := c.pg
/-- no class of it has the name -/
def NoAttr (K : PySem.W.Frag) (C : Addr) (f : Str) : Prop := PySem.W.findIn K (.ref C) f = some none
/-- a constant of the class -/
structure Con (K : PySem.W.Frag) (C : Addr) (f : Str) (v : V) (u : Value) : Prop where
  at_ : PySem.W.findIn K (.ref C) f = some (some u)
  rel : RelV v u
  get : PySem.W.specialIn K u "__get__" = some none
  cp : PySem.W.copiedNames.contains f = false
/-- a method: a plain def of the class or of one above it -/
structure Meth (K : PySem.W.Frag) (C : Addr) (m : Str) (f : Addr) : Prop where
  at_ : PySem.W.findIn K (.ref C) m = some (some (.ref f))
  fn : PySem.W.isFn K (.ref f) = true
  kp : PySem.W.keepIn K (.ref f) = true

section
variable {X : Cx} {pins : List (Addr × Obj)} {σ : St} {H : Hp} {s : Shared} {a C dx : Addr} {fs : List (Str × V)} {f : Str} {v : V} {A : Around} {E : Value → Shared → Prop}

end

/-! ### readings and rules -/
/-- e.f, an attribute of the instance -/
def tFld (K : PySem.W.Frag) (ta : TE) (f : Str) : TE := fun σ H Q => ta σ H fun x H1 => ∃ a C dx fs v, x = .ref a ∧ H1 a = some (.ins C dx fs) ∧ Cls K C ∧ NoAttr K C f ∧ fs.lookup f = some v ∧ Q v H1
/-- e.f, a constant of the class -/
def tCon (K : PySem.W.Frag) (ta : TE) (f : Str) : TE := fun σ H Q => ta σ H fun x H1 => ∃ a C dx fs v u, x = .ref a ∧ H1 a = some (.ins C dx fs) ∧ Cls K C ∧ Con K C f v u ∧ fs.lookup f = none ∧ Q v H1
/-- e.f = value -/
def sFld (K : PySem.W.Frag) (ta tv : TE) (f : Str) : TS := fun D σ H => tv σ H fun y H1 => ta σ H1 fun x H2 => ∃ a C dx fs, x = .ref a ∧ H2 a = some (.ins C dx fs) ∧ Cls K C ∧ NoAttr K C f ∧ fs.length < 1000 ∧
  D.nx σ (upd H2 a (.ins C dx (putF f y fs)))
/-- an augmented operator on two values -/
def InOp (X : Cx) (op : Operator) (rd : V → V → Hp → VK → Prop) : Prop :=
  ∀ (pins : List (Addr × Obj)) (s : Shared) (σ : St) (H : Hp) (x y : V) (u v : Value) (Q : VK), Inv X pins σ H s → RelV x u → RelV y v → rd x y H Q → wpAny (model X.prog X.w) X.A (inplaceOp op u v) (EP X pins σ Q) X.xe s
/-- e.f op= value -/
def sFldAug (K : PySem.W.Frag) (ta tv : TE) (rd : V → V → Hp → VK → Prop) (f : Str) : TS := fun D σ H => ta σ H fun x H1 => ∃ a C dx fs v, x = .ref a ∧ H1 a = some (.ins C dx fs) ∧ Cls K C ∧ NoAttr K C f ∧ fs.lookup f = some v ∧
  tv σ H1 fun y H2 => rd v y H2 fun z H3 => ∃ dx' fs', H3 a = some (.ins C dx' fs') ∧ fs'.length < 1000 ∧ D.nx σ (upd H3 a (.ins C dx' (putF f z fs')))

section
variable {X : Cx} {o e value : Expr} {f : Str} {pos pos' tpos : Pos} {ta tv : TE}
def rAdd : V → V → Hp → VK → Prop := fun x y H Q => ∃ i j, x = .int i ∧ y = .int j ∧ Q (.int (i + j)) H
def rSub : V → V → Hp → VK → Prop := fun x y H Q => ∃ i j, x = .int i ∧ y = .int j ∧ Q (.int (i - j)) H
end

/-! ### isinstance -/
section
variable {X : Cx} {pins : List (Addr × Obj)} {σ : St} {H : Hp} {s : Shared} {A : Around} {E : Value → Shared → Prop} {Q : Value → Shared → Prop} {c : Value} {b : Bool}
/-- the type of a value, as the fragment's deciders take it; for an instance its class -/
inductive TyOf (K : PySem.W.Frag) (H : Hp) : V → Value → Prop where
  | non : TyOf K H .non (.type "NoneType")
  | bl (x : Bool) : TyOf K H (.bl x) (.type "bool")
  | int (i : Int) : TyOf K H (.int i) (.type "int")
  | str (x : Str) : TyOf K H (.str x) (.type "str")
  | flt (x : UInt64) : TyOf K H (.flt x) (.type "float")
  | lst {a : Addr} {xs : List V} (e : H a = some (.lst xs)) : TyOf K H (.ref a) (.type "list")
  | frz {a : Addr} {o : Obj} {xs : List V} (e : H a = some (.frz o (.lst xs))) : TyOf K H (.ref a) (.type "list")
  | tup {a : Addr} {xs : List V} (e : H a = some (.tup xs)) : TyOf K H (.ref a) (.type "tuple")
  | dK {a : Addr} {kvs : List (Key × V)} (e : H a = some (.dK kvs)) : TyOf K H (.ref a) (.type "dict")
  | dT {a : Addr} {kvs : List (List Key × V)} (e : H a = some (.dT kvs)) : TyOf K H (.ref a) (.type "dict")
  | ins {a C dx : Addr} {fs : List (Str × V)} (e : H a = some (.ins C dx fs)) (cl : Cls K C) (ha : PySem.W.findIn K (.ref C) "__class__" = some (some (.builtin "object.__class__")))
      (hn : PySem.W.specialIn K (.builtin "object.__class__") "__get__" = some (some (.builtin "getset_descriptor.__get__"))) (htk : PySem.W.takesIn K (.builtin "object.__class__") = some true)
      (hm : PySem.W.mroIn K C (.type "object") = some true) : TyOf K H (.ref a) (.ref C)
/-- isinstance(x, c) for one class c, a built-in or an own one: kitOne's answer -/
theorem isinst_ok {x : V} {u t : Value} (I : Inv X pins σ H s) (rx : RelV x u) (ty : TyOf X.K H x t) (e : PySem.W.kitOne X.K t c = some b) (h : ∀ tk, Q (.bool b) { s with toks := tk }) :
    wpAny (model X.prog X.w) A (call (.builtin "isinstance") [u, c]) Q E s := by
  cases ty with
  | non => cases (show u = Value.none from rx); exact PySem.W.kia_one PySem.W.kitx_none I.kIn True.intro e (fun z => nomatch z) h
  | bl y => cases (show u = Value.bool y from rx); exact PySem.W.kia_one PySem.W.kitx_bool I.kIn True.intro e (fun z => nomatch z) h
  | int i => obtain ⟨t, q⟩ := (show ∃ t, u = Value.int i t from rx); cases q; exact PySem.W.kia_one PySem.W.kitx_int I.kIn True.intro e (fun z => nomatch z) h
  | str y => obtain ⟨t, q⟩ := (show ∃ t, u = Value.str y t from rx); cases q; exact PySem.W.kia_one PySem.W.kitx_str I.kIn True.intro e (fun z => nomatch z) h
  | flt y => obtain ⟨t, q⟩ := (show ∃ t, u = Value.float y t from rx); cases q; exact PySem.W.kia_one PySem.W.kitx_float I.kIn True.intro e (fun z => nomatch z) h
  | @lst a xs ea =>
    cases (show u = Value.ref a from rx)
    obtain ⟨_, _, n, _, h1⟩ := (show ObjOk X.prog X.w H s.heap a (.lst xs) from I.hok a _ ea)
    exact PySem.W.kia_one PySem.W.kitx_list I.kIn ⟨_, h1, rfl⟩ e (fun z => nomatch z) h
  | @frz a ob xs ea =>
    cases (show u = Value.ref a from rx)
    obtain ⟨_, _, _, n, _, h1⟩ := (show ObjOk X.prog X.w H s.heap a (.frz ob (.lst xs)) from I.hok a _ ea)
    exact PySem.W.kia_one PySem.W.kitx_list I.kIn ⟨_, h1, rfl⟩ e (fun z => nomatch z) h
  | @tup a xs ea =>
    cases (show u = Value.ref a from rx)
    obtain ⟨_, _, _, p⟩ := (show ObjOk X.prog X.w H s.heap a (.tup xs) from I.hok a _ ea)
    obtain ⟨o, h1, h2, _⟩ := p
    exact PySem.W.kia_one PySem.W.kitx_tuple I.kIn ⟨o, h1, h2⟩ e (fun z => nomatch z) h
  | @dK a kvs ea =>
    cases (show u = Value.ref a from rx)
    obtain ⟨_, _, vs, _, p⟩ := (show ObjOk X.prog X.w H s.heap a (.dK kvs) from I.hok a _ ea)
    obtain ⟨o, es, ep, h1, h2, _⟩ := p
    exact PySem.W.kia_one PySem.W.kitx_dict I.kIn ⟨o, h1, h2.1⟩ e (fun z => nomatch z) h
  | @dT a kvs ea =>
    cases (show u = Value.ref a from rx)
    obtain ⟨_, _, xs, _, o, es, ep, h1, h2, _⟩ := (show ObjOk X.prog X.w H s.heap a (.dT kvs) from I.hok a _ ea)
    exact PySem.W.kia_one PySem.W.kitx_dict I.kIn ⟨o, h1, h2.1⟩ e (fun z => nomatch z) h
  | @ins a C dx fs ea cl ha hn htk hm =>
    cases (show u = Value.ref a from rx)
    obtain ⟨mA, O, _⟩ := ins_get I.hok ea
    obtain ⟨od, J, _⟩ := O.look
    exact PySem.W.kia_one (PySem.W.kitx_own (cl.get _) cl.hd ha hn htk hm) I.kIn J e (fun z => nomatch z) h
end
end L2

namespace L2
open PySem PySem.Spec PyProof.Rows

/-! ### room -/
structure Room (k : Nat) (A : Around) : Prop where
  hd : A.handled = none
  dp : A.depth + 3 * k + 5 < recursionLimit
  un : A.units + 16 * k + 200 < cLine
theorem Room.mono {j k : Nat} {A : Around} (r : Room k A) (h : j ≤ k) : Room j A := ⟨r.hd, by have := r.dp; omega, by have := r.un; omega⟩
theorem Room.deeper {k : Nat} {A : Around} (r : Room (k + 1) A) (env : Env) : Room k (A.deeper env) :=
  ⟨r.hd, by have := r.dp; show A.depth + 1 + 3 * k + 5 < _; omega, by have := r.un; show A.units + 3 + 16 * k + 200 < _; omega⟩
theorem Room.depth {k : Nat} {A : Around} (r : Room k A) : A.depth < recursionLimit := by have := r.dp; omega
theorem Room.units0 {k : Nat} {A : Around} (r : Room k A) : A.units < cLine := by have := r.un; omega

/-! ### argument lists and displays -/
def tNil : TA := fun _ H Q => Q [] H
def tCons (ta : TE) (tr : TA) : TA := fun σ H Q => ta σ H fun x H1 => tr σ H1 fun xs H2 => Q (x :: xs) H2
section
variable {X : Cx} {e : Expr} {es : List Expr} {te : TE} {t : TA} {pos : Pos}
theorem pa_nil : PA X [] tNil := fun _ _ _ _ H Q I h => Calls.spliced_nil ⟨[], H, I, .nil, h⟩
theorem pa_cons (ha : PE X e te) (hr : PA X es t) (hs : starEach (e :: es) X.env = (false, eval e X.env) :: starEach es X.env := by rfl) : PA X (e :: es) (tCons te t) := by
  intro pos pins s σ H Q I h
  rw [hs]
  show wpAny _ _ (spliced ((false, eval e X.env) :: backTo pos (starEach es X.env))) _ _ s
  refine Calls.spliced_cons (thn (ha pins s σ H _ I h) fun u s1 ⟨x, H1, I1, r1, q1⟩ => ?_)
  exact thn (hr pos pins s1 σ H1 _ I1 q1) fun us s2 ⟨xs, H2, I2, r2, q2⟩ => ⟨x :: xs, H2, I2, .cons r1 r2, q2⟩

/-- a tuple, a list of written items -/
def tTup (t : TA) : TE := fun σ H Q => t σ H fun xs H1 => xs.length ≤ sizeLine ∧ ∀ p, H1 p = none → Q (.ref p) (upd H1 p (.tup xs))
def tLst (t : TA) : TE := fun σ H Q => t σ H fun xs H1 => xs.length ≤ sizeLine ∧ ∀ p, H1 p = none → Q (.ref p) (upd H1 p (.lst xs))
theorem pe_tup {x1} (h : PA X es t) : PE X (.Tuple es x1 pos) (tTup t) := by
  intro pins s σ H Q I hq
  refine wpAny_Tuple_spliced (thn (h pos pins s σ H _ I hq) fun us s1 ⟨xs, H1, I1, r, z, q⟩ => ⟨by rw [← r.length]; exact z, ?_⟩)
  have hf : H1 s1.heap.objs.size = none := I1.hok.fresh (Nat.le_refl _)
  refine ⟨.ref s1.heap.objs.size, upd H1 s1.heap.objs.size (.tup xs), I1.laid (t' := s1.toks) (fun b u e => Heap.get?_push_of_some _ e) (Nat.le_refl _) ?_, rfl, q _ hf⟩
  exact ⟨z, us, r, ⟨_, Heap.get?_push_size _ rfl, rfl, _, rfl⟩⟩
theorem pe_lst (h : PA X es t) : PE X (.List es pos) (tLst t) := by
  intro pins s σ H Q I hq
  refine wpAny_List_spliced (thn (h pos pins s σ H _ I hq) fun us s1 ⟨xs, H1, I1, r, z, q⟩ => ⟨by rw [← r.length]; exact z, ?_⟩)
  have hf : H1 s1.heap.objs.size = none := I1.hok.fresh (Nat.le_refl _)
  refine ⟨.ref s1.heap.objs.size, upd H1 s1.heap.objs.size (.lst xs), I1.laid (t' := s1.toks) (fun b u e => Heap.get?_push_of_some _ e) (Nat.le_refl _) ?_, rfl, q _ hf⟩
  exact ⟨z, us, 0, r, Heap.get?_push_size _ rfl⟩
end

/-! ### what a def promises -/
/-- a def's promise: the bound arguments in the parameters' order, the heap, the wanted end, the wanted exception -/
abbrev Sp := List V → Hp → VK → XK → Prop
/-- how an exception lies behind a call (file 08 gives it): the callers' frames, abstract heap and state ahead of the call, the wish, the exception, the state -/
abbrev CXT := List Env → Hp → Shared → XK → Value → Shared → Prop

/-- the state at a call -/
structure Env0 (P : Program) (w : World) (K : PySem.W.Frag) (mg : Str → Option Value) (base : Heap) (A : Around) (outer : List Env) (s : Shared) (H : Hp) : Prop where
  frames : A.frames = some outer
  mod : Mod K mg base
  bs : ∀ b o, base.get? b = some o → s.heap.get? b = some o ∧ H b = none
  bsz : base.objs.size ≤ s.heap.objs.size
  funs : s.heap.FunFrames base outer
  frf : ∀ b ∈ frs outer, H b = none
  hok : HOk P w H s.heap
  bare : AllBare s.gens
/-- a call's end -/
def CE (outer : List Env) (P : Program) (w : World) (H : Hp) (s : Shared) (Q : VK) (u : Value) (s' : Shared) : Prop :=
  ∃ v H', s'.os = s.os ∧ AllBare s'.gens ∧ Un (frs outer) [] H H' s.heap s'.heap ∧ HOk P w H' s'.heap ∧ RelV v u ∧ Q v H'
def CR (CX : CXT) (outer : List Env) (P : Program) (w : World) (H : Hp) (s : Shared) (Q : VK) (E : XK) (r : Result) (s' : Shared) : Prop :=
  match r with
  | .ok (.ret u) => CE outer P w H s Q u s'
  | .ok _ => False
  | .error e => CX outer H s E e s'
structure FnOk (P : Program) (w : World) (K : PySem.W.Frag) (mg : Str → Option Value) (base : Heap) (CX : CXT) (k : Nat) (f : Addr) (fd : FuncData) (ps : List Str) (sp : Sp) : Prop where
  len : ∀ vs H Q E, sp vs H Q E → vs.length = ps.length
  run : ∀ (A : Around) (outer : List Env) (s : Shared) (H : Hp) (args : Args) (us : List Value) (vs : List V) (Q : VK) (E : XK), Room k A → Env0 P w K mg base A outer s H → BindsTo s fd args (ps.zip us) → Vals vs us → sp vs H Q E →
    codeAny (model P w) A (.call (.ref f) args) (CR CX outer P w H s Q E) s
theorem FnOk.mono {P : Program} {w : World} {K : PySem.W.Frag} {mg : Str → Option Value} {base : Heap} {CX : CXT} {j k : Nat} {f : Addr} {fd : FuncData} {ps : List Str} {sp : Sp} (F : FnOk P w K mg base CX j f fd ps sp) (h : j ≤ k) :
    FnOk P w K mg base CX k f fd ps sp := ⟨F.len, fun A outer s H args us vs Q E hr => F.run A outer s H args us vs Q E (hr.mono h)⟩
section
variable {X : Cx} {pins : List (Addr × Obj)} {σ : St} {H : Hp} {s s' : Shared}
/-- from a body: what a callee wants -/
theorem Inv.env0 (I : Inv X pins σ H s) : Env0 X.prog X.w X.K X.mg X.base X.A X.stack s H :=
  ⟨I.ok.frames, I.ok.mod, I.bs, Nat.le_trans I.ok.bsz I.sz, I.stack, I.stkFree, I.hok, I.bare⟩
/-- behind a call -/
theorem Inv.after {Q : VK} {u : Value} (I : Inv X pins σ H s) (h : CE X.stack X.prog X.w H s Q u s') : EP X pins σ Q u s' := by
  obtain ⟨v, H', os, bare, un, hok, r, q⟩ := h
  obtain ⟨hh, g, d, t, os'⟩ := s'
  obtain rfl : os' = s.os := os
  exact ⟨v, H', I.call (h' := hh) (g' := g) (d' := d) (t' := t) (ch := []) un hok bare (fun b z => absurd z (by simp)), r, q⟩
end

/-! ### calls -/
/-- f(..): the written arguments, then the defaults dvs; E: what is wanted of an exception -/
def tCall (sp : Sp) (dvs : List V) (E : XK) (t : TA) : TE := fun σ H Q => t σ H fun vs H1 => sp (vs ++ dvs) H1 Q E
/-- o.m(..) of an instance of the class at C -/
def tMeth (C : Addr) (m : Str) (sp : Sp) (dvs : List V) (E : XK) (ta : TE) (t : TA) : TE := fun σ H Q => ta σ H fun x H1 => ∃ a dx fs, x = .ref a ∧ H1 a = some (.ins C dx fs) ∧ fs.lookup m = none ∧
  t σ H1 fun vs H2 => sp (x :: (vs ++ dvs)) H2 Q E
/-- C(..): a new instance and its dict, then __init__ -/
def tMake (C : Addr) (sp : Sp) (dvs : List V) (E : XK) (t : TA) : TE := fun σ H Q => t σ H fun vs H1 => ∀ x dx, H1 x = none → H1 dx = none → dx ≠ x →
  sp (.ref x :: (vs ++ dvs)) (upd (upd H1 dx (.own x)) x (.ins C dx [])) (fun v H2 => v = .non ∧ Q (.ref x) H2) E

/-- how the parameters are bound: us the positional arguments, kw the keywords' values by name, ds the defaults that fill up -/
def Binds (K : PySem.W.Frag) (fd : FuncData) (ps : List Str) (ds : List Value) : Prop :=
  ∀ (s : Shared) (us : List Value), K.In s.heap → (us ++ ds).length = ps.length → BindsTo s fd ⟨us, []⟩ (ps.zip (us ++ ds))
/-- every parameter is given -/
theorem Binds.all {K : PySem.W.Frag} {fd : FuncData} {ps : List Str} (h : ∀ us : List Value, us.length = ps.length → bindArgs fd ⟨us, []⟩ = pure (ps.zip us)) : Binds K fd ps [] := fun s us _ hl => by
  rw [List.append_nil] at hl ⊢
  exact .of_eq (h us hl)

/-- an exception of a callee reaches what this body wants of exceptions -/
def Passes (CX : CXT) (X : Cx) (E : XK) : Prop := ∀ (pins : List (Addr × Obj)) (σ : St) (H : Hp) (s : Shared) (e : Value) (s' : Shared), Inv X pins σ H s → CX X.stack H s E e s' → X.xe e s'

section
variable {X : Cx} {CX : CXT} {k : Nat} {f C : Addr} {fd : FuncData} {ps : List Str} {sp : Sp} {dvs : List V} {ds : List Value} {E : XK} {x m : Str} {p pos apos : Pos} {e o : Expr} {es : List Expr} {ta : TE} {t : TA}

/-- the callee runs -/
theorem run_fn {pins : List (Addr × Obj)} {σ : St} {H : Hp} {s : Shared} {Q : VK} {us : List Value} {vs : List V} (F : FnOk X.prog X.w X.K X.mg X.base CX k f fd ps sp) (hr : Room k X.A) (hb : Binds X.K fd ps ds) (hd : Vals dvs ds) (hx : Passes CX X E)
    (I : Inv X pins σ H s) (r : Vals vs us) (h : sp (vs ++ dvs) H Q E) : wpAny (model X.prog X.w) X.A (call (.ref f) us) (EP X pins σ Q) X.xe s := by
  have r2 : Vals (vs ++ dvs) (us ++ ds) := r.append hd
  have hl : (us ++ ds).length = ps.length := by rw [← r2.length]; exact F.len _ _ _ _ h
  refine wpAny_call (codeAny_mono (F.run X.A X.stack s H ⟨us, []⟩ (us ++ ds) (vs ++ dvs) Q E hr I.env0 (hb s us I.kIn hl) r2 h) fun r s' hq => ?_)
  cases r with
  | error e => exact hx pins σ H s e s' I hq
  | ok fl =>
    cases fl with
    | ret u => exact I.after hq
    | next => exact False.elim hq
    | brk => exact False.elim hq
    | cont => exact False.elim hq

theorem pe_call (F : FnOk X.prog X.w X.K X.mg X.base CX k f fd ps sp) (hr : Room k X.A) (hg : Gl X x) (hm : X.mg x = some (.ref f)) (hk : PySem.W.keepIn X.K (.ref f) = true) (hb : Binds X.K fd ps ds) (hd : Vals dvs ds) (hx : Passes CX X E)
    (ha : PA X (e :: es) t) (hdb : (x == ("__debug__" : Str)) = false := by decide) (he : starEach (e :: es) X.env = (false, eval e X.env) :: starEach es X.env := by rfl) (hpl : (backTo pos (starEach es X.env)).any (·.1) = false := by rfl) :
    PE X (.Call (.Name x p) (e :: es) [] pos) (tCall sp dvs E t) := by
  intro pins s σ H Q I h
  refine wpAny_Call_Name_kw (ld_glob I hg hm ?_ hdb)
  refine PySem.W.callWith_K (h₀ := X.base) I.ok.mod.kin hk (thn (ha pos pins s σ H _ I h) fun us s1 ⟨vs, H1, I1, r, q⟩ => ⟨I1.kIn, ?_⟩) he hpl
  exact run_fn F hr hb hd hx I1 r q
/-- what a class must have to be made -/
structure Mk (K : PySem.W.Frag) (C f : Addr) : Prop where
  makes : PySem.W.makesIn K C = true
  init : PySem.W.findIn K (.ref C) "__init__" = some (some (.ref f))
  fn : PySem.W.isFn K (.ref f) = true
  kp : PySem.W.keepIn K (.ref C) = true

end

/-! ### keywords -/
/-- the values of the keywords, from the left -/
def PK (X : Cx) (kws : List Keyword) (t : TA) : Prop :=
  ∀ (pos : Pos) (pins : List (Addr × Obj)) (s : Shared) (σ : St) (H : Hp) (Q : List V → Hp → Prop), Inv X pins σ H s → t σ H Q → wpAny (model X.prog X.w) X.A (evalAll ((backToKw pos (keywordEach kws X.env)).map (·.2))) (AP X pins σ Q) X.xe s
section
variable {X : Cx} {CX : CXT} {k : Nat} {f C : Addr} {fd : FuncData} {ps ks : List Str} {sp : Sp} {E : XK} {x m : Str} {p pos apos kpos : Pos} {e o : Expr} {es : List Expr} {kws : List Keyword} {te ta : TE} {t tk : TA} {nm : Option Str}
/-- how a call with keywords binds: g puts the positional values us and the keywords' values ws (names ks) in the parameters' order, defaults among them -/
structure KBinds (K : PySem.W.Frag) (fd : FuncData) (ps ks : List Str) (g : List Value → List Value → List Value) (gV : List V → List V → List V) : Prop where
  to : ∀ (s : Shared) (us ws : List Value), K.In s.heap → (g us ws).length = ps.length → BindsTo s fd ⟨us, ks.zip ws⟩ (ps.zip (g us ws))
  rel : ∀ {vs : List V} {us : List Value} {zs : List V} {ws : List Value}, Vals vs us → Vals zs ws → Vals (gV vs zs) (g us ws)
def tCallK (sp : Sp) (gV : List V → List V → List V) (E : XK) (t tk : TA) : TE := fun σ H Q => t σ H fun vs H1 => tk σ H1 fun zs H2 => sp (gV vs zs) H2 Q E
variable {g : List Value → List Value → List Value} {gV : List V → List V → List V}
end

/-! ### a def's body keeps its promise -/
/-- names: the parameters first -/
structure FnScope (N P : List Str) (sc : Scope) : Prop where
  kind : sc.kind = .function
  co : sc.isCoroutine = false
  gen : sc.isGenerator = false
  nd : N.Nodup
  pre : N.take P.length = P
  par : ∀ x ∈ P, sc.names.lookup x = some .local ∨ sc.names.lookup x = some .cell
  nofree : ∀ y ∈ sc.names, y.2 ≠ .free

theorem bindL_out {kindOf : Str → Option NameKind} {x : Str} : ∀ {binds : List (Str × Value)} {m : Str → Option Value}, (∀ v, (x, v) ∉ binds) → bindL kindOf binds m x = m x
  | [], _, _ => rfl
  | (n, v) :: r, m, h => by
    unfold bindL
    rw [bindL_out fun w hw => h w (List.mem_cons_of_mem _ hw)]
    split
    · have : x ≠ n := by rintro rfl; exact h v List.mem_cons_self
      simp [this]
    · rfl
theorem bindC_out {kindOf : Str → Option NameKind} {x : Str} : ∀ {binds : List (Str × Value)} {m : Str → Option Value}, (∀ v, (x, v) ∉ binds) → bindC kindOf binds m x = m x
  | [], _, _ => rfl
  | (n, v) :: r, m, h => by
    unfold bindC
    rw [bindC_out fun w hw => h w (List.mem_cons_of_mem _ hw)]
    split
    · rfl
    · have : x ≠ n := by rintro rfl; exact h v List.mem_cons_self
      simp [this]
theorem bindL_get {kindOf : Str → Option NameKind} {x : Str} {v : Value} : ∀ {P : List Str} {vs : List Value} {i : Nat} {m : Str → Option Value}, P.Nodup → P[i]? = some x → vs[i]? = some v → kindOf x = some .local →
    bindL kindOf (P.zip vs) m x = some v
  | [], _, _, _, _, h, _, _ => by simp at h
  | _ :: _, [], _, _, _, _, h, _ => by simp at h
  | p :: P, w :: vs, 0, m, nd, h1, h2, hk => by
    simp at h1 h2; subst h1; subst h2
    show bindL kindOf ((p, w) :: P.zip vs) m p = _
    unfold bindL
    rw [bindL_out fun v hv => (List.nodup_cons.mp nd).1 (List.of_mem_zip hv).1, if_pos hk]
    simp
  | p :: P, w :: vs, i + 1, m, nd, h1, h2, hk => by
    show bindL kindOf ((p, w) :: P.zip vs) m x = _
    unfold bindL
    exact bindL_get (i := i) (List.nodup_cons.mp nd).2 (by simpa using h1) (by simpa using h2) hk
theorem bindC_get {kindOf : Str → Option NameKind} {x : Str} {v : Value} : ∀ {P : List Str} {vs : List Value} {i : Nat} {m : Str → Option Value}, P.Nodup → P[i]? = some x → vs[i]? = some v → kindOf x ≠ some .local →
    bindC kindOf (P.zip vs) m x = some v
  | [], _, _, _, _, h, _, _ => by simp at h
  | _ :: _, [], _, _, _, _, h, _ => by simp at h
  | p :: P, w :: vs, 0, m, nd, h1, h2, hk => by
    simp at h1 h2; subst h1; subst h2
    show bindC kindOf ((p, w) :: P.zip vs) m p = _
    unfold bindC
    rw [bindC_out fun v hv => (List.nodup_cons.mp nd).1 (List.of_mem_zip hv).1, if_neg hk]
    simp
  | p :: P, w :: vs, i + 1, m, nd, h1, h2, hk => by
    show bindC kindOf ((p, w) :: P.zip vs) m x = _
    unfold bindC
    exact bindC_get (i := i) (List.nodup_cons.mp nd).2 (by simpa using h1) (by simpa using h2) hk

/-- the names' values at the entry -/
def start (N : List Str) (vs : List V) : St := vs.map some ++ List.replicate (N.length - vs.length) none

/-- the context of a def's body, at its entry; an exception leaves the frame, then lies as CX says -/
def cxOf (CX : CXT) (P : Program) (w : World) (K : PySem.W.Frag) (mg : Str → Option Value) (base : Heap) (N : List Str) (qual : Str) (scope : Scope) (f : Addr) (cd : Value) (A : Around) (outer : List Env) (s : Shared) (H : Hp) (E : XK) : Cx where
  prog := P
  w := w
  K := K
  mg := mg
  base := base
  A := A.deeper (envOfC qual scope s.heap.objs.size f cd)
  N := N
  s₀ := s
  H₀ := H
  env := envOfC qual scope s.heap.objs.size f cd
  outer := outer
  stack := envOfC qual scope s.heap.objs.size f cd :: outer
  ex := []
  calm := true
  fn := fun _ => true
  pn := []
  xe := fun e s' => wpAny (model P w) (A.deeper (envOfC qual scope s.heap.objs.size f cd)) (leaving (envOfC qual scope s.heap.objs.size f cd) e) (fun _ s'' => CX outer H s E e s'') (fun e' s'' => CX outer H s E e' s'') s'

theorem cell_has {sc : Scope} {n : Nat} {x : Str} (h : sc.names.lookup x = some .cell) : ∃ c, (cellsFrom n sc.names []).lookup x = some c := by
  have q := PySem.W.cellsFrom_some sc.names n [] (.inl h)
  exact Option.isSome_iff_exists.mp q

theorem inv_start {CX : CXT} {P : Program} {w : World} {K : PySem.W.Frag} {mg : Str → Option Value} {base : Heap} {N ps : List Str} {qual : Str} {scope : Scope} {f : Addr} {cd : Value} {A : Around} {outer : List Env} {s s1 : Shared} {H : Hp} {E : XK} {us : List Value} {vs : List V}
    (S : FnScope N ps scope) (hd : A.handled = none) (e0 : Env0 P w K mg base A outer s H) (hl : vs.length = ps.length) (r : Vals vs us)
    (x : InCallC s s.heap.objs.size (bindL (envOfC qual scope s.heap.objs.size f cd).kindOf (ps.zip us) fun _ => none) (cellsFrom (s.heap.objs.size + 1) scope.names []) (bindC (envOfC qual scope s.heap.objs.size f cd).kindOf (ps.zip us) fun _ => none) s1) :
    Inv (cxOf CX P w K mg base N qual scope f cd A outer s H E) [] (start N vs) H s1 := by
  have hpl : ps.length ≤ N.length := by have := congrArg List.length S.pre; rw [List.length_take] at this; omega
  obtain ⟨h1, tk, rfl, hk⟩ := x.done
  have noA : ∀ b : Addr, b ∉ (cxOf CX P w K mg base N qual scope f cd A outer s H E).ex := fun b z => absurd (show b ∈ ([] : List Addr) from z) (by simp)
  refine ⟨⟨e0.mod, S.kind, rfl, rfl, Nat.le_refl _, fun y z c h1 h2 => ?_, fun y hy => ?_, fun y c _ h => ?_, fun _ => hd, Around.frames_deeper e0.frames, .inr ⟨rfl, rfl⟩, fun b z => absurd z (noA b), e0.bs, e0.bsz, fun b _ _ => noA b, fun b z => absurd z (noA b), e0.funs, e0.frf⟩,
    rfl, e0.bare, Un.kept hk, ⟨_, x.toInCall.ns, fun i y v h1 h2 h3 => ?_⟩, fun y c h => ⟨_, x.cell y c h⟩, e0.hok.fresh (Nat.le_refl _), fun y c h => ?_, fun p hp => absurd (show p ∈ ([] : List (Addr × Obj)) from hp) (by simp), e0.hok.kept hk, ?_⟩
  · exact name_of_addr x.apart (PySem.mem_of_lookup h1) (PySem.mem_of_lookup h2)
  · have hy : scope.names.lookup y = some .cell ∨ scope.names.lookup y = some .free := hy
    rcases hy with hy | hy
    · exact cell_has hy
    · exact absurd rfl (S.nofree _ (PySem.mem_of_lookup hy))
  · exact Nat.le_of_lt (x.above y c (PySem.mem_of_lookup h))
  · have hi : i < vs.length := by
      unfold start at h2
      by_cases hi : i < vs.length
      · exact hi
      · rw [List.getElem?_append_right (by simpa using hi)] at h2
        rw [List.getElem?_replicate] at h2
        split at h2 <;> cases h2
    have ha : vs[i]? = some v := by
      unfold start at h2
      rw [List.getElem?_append_left (by simpa using hi), List.getElem?_map] at h2
      cases e : vs[i]? with
      | none => rw [e] at h2; cases h2
      | some a => rw [e] at h2; cases h2; rfl
    obtain ⟨u, hu, rv⟩ := r.get ha
    have hp : ps[i]? = some y := by
      rw [← S.pre, List.getElem?_take_of_lt (by omega)]; exact h1
    have ndP : ps.Nodup := by rw [← S.pre]; exact S.nd.sublist (List.take_sublist _ _)
    refine ⟨u, rv, ?_⟩
    rcases S.par y (List.mem_of_getElem? hp) with k | k
    · exact .inl ⟨k, bindL_get ndP hp hu k⟩
    · obtain ⟨c, e⟩ := cell_has (n := s.heap.objs.size + 1) k
      refine .inr ⟨.inl k, c, e, ?_⟩
      have q := x.cell y c e
      rw [bindC_get ndP hp hu (by show scope.names.lookup y ≠ _; rw [k]; decide)] at q
      exact q
  · exact e0.hok.fresh (Nat.le_of_lt (x.above y c (PySem.mem_of_lookup h)))
  · unfold start
    show _ = N.length
    rw [List.length_append, List.length_map, List.length_replicate]
    omega

/-- THE RULE: a def (or a method) of the text, by its body. The body's reading t is chosen for each entry; it is run at the parameters' values -/
theorem fn_of {CX : CXT} {P : Program} {w : World} {K : PySem.W.Frag} {mg : Str → Option Value} {base : Heap} {k : Nat} {f : Addr} {name qual : Str} {params : Arguments} {body : List Stmt} {scope : Scope} {dV kV doc pm cdv ct oc : Value} {an od : Option Addr}
    {osl : Array (Option Value)} {N ps : List Str} {sp : Sp} (lk : K.lookup f = some ⟨oc, od, .func (PySem.W.fnOf name qual params body scope dV kV doc pm an cdv ct), osl⟩) (hcd : PySem.W.codeIn K cdv qual = true) (S : FnScope N ps scope)
    (len : ∀ vs H Q E, sp vs H Q E → vs.length = ps.length)
    (hbody : ∀ (A : Around) (outer : List Env) (s : Shared) (H : Hp) (vs : List V) (Q : VK) (E : XK), Room k (A.deeper (envOfC qual scope s.heap.objs.size f cdv)) → sp vs H Q E →
      ∃ t, PSs (cxOf CX P w K mg base N qual scope f cdv A outer s H E) body t ∧ t { nx := fun _ H' => Q .non H', rt := Q } (start N vs) H) :
    FnOk P w K mg base CX (k + 1) f (PySem.W.fnOf name qual params body scope dV kV doc pm an cdv ct) ps sp := by
  refine ⟨len, fun A outer s H args us vs Q E hr e0 hb r hsp => ?_⟩
  have hl := len _ _ _ _ hsp
  have KX : K.In s.heap := e0.mod.kin.keeps fun b o e => (e0.bs b o e).1
  have lim : s.heap.NoLimit := e0.mod.nolimit.keeps fun b o e => (e0.bs b o e).1
  have hkind : ∀ y ∈ ps.zip us, scope.names.lookup y.1 = some .local ∨ (scope.names.lookup y.1 = some .cell ∧ ((cellsFrom (s.heap.objs.size + 1) scope.names []).lookup y.1).isSome = true) := fun ⟨n, v⟩ hy => by
    rcases S.par n (List.of_mem_zip hy).1 with q | q
    · exact .inl q
    · exact .inr ⟨q, PySem.W.cellsFrom_some _ _ _ (.inl q)⟩
  refine codeAny_call_function hr.depth (KX _ _ lk) rfl S.co S.gen rfl (PySem.W.codeRec_of KX hcd) (hb _ _ _ _ ?_)
  refine wpAny_newFunctionEnv_cells S.kind hkind fun env he s1 x => ?_
  subst he
  refine ⟨lim.keeps x.toInCall.keep, codeAny_func ?_⟩
  obtain ⟨t, ht, hq⟩ := hbody A outer s H vs Q E (hr.deeper _) hsp
  have I : Inv (cxOf CX P w K mg base N qual scope f cdv A outer s H E) [] (start N vs) H s1 := inv_start S hr.hd e0 hl r x
  refine wpAny_mono (ht [] s1 (start N vs) H _ I hq) (fun fl s' hs => ?_) fun e s' hs => hs
  have fin : ∀ {σ' : St} {H' : Hp} {v : V} {u : Value}, Inv (cxOf CX P w K mg base N qual scope f cdv A outer s H E) [] σ' H' s' → RelV v u → Q v H' → CE outer P w H s Q u s' :=
    fun {σ' H' v u} J rv q => ⟨v, H', J.os, J.bare, J.base, J.hok, rv, q⟩
  cases fl with
  | ret u =>
    obtain ⟨v, σ', H', J, rv, q⟩ := hs
    exact fin J rv q
  | next =>
    obtain ⟨σ', H', J, q⟩ := hs
    exact fin (v := V.non) (u := Value.none) J rfl q
  | brk =>
    obtain ⟨_, _, _, q⟩ := hs
    exact False.elim q
  | cont =>
    obtain ⟨_, _, _, q⟩ := hs
    exact False.elim q
end L2

namespace L2
open PySem PySem.Spec PyProof.Rows
section
variable {X : Cx} {x : Str} {p pos : Pos} {e : Expr} {es : List Expr} {t : TA} {id T : String} {r : List V → Hp → VK → Prop}

def tCB (r : List V → Hp → VK → Prop) (t : TA) : TE := fun σ H Q => t σ H fun vs H1 => r vs H1 Q
/-- f(e, ..), f a built-in function -/
theorem pe_callB (hc : CallR X (.builtin id) r) (hg : Gl X x) (hm : X.mg x = none) (hv : bootBuiltins x = some (.builtin id)) (ha : PA X (e :: es) t) (hn : x ≠ "__name__" := by decide) (hdb : (x == ("__debug__" : Str)) = false := by decide)
    (he : starEach (e :: es) X.env = (false, eval e X.env) :: starEach es X.env := by rfl) (hpl : (backTo pos (starEach es X.env)).any (·.1) = false := by rfl) : PE X (.Call (.Name x p) (e :: es) [] pos) (tCB r t) := by
  intro pins s σ H Q I h
  refine wpAny_Call_Name_kw (ld_blt I hg hm hv ?_ hn hdb)
  exact PyProof.Rows.callWith_builtin1 (thn (ha pos pins s σ H _ I h) fun us s1 ⟨vs, H1, I1, r1, q1⟩ => hc pins s1 σ H1 vs us Q I1 r1 q1) he hpl
/-- T(e, ..), T a built-in type -/
theorem pe_callTy (hc : CallR X (.type T) r) (hg : Gl X x) (hm : X.mg x = none) (hv : bootBuiltins x = some (.type T)) (ha : PA X (e :: es) t) (hn : x ≠ "__name__" := by decide) (hdb : (x == ("__debug__" : Str)) = false := by decide)
    (he : starEach (e :: es) X.env = (false, eval e X.env) :: starEach es X.env := by rfl) (hpl : (backTo pos (starEach es X.env)).any (·.1) = false := by rfl) : PE X (.Call (.Name x p) (e :: es) [] pos) (tCB r t) := by
  intro pins s σ H Q I h
  refine wpAny_Call_Name_kw (ld_blt I hg hm hv ?_ hn hdb)
  exact PyProof.Rows.callWith_type1 (thn (ha pos pins s σ H _ I h) fun us s1 ⟨vs, H1, I1, r1, q1⟩ => hc pins s1 σ H1 vs us Q I1 r1 q1) he hpl
end
end L2

namespace HT
open PySem PyProof.Rows

/-- t < u of tuples of ints -/
def lexLt : List Int → List Int → Bool
  | [], [] => false
  | [], _ :: _ => true
  | _ :: _, [] => false
  | x :: xs, y :: ys => if x = y then lexLt xs ys else decide (x < y)
section
open PySem.SeqAt
open PySem.AutoSeq1 (wpAny_loadPart')
open PySem.MeetsSeq PySem.MeetsSeq2 PySem.MeetsSeq3

end

section
variable {prog : Program} {w : World} {A : Around} {E : Value → Shared → Prop} {s : Shared}

/-! ### t[a:b], not the whole -/
/-- a slice's bound as a place among n (d where it is left out) -/
def sIx (n d : Nat) : Option Int → Nat
  | none => d
  | some v => if v < 0 then (v + (n : Int)).toNat else min v.toNat n
theorem sIx_none (n d : Nat) : sIx n d none = d := rfl
theorem sIx_nat (n d k : Nat) : sIx n d (some (k : Int)) = min k n := by
  show (if (k : Int) < 0 then ((k : Int) + (n : Int)).toNat else min (k : Int).toNat n) = min k n
  rw [if_neg (by omega), Int.toNat_natCast]
theorem sIx_le (n d : Nat) (hd : d ≤ n) (o : Option Int) : sIx n d o ≤ n := by
  cases o with
  | none => exact hd
  | some v =>
    show (if v < 0 then (v + (n : Int)).toNat else min v.toNat n) ≤ n
    by_cases hv : v < 0
    · rw [if_pos hv]; omega
    · rw [if_neg hv]; exact Nat.min_le_right _ _
theorem clip_eq (v : Int) (n d : Nat) : (if v < 0 then max (v + (n : Int)) 0 else min v (n : Int)) = ((sIx n d (some v) : Nat) : Int) := by
  show (if v < 0 then max (v + (n : Int)) 0 else min v (n : Int)) = (((if v < 0 then (v + (n : Int)).toNat else min v.toNat n) : Nat) : Int)
  by_cases hv : v < 0
  · simp only [if_pos hv]; omega
  · simp only [if_neg hv]; omega
end
end HT

namespace L2
open PySem PySem.Spec PyProof.Rows

/-! ### the parts of a slice -/
abbrev TO := St → Hp → (Option Int → Hp → Prop) → Prop
/-- a slice's part (left out, or an int) -/
def PO (X : Cx) (e : Option Expr) (t : TO) : Prop :=
  ∀ (pins : List (Addr × Obj)) (s : Shared) (σ : St) (H : Hp) (Q : Option Int → Hp → Prop), Inv X pins σ H s → t σ H Q →
    wpAny (model X.prog X.w) X.A (evalPart e X.env) (fun u s' => ∃ o H', Inv X pins σ H' s' ∧ IsPart u o ∧ Q o H') X.xe s
def tNoPart : TO := fun _ H Q => Q none H
def tPart (t : TE) : TO := fun σ H Q => t σ H fun x H1 => ∃ i, x = .int i ∧ Q (some i) H1

section
variable {X : Cx} {e : Expr} {te : TE} {lo hi : Option Expr} {tl th : TO} {pos p2 : Pos}

theorem po_none : PO X none tNoPart := by
  intro pins s σ H Q I h
  rw [evalPart_none]
  exact wpAny_pure ⟨none, H, I, .none, h⟩
theorem po_some (h : PE X e te) : PO X (some e) (tPart te) := by
  intro pins s σ H Q I hw
  rw [evalPart_some]
  refine thn (h pins s σ H _ I hw) fun u s1 ⟨x, H1, I1, r1, q1⟩ => ?_
  obtain ⟨i, rfl, q⟩ := q1
  obtain ⟨t, rfl⟩ := r1
  exact ⟨some i, H1, I1, .int i t, q⟩

/-- what a slice of a value is, by values: the slice object stands at sl -/
def SlR (X : Cx) (r : V → Option Int → Option Int → Hp → VK → Prop) : Prop :=
  ∀ (pins : List (Addr × Obj)) (s : Shared) (σ : St) (H : Hp) (x : V) (v vl vu : Value) (lo hi : Option Int) (sl : Addr) (Q : VK), Inv X pins σ H s → RelV x v → s.heap.IsSliceOf sl vl vu .none → IsPart vl lo → IsPart vu hi → r x lo hi H Q →
    ∃ T id, typeLookup (.type T) "__getitem__" = pure (some (.builtin id)) ∧ s.TypeIs v T ∧ wpAny (model X.prog X.w) X.A (getItem v (.ref sl)) (EP X pins σ Q) X.xe s
def tSl (r : V → Option Int → Option Int → Hp → VK → Prop) (te : TE) (tl th : TO) : TE := fun σ H Q => te σ H fun x H1 => tl σ H1 fun l H2 => th σ H2 fun u H3 => r x l u H3 Q
/-- a[lo:hi], any a -/
theorem pe_slice {r : V → Option Int → Option Int → Hp → VK → Prop} (hr : SlR X r) (he : PE X e te) (hl : PO X lo tl) (hu : PO X hi th) : PE X (.Subscript e (.Slice lo hi none p2) pos) (tSl r te tl th) := by
  intro pins s σ H Q I h
  refine Subscript_ (thn (he pins s σ H _ I h) fun v s1 ⟨x, H1, I1, r1, q1⟩ => ?_)
  refine wpAny_Slice (thn (hl pins s1 σ H1 _ I1 q1) fun vl s2 ⟨l, H2, I2, pl, q2⟩ => thn (hu pins s2 σ H2 _ I2 q2) fun vu s3 ⟨u, H3, I3, pu, q3⟩ => ?_)
  rw [evalPart_none]
  refine wpAny_pure ?_
  have I4 : Inv X pins σ H3 { s3 with heap := s3.heap.push { cls := .type "slice", data := .fields #[vl, vu, .none] } } := I3.kept (t' := s3.toks) fun b ob q => Heap.get?_push_of_some _ q
  obtain ⟨T, id, hT, ht, hg⟩ := hr pins { s3 with heap := s3.heap.push { cls := .type "slice", data := .fields #[vl, vu, .none] } } σ H3 x v vl vu l u s3.heap.objs.size Q I4 r1 (Heap.IsSliceOf.new ..) pl pu q3
  show wpAny (model X.prog X.w) X.A (subscriptTail e (.Slice lo hi none p2) v (.ref s3.heap.objs.size)) (EP X pins σ Q) X.xe { s3 with heap := s3.heap.push { cls := .type "slice", data := .fields #[vl, vu, .none] } }
  exact tail_any (ops := [.ref s3.heap.objs.size, v]) ht hT hg (by with_unfolding_all rfl)

/-- the items of xs[lo:hi] -/
def cutV (xs : List V) (lo hi : Option Int) : List V := (xs.drop (HT.sIx xs.length 0 lo)).take (HT.sIx xs.length xs.length hi - HT.sIx xs.length 0 lo)
/-- t[lo:hi], not the whole of it (the whole would be t itself) -/
def rSlT (K : PySem.W.Frag) : V → Option Int → Option Int → Hp → VK → Prop := fun x lo hi H Q => ∃ a xs, x = .ref a ∧ SqT K H a xs ∧
  ¬ (HT.sIx xs.length 0 lo = 0 ∧ HT.sIx xs.length xs.length hi = xs.length) ∧ ∀ p, H p = none → Q (.ref p) (upd H p (.tup (cutV xs lo hi)))
/-! ### t < u, t + u -/
def rLtT (K : PySem.W.Frag) : R2 := fun x y H Q => ∃ a b ns ms, x = .ref a ∧ y = .ref b ∧ SqT K H a (ns.map V.int) ∧ SqT K H b (ms.map V.int) ∧ Q (.bl (HT.lexLt ns ms)) H
/-- t + u, t not empty: u empty gives t itself -/
def rCatT (K : PySem.W.Frag) : R2 := fun x y H Q => ∃ a b xs ys, x = .ref a ∧ y = .ref b ∧ SqT K H a xs ∧ SqT K H b ys ∧ xs ≠ [] ∧ xs.length + ys.length ≤ sizeLine ∧
  (ys = [] → Q (.ref a) H) ∧ (ys ≠ [] → ∀ p, H p = none → Q (.ref p) (upd H p (.tup (xs ++ ys))))
end
end L2

namespace L2
open PySem PySem.Spec PyProof.Rows

/-! ### places -/
/-- the place that an index of any sign means -/
def ixN (n : Nat) (i : Int) : Option Nat := if 0 ≤ i then (if i < n then some i.toNat else none) else if -(n : Int) ≤ i then some (i + n).toNat else none
def atI {α : Type} (xs : List α) (i : Int) : Option α := (ixN xs.length i).bind fun j => xs[j]?
theorem ixN_seq {n : Nat} {i : Int} {j : Nat} (h : ixN n i = some j) : seqIndex? i n = some j ∧ j < n ∧ -(n : Int) ≤ i ∧ i < n := by
  unfold ixN at h
  by_cases h0 : 0 ≤ i
  · rw [if_pos h0] at h
    by_cases h1 : i < n
    · rw [if_pos h1] at h
      have e : i.toNat = j := Option.some.inj h
      exact ⟨by rw [seqIndex_of h0 h1, e], by omega, by omega, h1⟩
    · rw [if_neg h1] at h; cases h
  · rw [if_neg h0] at h
    by_cases h1 : -(n : Int) ≤ i
    · rw [if_pos h1] at h
      have e : (i + n).toNat = j := Option.some.inj h
      exact ⟨by rw [seqIndex_neg (by omega) h1, e], by omega, h1, by omega⟩
    · rw [if_neg h1] at h; cases h
theorem atI_get {α : Type} {xs : List α} {i : Int} {v : α} (h : atI xs i = some v) : ∃ j, seqIndex? i xs.length = some j ∧ xs[j]? = some v ∧ j < xs.length ∧ -(xs.length : Int) ≤ i ∧ i < xs.length := by
  unfold atI at h
  cases e : ixN xs.length i with
  | none => rw [e] at h; cases h
  | some j =>
    rw [e] at h
    obtain ⟨h1, h2, h3, h4⟩ := ixN_seq e
    exact ⟨j, h1, h, h2, h3, h4⟩
theorem atI_nat {α : Type} {xs : List α} {j : Nat} {v : α} (h : xs[j]? = some v) : atI xs (j : Int) = some v := by
  have hj : j < xs.length := (List.getElem?_eq_some_iff.mp h).1
  have e : ixN xs.length (j : Int) = some j := by
    unfold ixN
    rw [if_pos (by omega), if_pos (by omega)]; simp
  unfold atI; rw [e]; exact h
/-! ### what may be subscripted -/
/-- what stands as an index of a plain subscript -/
def PlainIx (b : Expr) : Prop := ∀ o i, subscripted b false o i = operate [o, i] (getItem o i)
/-- a subscript by values -/
def IxR (X : Cx) (r : R2) : Prop :=
  ∀ (value slice : Expr) (pins : List (Addr × Obj)) (s : Shared) (σ : St) (H : Hp) (x y : V) (v u : Value) (Q : VK), Inv X pins σ H s → RelV x v → RelV y u → r x y H Q →
    subscripted slice false v u = operate [v, u] (getItem v u) → wpAny (model X.prog X.w) X.A (subscriptTail value slice v u) (EP X pins σ Q) X.xe s
/-- a call of a builtin's method by values: the receiver, the arguments -/
def MtR (X : Cx) (id : String) (r : V → List V → Hp → VK → Prop) : Prop :=
  ∀ (pins : List (Addr × Obj)) (s : Shared) (σ : St) (H : Hp) (x : V) (xs : List V) (v : Value) (us : List Value) (Q : VK), Inv X pins σ H s → RelV x v → Vals xs us → r x xs H Q →
    wpAny (model X.prog X.w) X.A (call (.builtin id) (v :: us)) (EP X pins σ Q) X.xe s
section
variable {X : Cx} {a b : Expr} {ta tb : TE} {pos : Pos}
/-- a[b] -/
theorem pe_ix {r : R2} (hr : IxR X r) (ha : PE X a ta) (hb : PE X b tb) (hs : PlainIx b) : PE X (.Subscript a b pos) (tOp r ta tb) := by
  intro pins s σ H Q I h
  exact Subscript_ (binT ha hb I h fun v u s2 x y H2 I2 rx ry q => hr a b pins s2 σ H2 x y v u Q I2 rx ry q (hs _ _))

def rIxL (K : PySem.W.Frag) : R2 := fun x y H Q => ∃ p xs i v, x = .ref p ∧ y = .int i ∧ SqL K H p xs ∧ atI xs i = some v ∧ Q v H
def rIxT (K : PySem.W.Frag) : R2 := fun x y H Q => ∃ p xs i v, x = .ref p ∧ y = .int i ∧ SqT K H p xs ∧ atI xs i = some v ∧ Q v H
def rIxS : R2 := fun x y H Q => ∃ z i c, x = .str z ∧ y = .int i ∧ z.length ≤ sizeLine ∧ atI z.cps.toList i = some c ∧ Q (.str ⟨#[c]⟩) H
theorem ix_list : IxR X (rIxL X.K) := by
  intro value slice pins s σ H x y v u Q I rx ry h hs
  obtain ⟨p, xs, i, z, rfl, rfl, hq, he, q⟩ := h
  cases rx
  obtain ⟨t, rfl⟩ := ry
  obtain ⟨its, r, pl, hz⟩ := I.list hq
  obtain ⟨j, h1, h2, h3, h4, h5⟩ := atI_get he
  obtain ⟨w, ew, rw'⟩ := r.get h2
  have hl := r.length
  have hn := line63
  have fin : EP X pins σ Q w s := ⟨z, H, I, rw', q⟩
  by_cases h0 : 0 ≤ i
  · have hj : i.toNat = j := by
      rw [seqIndex_of h0 h5] at h1
      exact Option.some.inj h1
    exact item_listR pl.isList h0 (by omega) (by rw [hj]; simpa using ew) fin hs
  · have hj : (i + (its.toArray.size : Int)).toNat = j := by
      rw [seqIndex_neg (by omega) h4] at h1
      rw [List.size_toArray, ← hl]
      exact Option.some.inj h1
    exact subscriptTail_builtinR (x := w) pl.isList.typeIs slot_list_getitem.lookup
      (wpAny_getItem_list_neg (Q := fun r s' => r = w ∧ EP X pins σ Q r s') pl.isList (by omega) (by rw [List.size_toArray] <;> omega) (by omega) (by rw [hj]; simpa using ew) ⟨rfl, fin⟩) hs
theorem ix_tup : IxR X (rIxT X.K) := by
  intro value slice pins s σ H x y v u Q I rx ry h hs
  obtain ⟨p, xs, i, z, rfl, rfl, hq, he, q⟩ := h
  cases rx
  obtain ⟨t, rfl⟩ := ry
  obtain ⟨its, r, pl, hz⟩ := I.tuple hq
  obtain ⟨j, h1, h2, h3, h4, h5⟩ := atI_get he
  obtain ⟨w, ew, rw'⟩ := r.get h2
  have hl := r.length
  have hn := line63
  have fin : EP X pins σ Q w s := ⟨z, H, I, rw', q⟩
  exact subscriptTail_builtinR (x := w) pl.typeIs slot_tuple_getitem.lookup
    (getItem_tuple (j := j) (Q := fun r s' => r = w ∧ EP X pins σ Q r s') pl (by omega) (by omega) (by rw [List.size_toArray, ← hl]; exact h1) (by simpa using ew) ⟨rfl, fin⟩) hs
theorem ix_str : IxR X rIxS := by
  intro value slice pins s σ H x y v u Q I rx ry h hs
  obtain ⟨z, i, c, rfl, rfl, hz, he, q⟩ := h
  obtain ⟨t, rfl⟩ := rx
  obtain ⟨t', rfl⟩ := ry
  obtain ⟨j, h1, h2, h3, h4, h5⟩ := atI_get he
  have hl : z.cps.toList.length = z.length := by simp [Str.length]
  rw [hl] at h1 h4 h5
  have hn := line63
  exact tail_any (typeIs_str s z t) slot_str_getitem.lookup (getItem_str (c := c) (by
    have e1 : decide (i < -(2 ^ 63 : Int)) = false := decide_eq_false (by omega)
    have e2 : decide (i ≥ 2 ^ 63) = false := decide_eq_false (by omega)
    rw [e1, e2, Bool.or_false]) (by rw [h1]; simpa using h2) ⟨.str ⟨#[c]⟩, H, I.tok _, ⟨_, rfl⟩, q⟩) hs
/-- list, tuple or str -/
def rIx (K : PySem.W.Frag) : R2 := fun x y H Q => rIxL K x y H Q ∨ rIxT K x y H Q ∨ rIxS x y H Q
/-! ### xs[i] = v, any sign -/
/-- the list's object behind a store -/
theorem mapSeq_set (its : List Value) (n j : Nat) (u : Value) : Obj.mapSeq (·.setIfInBounds j u) { cls := .type "list", data := .seq its.toArray n } = { cls := .type "list", data := .seq (its.set j u).toArray n } := by
  simp [Obj.mapSeq]
theorem Inv.lst {pins : List (Addr × Obj)} {σ : St} {H : Hp} {s : Shared} {p : Addr} {xs : List V} (I : Inv X pins σ H s) (h : H p = some (.lst xs)) :
    ∃ (its : List Value) (n : Nat), Vals xs its ∧ s.heap.get? p = some { cls := .type "list", data := .seq its.toArray n } ∧ xs.length ≤ sizeLine := by
  obtain ⟨z, its, n, r, e⟩ := I.hok p _ h
  exact ⟨its, n, r, e, z⟩
/-- the list at p is written by an update of its object -/
theorem Inv.lstUpd {pins : List (Addr × Obj)} {σ : St} {H : Hp} {s : Shared} {p : Addr} {xs ys : List V} {its its' : List Value} {n n' : Nat} {f : Obj → Obj} (I : Inv X pins σ H s) (h : H p = some (.lst xs))
    (ho : s.heap.get? p = some { cls := .type "list", data := .seq its.toArray n }) (hf : f { cls := .type "list", data := .seq its.toArray n } = { cls := .type "list", data := .seq its'.toArray n' }) (r : Vals ys its') (hz : ys.length ≤ sizeLine) (t : Nat) :
    Inv X pins σ (upd H p (.lst ys)) { s with heap := s.heap.update p f, toks := t } := by
  have e : (s.heap.update p f).get? p = some { cls := .type "list", data := .seq its'.toArray n' } := by
    rw [Heap.get?_update_self f ho (by rw [hf] <;> rfl), hf]
  refine I.write (x := p) (e := p) (by rw [h]; trivial) (.inl rfl) (fun b u hb q => (Heap.get?_update_other _ _ (Ne.symm hb)).trans q) ⟨_, e⟩ ?_
  exact ⟨hz, its', n', r, e⟩
def rSetL : V → V → V → Hp → (Hp → Prop) → Prop := fun o i v H Q => ∃ p xs k j, o = .ref p ∧ i = .int k ∧ H p = some (.lst xs) ∧ ixN xs.length k = some j ∧ Q (upd H p (.lst (xs.set j v)))
theorem set_list : PSet X rSetL := by
  intro pins s σ H o i v ov iv u Q I ro ri rv h
  obtain ⟨p, xs, k, j, rfl, rfl, hp, hj, q⟩ := h
  cases ro
  obtain ⟨t, rfl⟩ := ri
  obtain ⟨its, n, r, ho, hz⟩ := I.lst hp
  obtain ⟨h1, h2, h3, h4⟩ := ixN_seq hj
  have hl := r.length
  have hn := line63
  have I' : Inv X pins σ (upd H p (.lst (xs.set j v))) { s with heap := s.heap.update p (Obj.mapSeq (·.setIfInBounds j u)) } :=
    I.lstUpd hp ho (mapSeq_set its n j u) (r.set rv j) (by rw [List.length_set]; exact hz) s.toks
  by_cases h0 : 0 ≤ k
  · have hk : k.toNat = j := by
      rw [seqIndex_of h0 h4] at h1
      exact Option.some.inj h1
    exact PySem.W.ki_setAt ho h0 (by omega) (by rw [List.size_toArray, ← hl]; exact h4) (by rw [hk]; exact ⟨_, I', q⟩)
  · have hk : (k + (its.toArray.size : Int)).toNat = j := by
      rw [seqIndex_neg (by omega) h3] at h1
      rw [List.size_toArray, ← hl]
      exact Option.some.inj h1
    exact PySem.W.ki_setBack ho (by omega) (by rw [List.size_toArray, ← hl]; exact h3) (by omega) (by rw [hk]; exact ⟨_, I', q⟩)

/-! ### slices -/
/-- xs[lo:hi] of a list: a new list -/
def rSlL (K : PySem.W.Frag) : V → Option Int → Option Int → Hp → VK → Prop := fun x lo hi H Q => ∃ a xs, x = .ref a ∧ SqL K H a xs ∧ ∀ p, H p = none → Q (.ref p) (upd H p (.lst (cutV xs lo hi)))
/-! ### in, not in: flat items -/
def flatV : V → Bool
  | .non => true
  | .bl _ => true
  | .int _ => true
  | .str _ => true
  | _ => false
/-- == of flat values -/
def eqV : V → V → Bool
  | .non, .non => true
  | .bl a, .bl b => a == b
  | .bl a, .int b => (if a then 1 else 0) == b
  | .int a, .bl b => a == (if b then 1 else 0)
  | .int a, .int b => a == b
  | .str a, .str b => a == b
  | _, _ => false
theorem eqAt_V {A : Around} {s : Shared} {y x : V} {u v : Value} (ry : RelV y u) (rx : RelV x v) (fy : flatV y = true) (fx : flatV x = true) : SeqAt.EqAt A s u v (eqV y x) := by
  cases y with
  | non =>
    cases ry
    cases x with
    | non => cases rx; exact SeqAt.EqAt.same _
    | bl b => cases rx; exact SeqAt.EqAt.none_bool b
    | int b => obtain ⟨t, rfl⟩ := rx; exact SeqAt.EqAt.none_int b t
    | str b => obtain ⟨t, rfl⟩ := rx; exact SeqAt.EqAt.none_str b t
    | _ => exact absurd (show false = true from fx) Bool.false_ne_true
  | bl a =>
    cases ry
    cases x with
    | non => cases rx; exact SeqAt.EqAt.bool_none a
    | bl b => cases rx; exact SeqAt.EqAt.bool_bool a b
    | int b => obtain ⟨t, rfl⟩ := rx; exact SeqAt.EqAt.bool_int a b t
    | str b => obtain ⟨t, rfl⟩ := rx; exact SeqAt.EqAt.bool_str a b t
    | _ => exact absurd (show false = true from fx) Bool.false_ne_true
  | int a =>
    obtain ⟨t', rfl⟩ := ry
    cases x with
    | non => cases rx; exact SeqAt.EqAt.int_none a t'
    | bl b => cases rx; exact SeqAt.EqAt.int_bool a t' b
    | int b => obtain ⟨t, rfl⟩ := rx; exact SeqAt.EqAt.int_int a t' b t
    | str b => obtain ⟨t, rfl⟩ := rx; exact SeqAt.EqAt.int_str a t' b t
    | _ => exact absurd (show false = true from fx) Bool.false_ne_true
  | str a =>
    obtain ⟨t', rfl⟩ := ry
    cases x with
    | non => cases rx; exact SeqAt.EqAt.str_none a t'
    | bl b => cases rx; exact SeqAt.EqAt.str_bool a t' b
    | int b => obtain ⟨t, rfl⟩ := rx; exact SeqAt.EqAt.str_int a t' b t
    | str b => obtain ⟨t, rfl⟩ := rx; exact SeqAt.EqAt.str_str a t' b t
    | _ => exact absurd (show false = true from fx) Bool.false_ne_true
  | _ => exact absurd (show false = true from fy) Bool.false_ne_true
/-- the items' answers, read off the values (a value's own answer does not lean on its token) -/
def eqU (x : V) (u : Value) : Bool := match u with
  | .none => eqV .non x
  | .bool b => eqV (.bl b) x
  | .int i _ => eqV (.int i) x
  | .str z _ => eqV (.str z) x
  | _ => false
theorem eqU_of {x y : V} {u : Value} (r : RelV y u) (f : flatV y = true) : eqU x u = eqV y x := by
  cases y with
  | non => cases r; rfl
  | bl b => cases r; rfl
  | int i => obtain ⟨t, rfl⟩ := r; rfl
  | str z => obtain ⟨t, rfl⟩ := r; rfl
  | _ => exact absurd (show false = true from f) Bool.false_ne_true
theorem any_eqU {x : V} : ∀ {xs : List V} {us : List Value}, Vals xs us → xs.all flatV = true → us.any (eqU x) = xs.any fun y => eqV y x
  | _, _, .nil, _ => rfl
  | y :: xs, u :: us, .cons r t, f => by
    rw [List.all_cons, Bool.and_eq_true] at f
    rw [List.any_cons, List.any_cons, eqU_of r f.1, any_eqU t f.2]
theorem mem_eqAt {A : Around} {s : Shared} {x : V} {v : Value} (rx : RelV x v) (fx : flatV x = true) : ∀ {xs : List V} {us : List Value}, Vals xs us → xs.all flatV = true → ∀ u ∈ us, SeqAt.EqAt A s u v (eqU x u)
  | _, _, .nil, _ => fun u hu => by cases hu
  | y :: xs, u :: us, .cons r t, f => fun u' hu => by
    rw [List.all_cons, Bool.and_eq_true] at f
    rcases List.mem_cons.mp hu with rfl | hu
    · rw [eqU_of r f.1]; exact eqAt_V r rx f.1 fx
    · exact mem_eqAt rx fx t f.2 u' hu
def inV (x : V) (xs : List V) : Bool := xs.any fun y => eqV y x
/-- x in a list or tuple of flat items -/
def rIn (K : PySem.W.Frag) (neg : Bool) : R2 := fun x y H Q => ∃ p xs, y = .ref p ∧ (SqL K H p xs ∨ SqT K H p xs) ∧ flatV x = true ∧ xs.all flatV = true ∧ Q (.bl (if neg then !inV x xs else inV x xs)) H
theorem op_notIn_seq : OpR X (compareOp .NotIn) (rIn X.K true) := by
  intro pins s σ H x y v u Q I rx ry h
  obtain ⟨p, xs, rfl, hq, fx, fs, q⟩ := h
  cases ry
  rcases hq with hq | hq
  · obtain ⟨its, r, pl, hz⟩ := I.list hq
    refine SeqAt.notIn_listAt (eqU x) pl.isList (fun w hw => mem_eqAt rx fx r fs w (by simpa using hw)) ⟨.bl _, H, I, rfl, ?_⟩
    rw [show its.toArray.any (eqU x) = its.any (eqU x) by simp, any_eqU r fs]
    exact q
  · obtain ⟨its, r, pl, hz⟩ := I.tuple hq
    refine SeqAt.notIn_tupleAt (eqU x) pl (fun w hw => mem_eqAt rx fx r fs w (by simpa using hw)) ⟨.bl _, H, I, rfl, ?_⟩
    rw [show its.toArray.any (eqU x) = its.any (eqU x) by simp, any_eqU r fs]
    exact q
/-! ### len, list(x), tuple(x) of any list or tuple that is read -/
theorem call_len_seq : CallR X (.builtin "len") (fun xs H Q => ∃ p ys, xs = [.ref p] ∧ (SqL X.K H p ys ∨ SqT X.K H p ys) ∧ Q (.int ys.length) H) := by
  intro pins s σ H xs us Q I r h
  obtain ⟨p, ys, rfl, hq, q⟩ := h
  obtain ⟨u, rfl, rx⟩ := vals1 r
  cases rx
  have hn := line63
  rcases hq with hq | hq
  · obtain ⟨its, r', pl, hz⟩ := I.list hq
    have hlen := r'.length
    exact Calls.call_len_list pl.isList (by simp only [List.size_toArray] <;> omega) ⟨.int ys.length, H, I.tok _, ⟨s.toks + 1, by rw [List.size_toArray, hlen]⟩, q⟩
  · obtain ⟨its, r', pl, hz⟩ := I.tuple hq
    have hlen := r'.length
    exact len_tuple pl (by simp only [List.size_toArray] <;> omega) ⟨.int ys.length, H, I.tok _, ⟨s.toks + 1, by rw [List.size_toArray, hlen]⟩, q⟩
theorem call_len_str : CallR X (.builtin "len") (fun xs H Q => ∃ z, xs = [.str z] ∧ z.length ≤ sizeLine ∧ Q (.int z.length) H) := by
  intro pins s σ H xs us Q I r h
  obtain ⟨z, rfl, hz, q⟩ := h
  obtain ⟨u, rfl, t, rfl⟩ := vals1 r
  have hn := line63
  exact len_str (by omega) ⟨.int z.length, H, I.tok _, ⟨_, rfl⟩, q⟩
/-! ### the call of a builtin's method: o.m(..) -/
/-- the value is of that builtin type -/
def tyV (K : PySem.W.Frag) (T : String) (x : V) (H : Hp) : Prop := match x with
  | .str _ => T = "str"
  | .int _ => T = "int"
  | .ref p => (T = "list" ∧ ∃ xs, SqL K H p xs) ∨ (T = "tuple" ∧ ∃ o, K.lookup p = some o ∧ o.cls = .type "tuple" ∧ o.dict = none) ∨
      (T = "dict" ∧ ((∃ kvs, H p = some (.dK kvs)) ∨ ∃ kvs, H p = some (.dT kvs))) ∨ (T = "set" ∧ ∃ S n, H p = some (.set S n))
  | _ => False
theorem tyV_is {pins : List (Addr × Obj)} {σ : St} {H : Hp} {s : Shared} {T : String} {x : V} {v : Value} (I : Inv X pins σ H s) (r : RelV x v) (ty : tyV X.K T x H) :
    s.TypeIs v T ∧ ∀ a, v = .ref a → ∃ ob, s.heap.get? a = some ob ∧ ob.dict = none := by
  cases x with
  | str z =>
    obtain ⟨t, rfl⟩ := r
    cases (show T = "str" from ty)
    exact ⟨typeIs_str s z t, fun _ e => nomatch e⟩
  | int i =>
    obtain ⟨t, rfl⟩ := r
    cases (show T = "int" from ty)
    exact ⟨typeIs_int s i t, fun _ e => nomatch e⟩
  | ref p =>
    cases r
    rcases ty with ⟨rfl, xs, hq⟩ | ⟨rfl, o, hk, hc, hd⟩ | ⟨rfl, hk⟩ | ⟨rfl, S, n, hk⟩
    · obtain ⟨its, _, pl, _⟩ := I.list hq
      refine ⟨pl.isList.typeIs, fun a e => ?_⟩
      cases e
      obtain ⟨o, n, e, c, hd, _⟩ := pl
      exact ⟨o, e, hd⟩
    · refine ⟨⟨o, I.kIn p o hk, hc⟩, fun a e => ?_⟩
      cases e
      exact ⟨o, I.kIn _ o hk, hd⟩
    · have z : ∃ o, s.heap.get? p = some o ∧ o.ExactDict := by
        rcases hk with ⟨kvs, hk⟩ | ⟨kvs, hk⟩
        · obtain ⟨_, _, _, _, o, _, _, e, ex, _⟩ := I.hok p _ hk
          exact ⟨o, e, ex⟩
        · obtain ⟨_, _, _, _, o, _, _, e, ex, _⟩ := I.hok p _ hk
          exact ⟨o, e, ex⟩
      obtain ⟨o, e, ex⟩ := z
      refine ⟨⟨o, e, ex.1⟩, fun a e2 => ?_⟩
      cases e2
      exact ⟨o, e, ex.2.1⟩
    · obtain ⟨o, _, _, _, e, ex, _⟩ := I.hok p _ hk
      refine ⟨⟨o, e, ex.1⟩, fun a e2 => ?_⟩
      cases e2
      exact ⟨o, e, ex.2.1⟩
  | _ => exact False.elim ty
def tBM0 (K : PySem.W.Frag) (T : String) (r : V → List V → Hp → VK → Prop) (to : TE) : TE := fun σ H Q => to σ H fun x H1 => tyV K T x H1 ∧ r x [] H1 Q
def tBM (K : PySem.W.Frag) (T : String) (r : V → List V → Hp → VK → Prop) (to : TE) (t : TA) : TE := fun σ H Q => to σ H fun x H1 => tyV K T x H1 ∧ t σ H1 fun xs H2 => r x xs H2 Q
variable {o e : Expr} {es : List Expr} {to : TE} {t : TA} {name : Str} {apos cpos : Pos} {T id : String} {r : V → List V → Hp → VK → Prop}
theorem pe_bm (pa : PlainAttrs T) (slot : Slot T name id) (hty : typeOf (.builtin id) = pure (.type "method_descriptor")) (hm : MtR X id r) (ho : PE X o to) (ha : PA X (e :: es) t)
    (hbase : attributeBase o name X.env (eval o X.env) = eval o X.env := by rfl)
    (hfew : ((backTo cpos (starEach (e :: es) X.env)).all (fun x => !x.1) && (backToKw cpos (keywordEach [] X.env)).all (fun x => x.1.isSome)
      && decide ((e :: es).length + ([] : List Keyword).length + (if ([] : List Keyword).isEmpty then 0 else 1) < 30)) = true := by rfl)
    (hline : (apos.endLine == cpos.line) = true := by rfl) (hs : starEach (e :: es) X.env = (false, eval e X.env) :: starEach es X.env := by rfl) (hplain : (backTo cpos (starEach es X.env)).any (·.1) = false := by rfl) :
    PE X (.Call (.Attribute o name apos) (e :: es) [] cpos) (tBM X.K T r to t) := by
  intro pins s σ H Q I h
  refine wpAny_Call_method_late hbase hfew hline rfl (thn (ho pins s σ H _ I h) fun v s1 ⟨x, H1, I1, r1, ty, q1⟩ => ?_)
  obtain ⟨h1, h2⟩ := tyV_is I1 r1 ty
  refine ⟨T, id, pa, slot, hty, h1, h2, ?_⟩
  have hA := ha cpos pins s1 σ H1 _ I1 q1
  rw [hs] at hA ⊢
  refine Calls.callWith_builtin (by show (false || (backTo cpos (starEach es X.env)).any (·.1)) = false; rw [hplain] <;> rfl) (Calls.evalArgs_plain ?_)
  exact thn hA fun us s2 ⟨vs, H2, I2, r2, q2⟩ => hm pins s2 σ H2 x vs v us Q I2 r1 r2 q2
/- xs.append(e), list.index on a module's tuple .. are MtR facts of 06m -/
end
end L2

namespace L2
open PySem PySem.Spec PyProof.Rows

def MtM (X : Cx) (id : String) (r : V → List V → Hp → VK → Prop) : Prop :=
  ∀ (pins : List (Addr × Obj)) (s : Shared) (σ : St) (H : Hp) (x : V) (xs : List V) (v : Value) (us : List Value) (Q : VK), Inv X pins σ H s → RelV x v → Vals xs us → r x xs H Q →
    wpAny (model X.prog X.w) X.A (call (.builtin id) (v :: us)) (EP X pins σ Q) X.xe s

/-! ### lists of values -/
theorem Vals.one : ∀ {x : V} {us : List Value}, Vals [x] us → ∃ u, us = [u] ∧ RelV x u
  | _, _, .cons r .nil => ⟨_, rfl, r⟩
theorem Vals.two : ∀ {x y : V} {us : List Value}, Vals [x, y] us → ∃ u v, us = [u, v] ∧ RelV x u ∧ RelV y v
  | _, _, _, .cons r (.cons q .nil) => ⟨_, _, rfl, r, q⟩
section
variable {X : Cx} {pins : List (Addr × Obj)} {σ : St} {H : Hp} {s : Shared} {l b : Addr} {xs ys zs : List V}

/-! ### the two steps: a tracked list is rewritten, a new list is laid -/
theorem Inv.lset {its its' : List Value} {n : Nat} {f : Array Value → Array Value} {t' : Nat} (I : Inv X pins σ H s) (hH : H l = some (.lst xs))
    (e : s.heap.get? l = some { cls := .type "list", data := .seq its.toArray n }) (hf : f its.toArray = its'.toArray) (hv : Vals ys its') (hz : ys.length ≤ sizeLine) :
    Inv X pins σ (upd H l (.lst ys)) { s with heap := s.heap.update l (Obj.mapSeq f), toks := t' } := by
  have q := PySem.IsL.update e f
  rw [hf] at q
  refine I.write (x := l) (e := l) (by rw [hH]; exact trivial) (.inl rfl) (fun b' u hb hu => (Heap.get?_update_other s.heap (Obj.mapSeq f) (Ne.symm hb)).trans hu) ⟨_, q⟩ ?_
  exact ⟨hz, its', _, hv, q⟩
theorem Inv.lstM (I : Inv X pins σ H s) (hH : H l = some (.lst xs)) : xs.length ≤ sizeLine ∧ ∃ (its : List Value) (n : Nat), Vals xs its ∧ xs.length = its.length ∧ s.heap.get? l = some { cls := .type "list", data := .seq its.toArray n } := by
  obtain ⟨z, its, n, r, e⟩ := I.hok l _ hH
  exact ⟨z, its, n, r, r.length, e⟩

theorem notLongL {n : Nat} (h : n ≤ sizeLine) : Builtin.List.listTooLong n = false := by
  unfold Builtin.List.listTooLong
  exact decide_eq_false (by omega)
end

section
variable {X : Cx}

/-! ### methods -/
def rAppend : V → List V → Hp → VK → Prop := fun x vs H Q => ∃ l xs y, x = .ref l ∧ vs = [y] ∧ H l = some (.lst xs) ∧ xs.length < sizeLine ∧ Q .non (upd H l (.lst (xs ++ [y])))
theorem mt_append : MtM X "list.append" rAppend := by
  intro pins s σ H x vs v us Q I rx rv h
  obtain ⟨l, xs, y, rfl, rfl, hH, hz, q⟩ := h
  cases rx
  obtain ⟨u, rfl, ru⟩ := rv.one
  obtain ⟨z, its, n, r, hl, e⟩ := I.lstM hH
  refine call_meets F.slot_list_append ⟨_, e, rfl⟩ F.entry_list_append (F.args_list_append_2 _ _) (PySem.list_append l its.toArray n u (by rw [List.size_toArray]; omega)) ⟨e, ?_⟩
  refine ⟨.non, _, I.lset (its' := its ++ [u]) hH e (by simp) (r.append (.cons ru .nil)) ?_, rfl, q⟩
  rw [List.length_append, List.length_singleton]
  omega

def rExtend : V → List V → Hp → VK → Prop := fun x vs H Q => ∃ l b xs zs, x = .ref l ∧ vs = [.ref b] ∧ H l = some (.lst xs) ∧ H b = some (.lst zs) ∧ xs.length + zs.length ≤ sizeLine ∧ Q .non (upd H l (.lst (xs ++ zs)))
theorem mt_extend : MtM X "list.extend" rExtend := by
  intro pins s σ H x vs v us Q I rx rv h
  obtain ⟨l, b, xs, zs, rfl, rfl, hH, hB, hz, q⟩ := h
  cases rx
  obtain ⟨u, rfl, ru⟩ := rv.one
  cases ru
  obtain ⟨z, its, n, r, hl, e⟩ := I.lstM hH
  obtain ⟨z2, its2, n2, r2, hl2, e2⟩ := I.lstM hB
  have hsz : its.toArray.size + its2.toArray.size ≤ sizeLine := by rw [List.size_toArray, List.size_toArray]; omega
  have hlong : ¬ (!its.toArray.isEmpty && Builtin.List.listTooLong (its.toArray.size + its2.toArray.size)) = true := by
    rw [notLongL hsz, Bool.and_false]
    exact Bool.false_ne_true
  refine call_meets F.slot_list_extend ⟨_, e, rfl⟩ F.entry_list_extend (F.args_list_extend_2 _ _)
    (AutoSeq1.list_extend_list_list_0 l its.toArray n b its2.toArray n2 hlong (by rw [List.size_toArray]; omega) (by omega)) ⟨e, e2, ?_⟩
  refine ⟨.non, _, I.lset (its' := its ++ its2) hH e (by simp) (r.append r2) ?_, rfl, q⟩
  rw [List.length_append]
  omega

def rPop : V → List V → Hp → VK → Prop := fun x vs H Q => ∃ l xs y, x = .ref l ∧ vs = [] ∧ H l = some (.lst xs) ∧ xs[xs.length - 1]? = some y ∧ Q y (upd H l (.lst xs.dropLast))
def rPopAt : V → List V → Hp → VK → Prop := fun x vs H Q => ∃ l xs i k y, x = .ref l ∧ vs = [.int i] ∧ H l = some (.lst xs) ∧ -(2 ^ 63) ≤ i ∧ i < 2 ^ 63 ∧ seqIndex? i xs.length = some k ∧ xs[k]? = some y ∧ Q y (upd H l (.lst (xs.eraseIdx k)))
def rReverse : V → List V → Hp → VK → Prop := fun x vs H Q => ∃ l xs, x = .ref l ∧ vs = [] ∧ H l = some (.lst xs) ∧ Q .non (upd H l (.lst xs.reverse))
def rClear : V → List V → Hp → VK → Prop := fun x vs H Q => ∃ l xs, x = .ref l ∧ vs = [] ∧ H l = some (.lst xs) ∧ Q .non (upd H l (.lst []))
/-! ### list + list, list += list, list * int -/
def rCat : R2 := fun x y H Q => ∃ l b xs zs, x = .ref l ∧ y = .ref b ∧ H l = some (.lst xs) ∧ H b = some (.lst zs) ∧ xs.length + zs.length ≤ sizeLine ∧ ∀ p, H p = none → Q (.ref p) (upd H p (.lst (xs ++ zs)))
/-- a list times an int (a negative one is nothing) -/
def rRep : R2 := fun x y H Q => ∃ l k xs, x = .ref l ∧ y = .int k ∧ H l = some (.lst xs) ∧ -(2 ^ 63) ≤ k ∧ k < 2 ^ 63 ∧ xs.length * k.toNat ≤ sizeLine ∧
  ∀ p, H p = none → Q (.ref p) (upd H p (.lst (List.replicate k.toNat xs).flatten))
/-! ### del xs[i] -/
end

/-! ### xs[a:b] = ys -/
section
variable {prog : Program} {w : World} {A : Around} {E : Value → Shared → Prop} {s : Shared}
end

section
variable {X : Cx}
end
end L2

namespace Att
open PySem PySem.W PySem.Calls PyProof.Rows

/-! ### the script -/
theorem ints_of_wellAll {P : Params} {h : Heap} : ∀ (ns : List Int) (vs : List Value), WellAll P h vs (ns.map WData.int) → IntsAre vs ns := by
  intro ns
  induction ns with
  | nil =>
    intro vs w
    rw [List.map_nil] at w
    cases w
    exact .nil
  | cons n ns ih =>
    intro vs w
    rw [List.map_cons] at w
    cases w with
    | cons a b =>
      cases a
      exact .cons _ _ (ih _ b)

theorem script_of {l : OpenLaw} {n : Nat} (hn : l.most = some n) {P : Params} {h : Heap} {args : List WData} {vals : List Value}
    (hpre : l.row.toRowW.claim.pre args = true) (hwl : WellAll P h vals args) :
    ∃ a vs ns, vals = [Value.ref a] ∧ args = [WData.list (ns.map WData.int)] ∧ h.get? a = some { cls := .type "list", data := .seq vs.toArray } ∧ IntsAre vs ns ∧ ns.length ≤ n := by
  have hsh : WShape.hasAll [] args [.list .int] = true := (pre_splitW hpre).1
  have hc : l.pre.holds [] { args := args } = true := (pre_splitW hpre).2
  obtain ⟨d, r, rfl, h1, h2⟩ := hasAllW_cons hsh
  obtain rfl := hasAllW_nil h2
  obtain ⟨xs, rfl, h3⟩ := hasW_list h1
  obtain ⟨ns, rfl⟩ := items_int h3
  have hlen : ns.length ≤ n := by
    unfold OpenLaw.pre at hc
    have h4 : (WTm.not (.lt (.lit (.int (n : Int))) (.len (.arg 0)))).holds [] { args := [.list (ns.map .int)] } = true := by
      have h4 := (holds_andW hc).1
      rw [hn] at h4
      exact h4
    have h5 := condW_of h4 (w_not (w_lt w_lit (w_len_list (w_arg rfl))))
    rw [List.length_map] at h5
    refine Nat.le_of_not_lt fun q => ?_
    have q' : (n : Int) < ((ns.length : Nat) : Int) := by omega
    first
      | (rw [decide_eq_true q'] at h5; exact absurd h5 (by decide))
      | (simp at h5; omega)
  cases hwl with
  | cons w1 w2 =>
    cases w2
    cases w1 with
    | list ho hall => exact ⟨_, _, ns, rfl, rfl, ho, ints_of_wellAll ns _ hall, hlen⟩

theorem post_true (l : OpenLaw) (args : List WData) : l.row.toRowW.claim.post args (.bool true) args = true :=
  postW_of (r := l.row.toRowW) (X := (true == true))
    (show WShape.has [] (.bool true) .bool = true by first | rfl | decide | simp [WShape.has, WShape.arms, WShape.armsAll])
    (show (WTm.eq .res (.lit (.bool true))).value [] { args := args, res := some (.bool true), after := args } = some (.bool (true == true)) from w_eq_bool (w_res rfl) w_lit) rfl

/-! ### the attachment: holds_open's last premise (the goal 'hc' behind k_head) from a wpAny of the law's body -/
/-- the same from a codeAny of the CALL (for a layer whose function contracts speak of calls) -/
theorem attach_call {l : OpenLaw} {n : Nat} {q : Program} {loose : List Str} {XP : (Str → Option Value) → Heap → Prop} {YP : World → Heap → Prop} {d : DefRec}
    (hn : l.most = some n) (hdf : d.params.defaults = [])
    (call : ∀ (w : World) (s₀ s₁ : Shared) (mg mb : Str → Option Value) (fa : Addr) (o : Obj) (pm cd doc : Value) (a : Addr) (vs : List Value) (ns : List Int),
      Ground q loose [] XP w s₀ mg mb s₁.heap → YP w s₁.heap →
      s₁.heap.get? fa = some o → o.data = .func (docDef d.name d.params d.body d.scope pm cd doc) → s₁.heap.CodeRec cd d.name → mg d.name = some (.ref fa) →
      s₁.heap.get? a = some { cls := .type "list", data := .seq vs.toArray } → IntsAre vs ns → ns.length ≤ n → s₁.gens = #[] →
      codeAny (model l.prog w) callerA (.call (.ref fa) ⟨[.ref a], []⟩) (fun r s' => r = .ok (.ret (.bool true)) ∧ OldK s₁.heap s'.heap ∧ s'.os = s₁.os ∧ AllBare s'.gens) s₁) :
    WalkO q loose XP YP l.row.toRowW d [] (fun f vs => PySem.call f vs) := by
  intro w s₀ s₁ mg mb G Y fa o pm cd doc dV kV ho hd hcd hD hmg hg args vals as hpre hlay hrd hwl hlo
  obtain rfl : dV = .none := Dflts.none hD hdf
  obtain rfl : kV = .none := Dflts.noKw hD
  obtain ⟨a, vs, ns, rfl, rfl, hobj, hints, hlen⟩ := script_of hn hpre hwl
  refine enter_call (codeAny_mono (call w s₀ s₁ mg mb fa o pm cd doc a vs ns G Y ho (fd_plain hd) hcd hmg hobj hints hlen hg) fun r s' hq => ?_)
  obtain ⟨rfl, h2, h3, h4⟩ := hq
  exact ⟨.inl ⟨.bool true, .bool true, [], rfl, fun _ => rfl, .bool true, post_true l _, fun _ => ⟨List.Pairwise.nil, fun _ hm => (nomatch hm)⟩⟩, h2, h3, h4⟩

/-! ### rules over ANY heap (no ledger) from facts about the written part K: the library's own take a ledger (News) for what they write -/
section
variable {prog : Program} {w : World} {A : Around} {E : Value → Shared → Prop} {s : Shared} {K : Frag}

/-! the whole heap as the ledger: makes every rule that writes through a ledger a rule over any heap -/
def noObjs (h : Heap) : Heap := { h with objs := #[] }
def ledger (h : Heap) (L d : Addr) : List (Addr × Obj) := (List.range h.objs.size).filterMap fun a => if a = L ∨ a = d then none else (h.get? a).map fun o => (a, o)
end
end Att

namespace L2
open PySem PySem.Spec PyProof.Rows

theorem vals_ints : ∀ {vs : List Value} {ns : List Int}, IntsAre vs ns → Vals (ns.map V.int) vs
  | _, _, .nil => .nil
  | _, _, .cons n t h => .cons ⟨t, rfl⟩ (vals_ints h)

/-- nothing is tracked but the script, known to the object (or it is an object of the module) -/
def Only (H : Hp) : Prop := ∀ b, H b = none ∨ ∃ o xs, H b = some (.frz o (.lst xs))

/-- THE HEAD: the law's promise, at the heap behind the top. F, the promise of the law's def, may use that base is part of the heap (so K.In base, base.Ns mainGlobals mg stand in Mod) -/
theorem law_call {P : Program} {w : World} {K : PySem.W.Frag} {mg mb : Str → Option Value} {CX : CXT} {k : Nat} {fa a : Addr} {fd : FuncData} {x : Str} {sp : Sp} {s₁ : Shared} {vs : List Value} {ns : List Int}
    (KX : K.In s₁.heap) (hns : s₁.heap.Ns mainGlobals mg) (hb : s₁.heap.Ns builtinsNs mb) (hbb : ∀ x : Str, x ≠ "__name__" → mb x = bootBuiltins x) (hlim : s₁.heap.NoLimit) (hg : s₁.gens = #[])
    (ha : s₁.heap.get? a = some { cls := .type "list", data := .seq vs.toArray }) (hi : IntsAre vs ns) (hl : ns.length ≤ sizeLine) (hr : Room k callerA)
    (F : ∀ base : Heap, K.In base → base.Ns mainGlobals mg → FnOk P w K mg base CX k fa fd [x] sp) (hbind : ∀ (s : Shared) (u : Value), BindsTo s fd ⟨[u], []⟩ [(x, u)])
    (hsp : ∀ H : Hp, Only H → SqL K H a (ns.map V.int) → sp [.ref a] H (fun v _ => v = .bl true) fun _ _ _ => False)
    (hCX : ∀ H e s', CX [] H s₁ (fun _ _ _ => False) e s' → False) :
    codeAny (model P w) callerA (.call (.ref fa) ⟨[.ref a], []⟩) (fun r s' => r = .ok (.ret (.bool true)) ∧ OldK s₁.heap s'.heap ∧ s'.os = s₁.os ∧ AllBare s'.gens) s₁ := by
  have rv := vals_ints hi
  have lenV := hi.length
  -- from an abstract heap in which nothing but the script may be tracked
  have core : ∀ H : Hp, Only H → SqL K H a (ns.map V.int) → HOk P w H s₁.heap → (∀ b, H b ≠ none → b = a) → (H a ≠ none → K.lookup a = none) →
      codeAny (model P w) callerA (.call (.ref fa) ⟨[.ref a], []⟩) (fun r s' => r = .ok (.ret (.bool true)) ∧ OldK s₁.heap s'.heap ∧ s'.os = s₁.os ∧ AllBare s'.gens) s₁ := by
    intro H hO hS hok hA hK
    have base_of : ∀ {b : Addr} {o : Obj}, s₁.heap.get? b = some o → H b = none → (hidT s₁.heap H).get? b = some o := fun e n => hidT_get e n
    have noA : ∀ {b : Addr} {o : Obj} {es : Array DictEntry} {ep : Nat}, s₁.heap.get? b = some o → o.data = .dict es ep → H b = none := fun {b o es ep} e d => by
      cases q : H b with
      | none => rfl
      | some u =>
        have e' : b = a := hA b (by rw [q]; simp)
        subst e'
        rw [ha] at e; cases e
        have d' : Data.seq vs.toArray _ = Data.dict es ep := d
        cases d'
    have nsK : ∀ {b : Addr} {m : Str → Option Value}, s₁.heap.Ns b m → (hidT s₁.heap H).Ns b m := fun {b m} ⟨o, es, ep, e, d, r⟩ => ⟨o, es, ep, base_of e (noA e d), d, r⟩
    have hKb : K.In (hidT s₁.heap H) := fun b o e => base_of (KX b o e) (by
      cases q : H b with
      | none => rfl
      | some u =>
        have e' : b = a := hA b (by rw [q]; simp)
        subst e'
        rw [hK (by rw [q]; simp)] at e; cases e)
    have hM : Mod K mg (hidT s₁.heap H) := ⟨hKb, nsK hns, ⟨mb, nsK hb, hbb⟩, let ⟨mc, h1, h2⟩ := hlim; ⟨mc, nsK h1, h2⟩⟩
    have e0 : Env0 P w K mg (hidT s₁.heap H) callerA [] s₁ H := ⟨rfl, hM, fun b o e => of_hidT e, Nat.le_of_eq (hidT_size _ _), trivial, fun b hb => absurd (show b ∈ ([] : List Addr) from hb) (by simp), hok, .of_eq hg⟩
    refine codeAny_mono ((F _ hKb (nsK hns)).run callerA [] s₁ H ⟨[.ref a], []⟩ [.ref a] [.ref a] _ _ hr e0 (hbind s₁ (.ref a)) (.cons rfl .nil) (hsp H hO hS)) fun r s' h => ?_
    cases r with
    | error e => exact (hCX H e s' h).elim
    | ok fl =>
      cases fl with
      | next => exact False.elim h
      | brk => exact False.elim h
      | cont => exact False.elim h
      | ret u =>
        obtain ⟨v, H', os, bare, un, hok', r', q⟩ := h
        have q' : v = .bl true := q
        subst q'
        obtain rfl : u = Value.bool true := r'
        refine ⟨rfl, OldK.of_keep fun b o e => ?_, os, bare⟩
        cases q : H b with
        | none => exact un.keep b o e q (by intro z; exact absurd (show b ∈ ([] : List Addr) from z) (by simp)) (by simp)
        | some u =>
          rcases hO b with z | ⟨ob, xs, z⟩
          · rw [q] at z; cases z
          · have z2 := un.frzs b ob _ z
            obtain ⟨e1, _⟩ := hok b _ z
            obtain ⟨e2, _⟩ := hok' b _ z2
            rw [e] at e1; cases e1
            exact e2
  cases hk : K.lookup a with
  | some o =>
    -- the script is one of the module's own objects
    have e := KX a o hk
    rw [ha] at e
    cases e
    refine core (fun _ => none) (fun _ => .inl rfl) (.inr ⟨_, vs.toArray, _, hk, rfl, rfl, rfl, by rw [List.size_toArray, lenV]; exact hl, by simpa using rv⟩) (fun b u z => by have z' : (none : Option HO) = some u := z; cases z') (fun b z => absurd rfl z) fun z => absurd rfl z
  | none =>
    refine core (fun b => if b = a then some (.frz { cls := .type "list", data := .seq vs.toArray } (.lst (ns.map V.int))) else none) (fun b => ?_) (.inl (.inr ⟨{ cls := .type "list", data := .seq vs.toArray }, if_pos rfl⟩)) (fun b u z => ?_) (fun b z => ?_) fun _ => hk
    · by_cases hb : b = a
      · exact .inr ⟨_, _, if_pos hb⟩
      · exact .inl (if_neg hb)
    · by_cases hb : b = a
      · have z' := (if_pos hb).symm.trans z
        cases z'
        subst hb
        exact ⟨ha, by rw [List.length_map]; exact hl, vs, _, rv, ha⟩
      · have z' := (if_neg hb).symm.trans z
        cases z'
    · by_cases hb : b = a
      · exact hb
      · exact absurd (if_neg hb) z
end L2

namespace L2
open PySem PySem.Spec PyProof.Rows

abbrev KOf {K : PySem.W.Frag} {h : Heap} (_ : K.In h) : PySem.W.Frag := K

/-- the goal that k_head leaves (case hc), from the law's promise. F gives the function object fd (K's own) once, then the promise over every base -/
theorem walk_of {l : PySem.W.OpenLaw} {n k : Nat} {q : Program} {loose : List Str} {XP : (Str → Option Value) → Heap → Prop} {YP : World → Heap → Prop} {d : DefRec} {K : Params → PySem.W.Frag} {CX : World → CXT} {sp : World → Sp} {x : Str}
    (hn : l.most = some n) (hn2 : n ≤ sizeLine) (hdf : d.params.defaults = []) (hr : Room k callerA)
    (hY : ∀ (w : World) (h : Heap), YP w h → (K w.params).In h)
    (F : ∀ (w : World) (mg : Str → Option Value) (fa : Addr) (h : Heap), (K w.params).In h → h.Ns mainGlobals mg → mg d.name = some (.ref fa) →
      ∃ fd : FuncData, (∀ (s : Shared) (u : Value), BindsTo s fd ⟨[u], []⟩ [(x, u)]) ∧
        ∀ base : Heap, (K w.params).In base → base.Ns mainGlobals mg → FnOk l.prog w (K w.params) mg base (CX w) k fa fd [x] (sp w))
    (hsp : ∀ (w : World) (H : Hp) (a : Addr) (ns : List Int), ns.length ≤ n → Only H → SqL (K w.params) H a (ns.map V.int) → sp w [.ref a] H (fun v _ => v = .bl true) fun _ _ _ => False)
    (hCX : ∀ (w : World) (H : Hp) (s : Shared) (e : Value) (s' : Shared), CX w [] H s (fun _ _ _ => False) e s' → False) :
    PySem.W.WalkO q loose XP YP l.row.toRowW d [] (fun f vs => PySem.call f vs) := by
  refine Att.attach_call hn hdf fun w s₀ s₁ mg mb fa o pm cd doc a vs ns G Y ho hd hcd hmg hobj hints hlen hg => ?_
  have KX := hY w _ Y
  obtain ⟨fd, hb, hF⟩ := F w mg fa _ KX G.T.g hmg
  exact law_call KX G.T.g G.T.b G.T.builtins G.T.nolimit hg hobj hints (Nat.le_trans hlen hn2) hr hF hb (fun H hO hS => hsp w H a ns hlen hO hS) fun H e s' => hCX w H s₁ e s'
end L2

/- THE LAST THEOREM (shape; LID, My.* are yours):
   My.Adr: a structure of the addresses that your layer names (classes, functions); My.Txt K t: a structure (Prop) of the equations over K;
   My.txt_mk : {K} {implicit addresses ..} (e1 : nsIn K mainGlobals "law" = some (some (.ref f))) (e2 : K.lookup f = some ⟨oc, od, .func (fnOf "law" "law" params body scope dV kV doc pm an cdv ct), sl⟩) (e3 : codeIn K cdv "law" = true) .. : ∃ t, My.Txt K t

set_option maxRecDepth 100000 in
set_option maxHeartbeats 0 in
theorem PySem.Challenge.cw_LID_holds : PySem.Challenge.rw_LID.Holds := by
  w_on; o_law; k_head; (case hw => w_witness2)
  k_fill
  refine L2.walk_of (l := PySem.Challenge.rw_LID) (n := 63) (k := 40) (x := "script") (CX := fun w => ..) (sp := fun _ => My.sp_law) rfl (by decide) rfl ⟨rfl, by decide, by decide⟩ (fun w h Y => PySem.W.kIn_of Y) ?F ?S ?C
  case F =>
    intro w mg fa h KX G hmg
    have T : ∃ t, My.Txt (L2.KOf KX) t := by
      dsimp only [L2.KOf]                          -- K must stand as «<heap const> w.params» for k_is
      refine' My.txt_mk ?e1 ?e2 ?e3 ..
      (case e1 => PySem.W.k_is)                    -- in the order: a name -> its address -> its object -> its parts
      (case e2 => PySem.W.k_is)
      ..
    obtain ⟨t, T⟩ := T
    have e0 := hmg.symm.trans (PySem.W.mg_of KX G T.law)
    cases e0                                       -- fa is the law's own address
    exact ⟨_, fun s u => .of_eq rfl, fun base kb nb => My.law_fn T kb nb⟩     -- if «.of_eq rfl» comes too early: refine' ⟨_, ?b, fun base kb nb => My.law_fn T kb nb⟩; exact fun s u => .of_eq rfl
  case S => exact fun w H a ns hl hO hS => ..
  case C => exact ..
(the tactic k_is has no namespace: write k_is) -/

/-! SHORT WORDS over the layer: a def of the text, its body, what a loop and a test want. -/
namespace L2
open PySem PySem.Spec PyProof.Rows

/-! ### the text by places -/
/-- the j-th statement of a class's body -/
def inClass (s : Stmt) (j : Nat) : Stmt := match s with
  | .ClassDef _ _ _ body _ _ _ _ _ _ _ => body.getD j (.Pass ⟨0, 0, 0, 0⟩)
  | _ => .Pass ⟨0, 0, 0, 0⟩
def defArgs (s : Stmt) : Arguments := match s with
  | .FunctionDef _ a _ _ _ _ _ _ _ _ => a
  | _ => { posonlyargs := [], args := [], vararg := none, kwonlyargs := [], kw_defaults := [], kwarg := none, defaults := [] }
def defBody (s : Stmt) : List Stmt := match s with
  | .FunctionDef _ _ b _ _ _ _ _ _ _ => b
  | _ => []
def defScope (s : Stmt) : Scope := match s with
  | .FunctionDef _ _ _ _ _ _ sc _ _ _ => sc
  | _ => { kind := .function, names := [], isGenerator := false, isCoroutine := false }

/-! ### no exception leaves a def -/
abbrev CX0 : CXT := fun _ _ _ _ _ _ => False
abbrev E0 : XK := fun _ _ _ => False
theorem pass0 {X : Cx} : Passes CX0 X E0 := fun _ _ _ _ _ _ _ h => h.elim

/-! ### a def (or method) of the text as it stands behind the top -/
structure Fun (K : PySem.W.Frag) (x qual : Str) (st : Stmt) (f : Addr) (fd : FuncData) : Prop where
  ex : ∃ (oc : Value) (od : Option Addr) (kV doc pm : Value) (an : Option Addr) (cdv ct : Value) (osl : Array (Option Value)),
    fd = PySem.W.fnOf x qual (defArgs st) (defBody st) (defScope st) .none kV doc pm an cdv ct ∧ K.lookup f = some ⟨oc, od, .func fd, osl⟩ ∧ PySem.W.codeIn K cdv qual = true
  kp : PySem.W.keepIn K (.ref f) = true
section
variable {P : Program} {w : World} {K : PySem.W.Frag} {mg : Str → Option Value} {base : Heap}
/-- THE RULE for a def: its body as a term of rules, and the reading of that term -/
theorem Fun.ok {x qual : Str} {st : Stmt} {f : Addr} {fd : FuncData} {N ps : List Str} {k : Nat} {sp : Sp} (F : Fun K x qual st f fd) (S : FnScope N ps (defScope st)) (len : ∀ vs H Q E, sp vs H Q E → vs.length = ps.length)
    (hbody : ∀ (cdv : Value) (A : Around) (outer : List Env) (s : Shared) (H : Hp) (vs : List V) (Q : VK) (E : XK), Room k (A.deeper (envOfC qual (defScope st) s.heap.objs.size f cdv)) → sp vs H Q E →
      ∃ t, PSs (cxOf CX0 P w K mg base N qual (defScope st) f cdv A outer s H E).nox (defBody st) t ∧ t { nx := fun _ H' => Q .non H', rt := Q } (start N vs) H) : FnOk P w K mg base CX0 (k + 1) f fd ps sp := by
  obtain ⟨oc, od, kV, doc, pm, an, cdv, ct, osl, rfl, lk, hcd⟩ := F.ex
  refine fn_of lk hcd S len fun A outer s H vs Q E hr hsp => ?_
  obtain ⟨t, h, q⟩ := hbody cdv A outer s H vs Q E hr hsp
  exact ⟨t, h.nox, q⟩
theorem fun_mk {x qual : Str} {st : Stmt} {f : Addr} {oc : Value} {od an : Option Addr} {osl : Array (Option Value)} {kV doc pm cdv ct : Value} (l : K.lookup f = some ⟨oc, od, .func (PySem.W.fnOf x qual (defArgs st) (defBody st) (defScope st) .none kV doc pm an cdv ct), osl⟩)
    (c : PySem.W.codeIn K cdv qual = true) (k : PySem.W.keepIn K (.ref f) = true) : Fun K x qual st f (PySem.W.fnOf x qual (defArgs st) (defBody st) (defScope st) .none kV doc pm an cdv ct) := ⟨⟨oc, od, kV, doc, pm, an, cdv, ct, osl, rfl, l, c⟩, k⟩
end
/-! ### expressions in short: the name that stands in the i-th slot -/
section
variable {X : Cx}
theorem pv (i : Nat) {x : Str} {pos : Pos} (hN : X.N[i]? = some x := by rfl) (hv : Vis X.env.scope x := by first | exact Or.inl rfl | exact Or.inr (Or.inl rfl) | exact Or.inr (Or.inr rfl)) (hd : (x == ("__debug__" : Str)) = false := by decide)
    (hcd : (x == ("__classdict__" : Str)) = false := by decide) : PE X (.Name x pos) (tVar i) := pe_var hN hv hd hcd
end

/-! ### tests -/
theorem iteF {A B : Prop} (h : B) : if false = true then A else B := by
  rw [if_neg Bool.false_ne_true]
  exact h
theorem iteT {A B : Prop} (h : A) : if true = true then A else B := by
  rw [if_pos rfl]
  exact h
theorem ite2 {c A B : Prop} [Decidable c] (h1 : c → A) (h2 : ¬ c → B) : if c then A else B := by
  by_cases h : c
  · rw [if_pos h]
    exact h1 h
  · rw [if_neg h]
    exact h2 h
/-! ### heaps -/
/-- all that was tracked is as it was -/
def Same (H H' : Hp) : Prop := ∀ b o, H b = some o → H' b = some o
theorem Same.refl (H : Hp) : Same H H := fun _ _ h => h
theorem Same.trans {H H1 H2 : Hp} (a : Same H H1) (b : Same H1 H2) : Same H H2 := fun c o h => b c o (a c o h)
theorem Same.free {H H' : Hp} (e : Same H H') {l : Addr} (h : H' l = Option.none) : H l = Option.none := by
  cases q : H l with
  | none => rfl
  | some o =>
    rw [e l o q] at h
    cases h
theorem Same.seq {K : PySem.W.Frag} {H H' : Hp} {a : Addr} {xs : List V} (e : Same H H') (h : SqL K H a xs) : SqL K H' a xs := by
  rcases h with (h | ⟨o, h⟩) | h
  · exact .inl (.inl (e _ _ h))
  · exact .inl (.inr ⟨o, e _ _ h⟩)
  · exact .inr h

end L2

namespace L2
open PySem PySem.Spec PyProof.Rows

/-! ### lists of pairs as tables -/
section
variable {κ : Type} [DecidableEq κ]
def valV (kvs : List (κ × V)) (k : κ) : Option V := (kvs.find? fun kv => decide (kv.1 = k)).map (·.2)
/-- in its place, or at the end -/
def putK (kvs : List (κ × V)) (k : κ) (v : V) : List (κ × V) :=
  if (kvs.any fun kv => decide (kv.1 = k)) = true then kvs.map (fun kv => if kv.1 = k then (kv.1, v) else kv) else kvs ++ [(k, v)]
def dropK (kvs : List (κ × V)) (k : κ) : List (κ × V) := kvs.filter fun kv => decide (kv.1 ≠ k)

theorem valV_nil {k : κ} : valV ([] : List (κ × V)) k = none := rfl
end


/-! ### a tracked dict, its keys ints and texts or tuples of these -/
/-- raw entries of a dict with tuple keys -/
abbrev KT (H : Hp) : List (List Key × V) → List (List Key × Addr × Value) → Prop := Paired fun p q => p.1 = q.1 ∧ H q.2.1 = some (.tup (p.1.map kV)) ∧ RelV p.2 q.2.2
section
variable {P : Program} {w : World} {H : Hp} {h : Heap} {a : Addr}
end

/-- what the dict at a holds at the key y -/
def DGet (H : Hp) (a : Addr) (y : V) (r : Option V) : Prop :=
  (∃ kvs k, Rd H a (.dK kvs) ∧ y = kV k ∧ r = valV kvs k) ∨ ∃ kvs k b, Rd H a (.dT kvs) ∧ y = .ref b ∧ H b = some (.tup (k.map kV)) ∧ r = valV kvs k
/-- the heap behind a[y] = v -/
def DPut (H : Hp) (a : Addr) (y v : V) (H' : Hp) : Prop :=
  (∃ kvs k, H a = some (.dK kvs) ∧ y = kV k ∧ kvs.length < sizeLine ∧ H' = upd H a (.dK (putK kvs k v))) ∨
  ∃ kvs k b, H a = some (.dT kvs) ∧ y = .ref b ∧ H b = some (.tup (k.map kV)) ∧ kvs.length < sizeLine ∧ H' = upd H a (.dT (putK kvs k v))
section
variable {X : Cx} {pins : List (Addr × Obj)} {σ : St} {H : Hp} {s : Shared} {a : Addr} {y v : V} {u r : Value} {o : Option V} {A : Around} {E : Value → Shared → Prop}

end

section
variable {X : Cx} {pins : List (Addr × Obj)} {σ : St} {H : Hp} {s : Shared} {a : Addr} {kvs : List (Key × V)} {k : Key} {u : Value} {A : Around} {E : Value → Shared → Prop}
end


/-! ### readings and rules -/
/-- the element of a subscription, not a slice -/
def NoSl (i : Expr) : Prop := ∀ ov iv, subscripted i false ov iv = operate [ov, iv] (getItem ov iv)
/-- d[y] -/
def tDGet (td ty : TE) : TE := fun σ H Q => td σ H fun x H1 => ty σ H1 fun y H2 => ∃ a v, x = .ref a ∧ DGet H2 a y (some v) ∧ Q v H2
/-- y in d, y not in d -/
def tDIn (ty td : TE) : TE := fun σ H Q => ty σ H fun y H1 => td σ H1 fun x H2 => ∃ a o, x = .ref a ∧ DGet H2 a y o ∧ Q (.bl o.isSome) H2
def tDNotIn (ty td : TE) : TE := fun σ H Q => ty σ H fun y H1 => td σ H1 fun x H2 => ∃ a o, x = .ref a ∧ DGet H2 a y o ∧ Q (.bl (!o.isSome)) H2
/-- d[y] = v -/
def sDPut (td ty tv : TE) : TS := fun D σ H => tv σ H fun v H1 => td σ H1 fun x H2 => ty σ H2 fun y H3 => ∃ a H4, x = .ref a ∧ DPut H3 a y v H4 ∧ D.nx σ H4
/-- d[y] op= v -/
def sDAug (td ty tv : TE) (rd : V → V → Hp → VK → Prop) : TS := fun D σ H => td σ H fun x H1 => ty σ H1 fun y H2 => ∃ a v, x = .ref a ∧ DGet H2 a y (some v) ∧
  tv σ H2 fun y2 H3 => rd v y2 H3 fun z H4 => ∃ H5, DPut H4 a y z H5 ∧ D.nx σ H5
/-- del d[y] -/
def sDDel (td ty : TE) : TS := fun D σ H => td σ H fun x H1 => ty σ H1 fun y H2 => ∃ a kvs k, x = .ref a ∧ H2 a = some (.dK kvs) ∧ y = kV k ∧ (valV kvs k).isSome = true ∧ D.nx σ (upd H2 a (.dK (dropK kvs k)))

section
variable {X : Cx} {o i e value : Expr} {pos pos' tpos : Pos} {td ty tv : TE}
end


/-! ### displays -/
/-- {}, to be a dict of the kind that is wanted -/
def tDNewK : TE := fun _ H Q => ∀ p, H p = none → Q (.ref p) (upd H p (.dK []))
def tDNewT : TE := fun _ H Q => ∀ p, H p = none → Q (.ref p) (upd H p (.dT []))
section
variable {X : Cx} {pos : Pos}
end

/-- the pairs of a display, from the left -/
def tPairs : List (TE × TE) → St → Hp → (List (V × V) → Hp → Prop) → Prop
  | [], _, H, Q => Q [] H
  | (tk, tv) :: r, σ, H, Q => tk σ H fun x H1 => tv σ H1 fun y H2 => tPairs r σ H2 fun ps H3 => Q ((x, y) :: ps) H3
abbrev VV : List (V × V) → List (Value × Value) → Prop := Paired fun p q => RelV p.1 q.1 ∧ RelV p.2 q.2
def PPs (X : Cx) (pos : Pos) (keys : List (Option Expr)) (values : List Expr) (trs : List (TE × TE)) : Prop :=
  ∀ (pins : List (Addr × Obj)) (s : Shared) (σ : St) (H : Hp) (Q : List (V × V) → Hp → Prop), Inv X pins σ H s → tPairs trs σ H Q →
    wpAny (model X.prog X.w) X.A (evalPairs (pairTrees keys values X.env pos)) (fun vs s' => ∃ ps H', Inv X pins σ H' s' ∧ VV ps vs ∧ Q ps H') X.xe s
def mergeK (kvs more : List (Key × V)) : List (Key × V) := more.foldl (fun acc kv => putK acc kv.1 kv.2) kvs
/-- {k: v, ..} with keys ints and texts; the new dict stands empty while the pairs are made -/
def tDisp (trs : List (TE × TE)) : TE := fun σ H Q => ∀ p, H p = none → tPairs trs σ (upd H p (.dK [])) fun ps H2 => H2 p = some (.dK []) ∧ ∃ kvs : List (Key × V), ps = kvs.map (fun kv => (kV kv.1, kv.2)) ∧ kvs.length ≤ 15 ∧ Q (.ref p) (upd H2 p (.dK (mergeK [] kvs)))
/-! ### methods -/
/-- a method call o.m(e) of a built-in, with one argument: what must be seen of the text -/
structure M1 (X : Cx) (o : Expr) (m : Str) (apos : Pos) (e : Expr) (cpos : Pos) : Prop where
  base : attributeBase o m X.env (eval o X.env) = eval o X.env
  few : ((backTo cpos (starEach [e] X.env)).all (fun x => !x.1) && (backToKw cpos (keywordEach [] X.env)).all (fun x => x.1.isSome)
    && decide (([e] : List Expr).length + ([] : List Keyword).length + (if ([] : List Keyword).isEmpty then 0 else 1) < 30)) = true
  line : (apos.endLine == cpos.line) = true
  trees : backTo cpos (starEach [e] X.env) = [(false, eval e X.env)]
structure M2 (X : Cx) (o : Expr) (m : Str) (apos : Pos) (e f : Expr) (cpos : Pos) : Prop where
  base : attributeBase o m X.env (eval o X.env) = eval o X.env
  few : ((backTo cpos (starEach [e, f] X.env)).all (fun x => !x.1) && (backToKw cpos (keywordEach [] X.env)).all (fun x => x.1.isSome)
    && decide (([e, f] : List Expr).length + ([] : List Keyword).length + (if ([] : List Keyword).isEmpty then 0 else 1) < 30)) = true
  line : (apos.endLine == cpos.line) = true
  trees : backTo cpos (starEach [e, f] X.env) = [(false, eval e X.env), (false, eval f X.env)]

/-- a is a dict, whatever its keys -/
def IsD (H : Hp) (a : Addr) : Prop := (∃ kvs, Rd H a (.dK kvs)) ∨ ∃ kvs, Rd H a (.dT kvs)
section
variable {X : Cx} {pins : List (Addr × Obj)} {σ : St} {H : Hp} {s : Shared} {a : Addr} {y d : V} {u r : Value} {o : Option V} {A : Around} {E : Value → Shared → Prop}
end

def tDGet1 (td ty : TE) : TE := fun σ H Q => td σ H fun x H1 => ∃ a, x = .ref a ∧ IsD H1 a ∧ ty σ H1 fun y H2 => ∃ o, DGet H2 a y o ∧ Q (o.getD .non) H2
def tDGet2 (td ty tx : TE) : TE := fun σ H Q => td σ H fun x H1 => ∃ a, x = .ref a ∧ IsD H1 a ∧ ty σ H1 fun y H2 => tx σ H2 fun z H3 => ∃ o, DGet H3 a y o ∧ Q (o.getD z) H3
/-- d.pop(k): there; d.pop(k, x): there or not -/
def tDPop1 (td ty : TE) : TE := fun σ H Q => td σ H fun x H1 => ∃ a, x = .ref a ∧ IsD H1 a ∧ ty σ H1 fun y H2 => ∃ kvs k v, H2 a = some (.dK kvs) ∧ y = kV k ∧ valV kvs k = some v ∧ Q v (upd H2 a (.dK (dropK kvs k)))
def tDPop2 (td ty tx : TE) : TE := fun σ H Q => td σ H fun x H1 => ∃ a, x = .ref a ∧ IsD H1 a ∧ ty σ H1 fun y H2 => tx σ H2 fun z H3 => ∃ kvs k, H3 a = some (.dK kvs) ∧ y = kV k ∧
  (∀ v, valV kvs k = some v → Q v (upd H3 a (.dK (dropK kvs k)))) ∧ (valV kvs k = none → Q z H3)
section
variable {X : Cx} {o e f : Expr} {apos cpos : Pos} {td ty tx : TE}
end

/-! ### dict(d): a copy -/
section
variable {X : Cx} {pins : List (Addr × Obj)} {σ : St} {H : Hp} {s : Shared} {a : Addr} {kvs : List (Key × V)} {A : Around} {E : Value → Shared → Prop}
end


section
variable {X : Cx} {pins : List (Addr × Obj)} {σ : St} {H : Hp} {s : Shared} {a : Addr} {y : V} {u : Value} {A : Around} {E : Value → Shared → Prop}
end
end L2
namespace L2
open PySem PySem.Spec PyProof.Rows

/-! ### comprehensions -/
theorem nof {α : Type} {M : Model} {A : Around} {t : Sem α} {Q : α → Shared → Prop} {E : Value → Shared → Prop} {s : Shared} (h : wpAny M A t Q (fun _ _ => False) s) : wpAny M A t Q E s :=
  wpAny_mono h (fun _ _ x => x) fun _ _ f => f.elim

/-- the tests of a clause -/
def PTs (X : Cx) (ifs : List Expr) (t : TT) : Prop :=
  ∀ (pins : List (Addr × Obj)) (s : Shared) (σ : St) (H : Hp) (Q : Bool → Hp → Prop), Inv X pins σ H s → t σ H Q →
    wpAny (model X.prog X.w) X.A (forIn ifs true fun c r => if r = true then do let ok ← isTrue c X.env (eval c X.env); pure (ForInStep.yield ok) else pure (ForInStep.yield r)) (TP X pins σ Q) X.xe s
def tYes : TT := fun _ H Q => Q true H
theorem pts_nil {X : Cx} : PTs X [] tYes := fun _ _ _ H _ I h => wpAny_tests_nil ⟨H, I, h⟩
theorem pts_one {X : Cx} {c : Expr} {t : TT} (h : PT X c t) : PTs X [c] t := fun pins s σ H Q I hq => wpAny_tests_one (h pins s σ H Q I hq)

/-- the block's names at its start: its own one, then those of the frame around -/
def cst (ix : List Nat) (σ : St) : St := none :: ix.map fun j => (σ[j]?).getD none

/-- the context of a comprehension's block -/
def cmpCx (X : Cx) (Nc : List Str) (scope : Scope) (cl : List (Str × Addr)) (C : Addr) (fp : List Addr) (s : Shared) (H : Hp) : Cx where
  prog := X.prog
  w := X.w
  K := X.K
  mg := X.mg
  base := X.base
  A := X.A
  N := Nc
  s₀ := s
  H₀ := H
  env := compEnvC scope cl C X.env
  outer := X.stack
  stack := X.stack
  ex := fp
  fn := fun _ => false
  calm := X.calm
  pn := []
  xe := fun _ _ => False

/-- each name of the frame around that the block reads -/
def FreeOk (X : Cx) (scope : Scope) (cl : List (Str × Addr)) : List Str → List Nat → Prop
  | [], [] => True
  | y :: ys, i :: ix => (X.N[i]? = some y ∧ X.env.kindOf y = some .cell ∧ cl.lookup y = X.env.cells.lookup y ∧ (relabel scope X.env).names.lookup y = some .cell) ∧ FreeOk X scope cl ys ix
  | _, _ => False
theorem FreeOk.len {X : Cx} {scope : Scope} {cl : List (Str × Addr)} : ∀ {ys : List Str} {ix : List Nat}, FreeOk X scope cl ys ix → ix.length = ys.length
  | [], [], _ => rfl
  | _ :: _, _ :: _, h => by simp [FreeOk.len h.2]
  | [], _ :: _, h => h.elim
  | _ :: _, [], h => h.elim
theorem FreeOk.at {X : Cx} {scope : Scope} {cl : List (Str × Addr)} : ∀ {ys : List Str} {ix : List Nat}, FreeOk X scope cl ys ix → ∀ (j : Nat) (y : Str), ys[j]? = some y →
    ∃ i, ix[j]? = some i ∧ X.N[i]? = some y ∧ X.env.kindOf y = some .cell ∧ cl.lookup y = X.env.cells.lookup y ∧ (relabel scope X.env).names.lookup y = some .cell
  | [], [], _, j, y, e => by simp at e
  | z :: _, i :: _, h, 0, y, e => by
    simp at e
    subst e
    exact ⟨i, rfl, h.1⟩
  | _ :: _, _ :: _, h, j + 1, y, e => by
    obtain ⟨i, e1, e2⟩ := FreeOk.at h.2 j y (by simpa using e)
    exact ⟨i, by simpa using e1, e2⟩
  | [], _ :: _, h, _, _, _ => h.elim
  | _ :: _, [], h, _, _, _ => h.elim

def SubOk (X : Cx) : List (Str × Addr) → Prop
  | [] => True
  | p :: r => X.env.cells.lookup p.1 = some p.2 ∧ SubOk X r
theorem SubOk.mem {X : Cx} : ∀ {cl : List (Str × Addr)}, SubOk X cl → ∀ p ∈ cl, X.env.cells.lookup p.1 = some p.2
  | [], _, p, hp => absurd hp (by simp)
  | _ :: _, h, p, hp => by
    rcases List.mem_cons.mp hp with e | e
    · subst e; exact h.1
    · exact SubOk.mem h.2 p e
structure CompNames (X : Cx) (scope : Scope) (cl : List (Str × Addr)) (x : Str) (ys : List Str) (ix : List Nat) : Prop where
  clos : closureFor scope X.env = pure cl
  cell : (scope.names.all fun y => !(y.2 == NameKind.cell)) = true
  kind : scope.kind = .function
  names : (scope.names.all fun y => !(y.2 == NameKind.local) || scope.names.lookup y.1 == some NameKind.local) = true
  hx : scope.names.lookup x = some .local
  nd : (x :: ys).Nodup
  sub : SubOk X cl
  has : ((relabel scope X.env).names.all fun p => !(p.2 == NameKind.cell || p.2 == NameKind.free) || (cl.lookup p.1).isSome) = true
  free : FreeOk X scope cl ys ix

theorem lookup_mem {α β : Type} [BEq α] [LawfulBEq α] {k : α} {v : β} : ∀ {l : List (α × β)}, l.lookup k = some v → (k, v) ∈ l
  | [], h => by simp at h
  | (a, b) :: r, h => by
    rw [List.lookup_cons] at h
    cases q : k == a with
    | true =>
      rw [q] at h
      have e := eq_of_beq q
      subst e
      cases h
      exact List.mem_cons_self
    | false =>
      rw [q] at h
      exact List.mem_cons_of_mem _ (lookup_mem h)

section
variable {X : Cx} {scope : Scope} {cl : List (Str × Addr)} {x : Str} {ys : List Str} {ix : List Nat}
theorem CompNames.sub' (n : CompNames X scope cl x ys ix) : ∀ y c, cl.lookup y = some c → X.env.cells.lookup y = some c := fun y c e => by
  exact n.sub.mem (y, c) (lookup_mem e)
theorem CompNames.has' (n : CompNames X scope cl x ys ix) : ∀ y, ((relabel scope X.env).names.lookup y = some .cell ∨ (relabel scope X.env).names.lookup y = some .free) → ∃ c, cl.lookup y = some c := fun y h => by
  have : ∃ k : NameKind, (y, k) ∈ (relabel scope X.env).names ∧ (k = .cell ∨ k = .free) := by
    rcases h with h | h
    · exact ⟨_, lookup_mem h, .inl rfl⟩
    · exact ⟨_, lookup_mem h, .inr rfl⟩
  obtain ⟨k, hm, hk⟩ := this
  have q := List.all_eq_true.mp n.has (y, k) hm
  have : (k == NameKind.cell || k == NameKind.free) = true := by
    rcases hk with rfl | rfl <;> decide
  simp only [this, Bool.not_true, Bool.false_or] at q
  exact Option.isSome_iff_exists.mp q
theorem CompNames.cell' (n : CompNames X scope cl x ys ix) : ∀ y ∈ scope.names, y.2 ≠ .cell := fun y hy e => by
  have q := List.all_eq_true.mp n.cell y hy
  rw [e] at q
  exact absurd q (by decide)
theorem CompNames.names' (n : CompNames X scope cl x ys ix) : ∀ y ∈ scope.names, y.2 = .local → scope.names.lookup y.1 = some .local := fun y hy e => by
  have q := List.all_eq_true.mp n.names y hy
  rw [e] at q
  have z : (NameKind.local == NameKind.local) = true := by decide
  simp only [z, Bool.not_true, Bool.false_or] at q
  exact eq_of_beq q
end

/-- [te for x in wi if tt]: W the turn, a measure, what is gathered, the heap -/
def tComp (wi : TI) (ix : List Nat) (tt : TT) (te : TE) : TE := fun σ H Q => wi σ H fun J H1 => ∃ W : Nat → Nat → List V → Hp → Prop, (∃ m, W 0 m [] H1) ∧ ∀ i m ys H2, W i m ys H2 →
  (J.stop i H2 ∧ ys.length ≤ sizeLine ∧ ∀ p, H2 p = none → Q (.ref p) (upd H2 p (.lst ys))) ∨
  (J.go i H2 ∧ ys.length ≤ sizeLine ∧ ∀ x H3, J.yld i H2 x H3 → tt ((cst ix σ).set 0 (some x)) H3 fun b H4 =>
    if b = true then te ((cst ix σ).set 0 (some x)) H4 fun v H5 => ∃ m', m' < m ∧ W (i + 1) m' (ys ++ [v]) H5 else ∃ m', m' < m ∧ W (i + 1) m' ys H4)

section
variable {X : Cx} {scope : Scope} {cl : List (Str × Addr)} {x : Str} {ys : List Str} {ix : List Nat}

theorem cmp_start {pins : List (Addr × Obj)} {σ : St} {H : Hp} {s : Shared} {fp : List Addr} {D C : Addr} {h₁ : Heap} {tk : Nat} {ob : Obj} {m : Str → Option Value} (n : CompNames X scope cl x ys ix) (I : Inv X pins σ H s)
    (f : ∀ b ∈ fp, FpOk X pins H b) (fo : ∀ b ∈ fp, b < s.heap.objs.size) (hD : s.heap.objs.size ≤ D) (hC : s.heap.objs.size ≤ C) (hDC : D ≠ C) (old : ∀ b o, s.heap.get? b = some o → h₁.get? b = some o) (hns : h₁.Ns C m) (hob : h₁.get? D = some ob)
    (hcell : ∀ v, ob.data ≠ .cell v) : Inv (cmpCx X (x :: ys) scope cl C fp s H) [(D, ob)] (cst ix σ) H { s with heap := h₁, toks := tk } := by
  have nst : ∀ b, s.heap.objs.size ≤ b → b ∉ frs X.stack := fun b hb z => by
    rcases List.mem_cons.mp (I.stkSub b z) with e | e
    · exact absurd (Nat.lt_of_lt_of_le I.lt (by rw [← e]; exact hb)) (Nat.lt_irrefl _)
    · exact I.nofs hb e
  have lt_cell : ∀ y c, cl.lookup y = some c → c < s.heap.objs.size := fun y c e => by
    obtain ⟨v, q⟩ := I.cell y c (n.sub' y c e)
    exact q.lt
  refine ⟨⟨I.ok.mod, n.kind, I.ok.glob, I.ok.blt, hC, fun y z c h1 h2 => I.ok.inj y z c (n.sub' y c h1) (n.sub' z c h2), n.has', (fun y c h => absurd (show false = true from h) (by decide)), I.ok.hd, I.ok.frames, .inl rfl, fun b hb => ⟨?_, fun y c e => ?_⟩, I.bs,
    Nat.le_trans I.ok.bsz I.sz, fun b o e hb => ?_, fun b hb z => ?_, I.stack, I.stkFree⟩, rfl, I.bare, Un.kept old, ⟨m, hns, fun i y v h1 h2 h3 => ?_⟩, fun y c e => ?_, I.hok.fresh hC, fun y c e => I.freeC y c (n.sub' y c e), fun p hp => ?_, I.hok.kept old, ?_⟩
  · exact Nat.ne_of_lt (Nat.lt_of_lt_of_le (fo b hb) hC)
  · exact (f b hb).2.2.2.2.1 y c (n.sub' y c e)
  · rcases (f b hb).2.2.2.1 with z | z
    · exact I.ok.noex b o e z
    · exact absurd (Nat.lt_of_lt_of_le (Heap.lt_size e) (Nat.le_trans I.ok.bsz z)) (Nat.lt_irrefl _)
  · rcases List.mem_cons.mp (I.stkSub b z) with e | e
    · exact (f b hb).2.1 e
    · exact (f b hb).2.2.1 e
  · cases i with
    | zero =>
      have h2' : (none : Option V) = some v := Option.some.inj h2
      cases h2'
    | succ j =>
      have h1' : ys[j]? = some y := h1
      obtain ⟨i, e1, e2, e3, e4, e5⟩ := n.free.at j y h1'
      have h2' : (ix.map fun j => (σ[j]?).getD none)[j]? = some (some v) := by simpa [cst] using h2
      rw [List.getElem?_map, e1] at h2'
      have h2'' : (σ[i]?).getD none = some v := Option.some.inj h2'
      have h4 : σ[i]? = some (some v) := by
        cases q : σ[i]? with
        | none => rw [q] at h2''; cases h2''
        | some o => rw [q] at h2''; exact congrArg some h2''
      obtain ⟨m', hn', hl⟩ := I.loc
      obtain ⟨u, r, look⟩ := hl i y v e2 h4 (.inr (.inl e3))
      refine ⟨u, r, .inr ⟨.inl e5, ?_⟩⟩
      rcases look with ⟨k, _⟩ | ⟨_, c, e, z⟩
      · rw [e3] at k; cases k
      · refine ⟨c, e4.trans e, ?_⟩
        obtain ⟨o, ho, hd⟩ := z
        exact ⟨o, old _ _ ho, hd⟩
  · obtain ⟨v, o, ho, hd⟩ := I.cell y c (n.sub' y c e)
    exact ⟨v, o, old _ _ ho, hd⟩
  · have hp' : p ∈ [(D, ob)] := hp
    have e := List.mem_singleton.mp hp'
    subst e
    exact ⟨hob, I.hok.fresh hD, hDC, nst D hD, hcell⟩
  · show (none :: ix.map _).length = (x :: ys).length
    simp [n.free.len]

/-- a comprehension's block, whatever is done with the list behind it -/
theorem comp_block {elt iter : Expr} {ifs : List Expr} {px pos : Pos} {tt : TT} {te : TE} {pins : List (Addr × Obj)} {σ : St} {H2 : Hp} {s2 : Shared} {it : Addr} {fp : List Addr} {tn : Nat → Heap → Prop} {J : It} {W : Nat → Nat → List V → Hp → Prop} {m0 : Nat} {Z : List V → Hp → Prop} {RR : Value → Addr → Result → Shared → Prop}
    {E : Value → Shared → Prop} (n : CompNames X scope cl x ys ix) (hc : X.calm = true)
    (ht : ∀ C fp s H, PTs (cmpCx X (x :: ys) scope cl C fp s H) ifs tt) (he : ∀ C fp s H, PE (cmpCx X (x :: ys) scope cl C fp s H) elt te)
    (I2 : Inv X pins σ H2 s2) (T : Turn X.prog X.w X.K (.Name x px) J fp it tn) (st2 : tn 0 s2.heap) (f2 : ∀ b ∈ fp, FpOk X pins H2 b) (w0 : W 0 m0 [] H2)
    (turn : ∀ i m ys H2, W i m ys H2 → (J.stop i H2 ∧ ys.length ≤ sizeLine ∧ Z ys H2) ∨ (J.go i H2 ∧ ys.length ≤ sizeLine ∧ ∀ x H3, J.yld i H2 x H3 → tt ((cst ix σ).set 0 (some x)) H3 fun b H4 =>
      if b = true then te ((cst ix σ).set 0 (some x)) H4 fun v H5 => ∃ m', m' < m ∧ W (i + 1) m' (ys ++ [v]) H5 else ∃ m', m' < m ∧ W (i + 1) m' ys H4))
    (hRR : ∀ (D C : Addr) (s4 : Shared) (H3 : Hp) (zs : List V) (m : Str → Option Value), Inv X pins σ (upd H3 D (.lst zs)) s4 → s4.heap.Ns C m → FpOk X pins (upd H3 D (.lst zs)) C → H3 D = none → Z zs H3 → RR (.ref D) C (.ok .next) s4) :
    wpAny (model X.prog X.w) X.A (newList []) (fun acc s₃ => wpAny (model X.prog X.w) X.A (newFunctionEnv scope X.env.globals cl [] X.env.qual none .none (some X.env)) (fun cenv s₄ =>
      codeAny (model X.prog X.w) X.A (.compStart (.ListComp elt [⟨.Name x px, iter, ifs, 0⟩] scope pos) 0 (.ref it) acc { cenv with scope := relabel scope X.env }) (RR acc cenv.locals) s₄) E s₃) E s2 := by
  have fo : ∀ b ∈ fp, b < s2.heap.objs.size := fun b hb => let ⟨_, e, _⟩ := T.obj _ _ st2 b hb; Heap.lt_size e
  refine wpAny_newObj_type (wpAny_newFunctionEnv n.cell' (by intro y hy; simp at hy) (fun h₁ hns₁ hsb₁ => ?_) n.kind)
  dsimp only at hns₁ hsb₁ ⊢
  generalize hH3 : s2.heap.push { cls := .type "list", dict := none, data := .seq ([] : List Value).toArray } = G at hns₁ hsb₁ ⊢
  have hC : G.objs.size = s2.heap.objs.size + 1 := by rw [← hH3, Heap.size_push]
  have hDC : s2.heap.objs.size ≠ G.objs.size := by rw [hC]; exact Nat.ne_of_lt (Nat.lt_succ_self _)
  have hCle : s2.heap.objs.size ≤ G.objs.size := by rw [hC]; exact Nat.le_succ _
  have below : ∀ b, b < s2.heap.objs.size → b ≠ G.objs.size ∧ b ≠ s2.heap.objs.size := fun b hb => ⟨by rw [hC]; exact Nat.ne_of_lt (Nat.lt_succ_of_lt hb), Nat.ne_of_lt hb⟩
  have old : ∀ b o, s2.heap.get? b = some o → h₁.get? b = some o := fun b o e => hsb₁.extBut b o (below b (Heap.lt_size e)).1 (Heap.get?_push_of_some _ (hH3 ▸ Heap.get?_push_of_some _ e))
  have hacc : h₁.get? s2.heap.objs.size = some { cls := .type "list", data := .seq ([] : List Value).toArray 0 } := hsb₁.extBut _ _ hDC (Heap.get?_push_of_some _ (hH3 ▸ Heap.get?_push_size _ rfl))
  have st1 : tn 0 h₁ := T.keep _ _ _ st2 fun b _ o e => old b o e
  have stat : ∀ {H' : Hp} {ob : Obj}, (∀ b ∈ fp, H' b = none) → ∀ b ∈ fp, FpOk (cmpCx X (x :: ys) scope cl G.objs.size fp s2 H2) [(s2.heap.objs.size, ob)] H' b := fun {H' ob} hn b hb =>
    ⟨hn b hb, (below b (fo b hb)).1, fun z => by
      rcases List.mem_cons.mp (I2.stkSub b z) with e | e
      · exact (f2 b hb).2.1 e
      · exact (f2 b hb).2.2.1 e, .inl hb, fun y c e => (f2 b hb).2.2.2.2.1 y c (n.sub' y c e), fun p hp => by
      have hp' : p ∈ [(s2.heap.objs.size, ob)] := hp
      have e := List.mem_singleton.mp hp'
      subst e
      exact Ne.symm (below b (fo b hb)).2⟩
  have hfin : ∀ (s4 : Shared) (H3 : Hp) (zs : List V) (its : List Value) (k : Nat) (m' : Str → Option Value), Inv (cmpCx X (x :: ys) scope cl G.objs.size fp s2 H2) [(s2.heap.objs.size, { cls := .type "list", data := .seq its.toArray k })] (cst ix σ) H3 s4 → Vals zs its →
      zs.length ≤ sizeLine → Z zs H3 → RR (.ref s2.heap.objs.size) G.objs.size (.ok .next) s4 := by
    intro s4 H3 zs its k m' I4 rv hz q
    obtain ⟨m4, hn4, _⟩ := I4.loc
    obtain ⟨eD, nD, _, _, _⟩ := I4.pin (s2.heap.objs.size, { cls := .type "list", data := .seq its.toArray k }) (by show _ ∈ [] ++ [_]; simp)
    have nC : H3 G.objs.size = none := I4.free
    have hok : HOk X.prog X.w (upd H3 s2.heap.objs.size (.lst zs)) s4.heap := fun b u e => by
      by_cases hb : b = s2.heap.objs.size
      · subst hb
        rw [upd_same] at e
        cases e
        exact ⟨hz, its, k, rv, eD⟩
      · rw [upd_ne hb] at e
        exact (I4.hok b u e).stay (fun c w hc qq => qq) (fun c qq => by rw [upd_ne (ne_of_none qq nD)]; exact qq) fun c xs qq => by rw [upd_ne (ne_of_none qq nD)]; exact qq
    have un : Un (frs X.stack) fp H2 (upd H3 s2.heap.objs.size (.lst zs)) s2.heap s4.heap := by
      have u4 : Un (frs X.stack) fp H2 H3 s2.heap s4.heap := I4.base
      refine ⟨u4.keep, u4.slot, fun b o e nn hx => ?_, u4.there, fun b xs e => ?_, fun b o u e => ?_, fun b ps e => ?_⟩
      · rw [upd_ne (below b (Heap.lt_size e)).2]
        exact u4.free b o e nn hx
      · have z := u4.tups b xs e
        rw [upd_ne (ne_of_none z nD)]
        exact z
      · have z := u4.frzs b o u e
        rw [upd_ne (ne_of_none z nD)]
        exact z
      · obtain ⟨more, z⟩ := u4.tbls b ps e
        exact ⟨more, by rw [upd_ne (ne_of_none z nD)]; exact z⟩
    have I5 : Inv X pins σ (upd H3 s2.heap.objs.size (.lst zs)) s4 := I2.call' (ch := fp) I4.os un hok I4.bare (fun b hb => ⟨(f2 b hb).2.2.2.1, (f2 b hb).2.1, (f2 b hb).2.2.2.2.1, (f2 b hb).2.2.2.2.2⟩)
    exact hRR _ _ s4 H3 zs m4 I5 hn4 (I2.fpOk hCle (by rw [upd_ne (Ne.symm hDC)]; exact nC)) nD q
  have loop : ∀ s₃ : Shared, s₃ = { s2 with heap := h₁, toks := s2.toks + ([] : List (Str × Value)).length } →
      codeAny (model X.prog X.w) X.A (.compLoop (.ListComp elt [⟨.Name x px, iter, ifs, 0⟩] scope pos) 0 (.ref it) (.ref s2.heap.objs.size) (compEnvC scope cl G.objs.size X.env))
        (RR (.ref s2.heap.objs.size) G.objs.size) s₃ := by
    rintro s₃ rfl
    refine codeAny_compLoop_tests (fun m s' => ∃ (i : Nat) (zs : List V) (its : List Value) (k : Nat) (H' : Hp),
        Inv (cmpCx X (x :: ys) scope cl G.objs.size fp s2 H2) [(s2.heap.objs.size, { cls := .type "list", data := .seq its.toArray k })] (cst ix σ) H' s' ∧ Vals zs its ∧ tn i s'.heap ∧ (∀ b ∈ fp, H' b = none) ∧ W i m zs H') ?_ m0
      ⟨0, [], [], 0, H2, cmp_start n I2 f2 fo (Nat.le_refl _) hCle hDC old hns₁ hacc (fun v z => by cases z), .nil, st1, fun b hb => (f2 b hb).1, w0⟩
    rintro m s3 ⟨i, zs, its, k, H3, I3, rv, st3, fr3, w3⟩
    rcases turn i m zs H3 w3 with ⟨stop, hz, qn⟩ | ⟨go, hz, step⟩
    · refine nof (thn (T.done (cmpCx X (x :: ys) scope cl G.objs.size fp s2 H2) rfl rfl rfl hc i _ s3 _ H3 _ I3 (stat fr3) st3 stop) fun r s4 ⟨hr, I4⟩ => ?_)
      subst hr
      exact hfin s4 H3 zs its k (fun _ => none) I4 rv hz qn
    · refine nof (thn (T.item (cmpCx X (x :: ys) scope cl G.objs.size fp s2 H2) rfl rfl rfl hc i _ s3 _ H3 _ I3 (stat fr3) st3 go) fun r s4 ⟨u, hr, h4⟩ => ?_)
      subst hr
      have go_on : ∀ {s5 s7 : Shared} {y : V} {H5 H7 : Hp}, (∀ b ∈ fp, H5 b = none) → tn (i + 1) s5.heap → Inv (cmpCx X (x :: ys) scope cl G.objs.size fp s2 H2) ([(s2.heap.objs.size, { cls := .type "list", data := .seq its.toArray k })] ++ pinsAt fp s5.heap) ((cst ix σ).set 0 (some y)) H7 s7 →
          Inv (cmpCx X (x :: ys) scope cl G.objs.size fp s2 H2) [(s2.heap.objs.size, { cls := .type "list", data := .seq its.toArray k })] (cst ix σ) H7 s7 ∧ tn (i + 1) s7.heap ∧ (∀ b ∈ fp, H7 b = none) := by
        intro s5 s7 y H5 H7 fr5 st5 I7
        have pn : ∀ b o, b ∈ fp → s5.heap.get? b = some o → s7.heap.get? b = some o ∧ H7 b = none := fun b o hb e => by
          have z := I7.pin (b, o) (List.mem_append_right _ (List.mem_append_right _ (mem_pinsAt hb e)))
          exact ⟨z.1, z.2.1⟩
        refine ⟨(I7.weak (σ' := cst ix σ) (by simp) fun j v e => ?_).unpinned, T.keep _ _ _ st5 fun b hb o e => (pn b o hb e).1, fun b hb => ?_⟩
        · cases j with
          | zero =>
            have e' : (none : Option V) = some v := Option.some.inj e
            cases e'
          | succ j => simpa [cst] using e
        · obtain ⟨o, e, _⟩ := T.obj _ _ st5 b hb
          exact (pn b o hb e).2
      have e0 : (letOwnedTupleGo (.Name x px) (.ref it) u >>= fun _ => assign (.Name x px) (compEnvC scope cl G.objs.size X.env) u) = assign (.Name x px) (compEnvC scope cl G.objs.size X.env) u := rfl
      show wpAny _ _ (assign (.Name x px) (compEnvC scope cl G.objs.size X.env) u) _ _ s4
      rw [← e0]
      refine nof (wpAny_bind (thn h4 fun _ s5 ⟨y, H5, I5, r5, y5, st5, fr5⟩ => ?_))
      have I5' := I5.pinned (stat fr5) (T.obj _ _ st5)
      have lx : (relabel scope X.env).names.lookup x = some .local := lookup_relabel_local n.hx
      have pg : PG (cmpCx X (x :: ys) scope cl G.objs.size fp s2 H2) (.Name x px) (gName 0) := pg_name n.nd rfl (.inl lx) (.inr lx)
      refine thn (pg _ s5 _ H5 y u (fun σ' H' => σ' = (cst ix σ).set 0 (some y) ∧ H' = H5) I5' r5 ⟨rfl, rfl⟩) fun _ s6 ⟨σ6, H6, I6, e6, e6'⟩ => ?_
      subst e6 e6'
      refine nof (thn (ht _ _ _ _ _ s6 _ _ _ I6 (step y _ y5)) fun b s7 ⟨H7, I7, q7⟩ => ?_)
      cases b with
      | false =>
        rw [if_neg (by decide)] at q7 ⊢
        obtain ⟨m', hm, w7⟩ := q7
        obtain ⟨I8, st8, fr8⟩ := go_on fr5 st5 I7
        exact ⟨m', hm, i + 1, zs, its, k, H7, I8, rv, st8, fr8, w7⟩
      | true =>
        rw [if_pos rfl] at q7 ⊢
        refine nof (thn (he _ _ _ _ _ s7 _ _ _ I7 q7) fun v8 s8 ⟨z8, H8, I8, r8, m', hm, w8⟩ => ?_)
        obtain ⟨I9, st9, fr9⟩ := go_on fr5 st5 I8
        obtain ⟨eD, nD, neL, _, _⟩ := I9.pin (s2.heap.objs.size, { cls := .type "list", data := .seq its.toArray k }) (by show _ ∈ [] ++ [_]; simp)
        refine append_at eD (fun h' hs' hD' => ?_) (by rw [List.size_toArray, ← rv.length]; exact hz)
        have kp : ∀ b o, b ≠ s2.heap.objs.size → s8.heap.get? b = some o → h'.get? b = some o := fun b o hb e => hs'.extBut b o hb e
        have lt_cell : ∀ y c, cl.lookup y = some c → c ≠ s2.heap.objs.size := fun y c e => by
          obtain ⟨v, q⟩ := I2.cell y c (n.sub' y c e)
          exact Nat.ne_of_lt q.lt
        have nst : s2.heap.objs.size ∉ frs X.stack := fun z => by
          rcases List.mem_cons.mp (I2.stkSub _ z) with e | e
          · exact absurd (Nat.lt_of_lt_of_le I2.lt (by rw [← e]; exact Nat.le_refl _)) (Nat.lt_irrefl _)
          · exact I2.nofs (Nat.le_refl _) e
        have I10 : Inv (cmpCx X (x :: ys) scope cl G.objs.size fp s2 H2) [] (cst ix σ) H8 { s8 with heap := h', toks := s8.toks } :=
          (I9.pins_of (pins' := []) fun p hp => absurd hp (by simp)).turned (it := s2.heap.objs.size) kp nD neL (.inr (Nat.le_refl _)) lt_cell fun p hp => absurd (show p ∈ ([] : List (Addr × Obj)) from hp) (by simp)
        refine ⟨m', hm, i + 1, zs ++ [z8], its ++ [v8], k + 1, H8, I10.pins_of fun p hp => ?_, rv.append (.cons r8 .nil), T.keep _ _ _ st9 fun b hb o e => kp b o (below b (fo b hb)).2 e, fr9, w8⟩
        have e := List.mem_singleton.mp hp
        subst e
        refine ⟨?_, nD, hDC, nst, fun v z => by cases z⟩
        rw [← List.push_toArray]
        exact hD'
  exact codeAny_compStart_list (loop _ rfl) (T.self X.A 0 _ _ _ st1 (loop _ rfl))
theorem pe_comp {elt iter : Expr} {ifs : List Expr} {px pos : Pos} {wi : TI} {tt : TT} {te : TE} (n : CompNames X scope cl x ys ix) (hc : X.calm = true) (hi : PI X (.Name x px) iter wi)
    (ht : ∀ C fp s H, PTs (cmpCx X (x :: ys) scope cl C fp s H) ifs tt) (he : ∀ C fp s H, PE (cmpCx X (x :: ys) scope cl C fp s H) elt te)
    (hs : ∀ x, foldedSetIterable iter X.env x = pure x := by intro _; rfl) : PE X (.ListComp elt [⟨.Name x px, iter, ifs, 0⟩] scope pos) (tComp wi ix tt te) := by
  intro pins s σ H Q I h
  rw [eval_ListComp]
  refine wpAny_comprehension_free (use := none) rfl hs n.clos n.kind n.names' (thn (hi pins s σ H _ I h) fun v s1 h1 => thn h1 fun itv s2 h2 => ?_)
  obtain ⟨it, fp, tn, J, H2, e, I2, T, st2, f2, W, ⟨m0, w0⟩, turn⟩ := h2
  subst e
  refine comp_block (RR := fun acc C => compPost (model X.prog X.w) X.A X.xe none (EP X pins σ Q) acc C) (Z := fun zs H3 => ∀ p, H3 p = none → Q (.ref p) (upd H3 p (.lst zs))) n hc ht he I2 T st2 f2 w0 turn ?_
  intro D C s4 H3 zs m I4 hn4 fC nD q
  refine ⟨m, hn4, fun h' hs' => ?_⟩
  exact ⟨.ref D, _, I4.turned (t' := s4.toks) (fun b o hb e => hs'.extBut b o hb e) fC.1 fC.2.1 fC.2.2.2.1 fC.2.2.2.2.1 fC.2.2.2.2.2, rfl, q D nD⟩
end
end L2

namespace L2
open PySem PySem.Spec PyProof.Rows

/-! ### texts by their codes -/
abbrev tx (l : List Nat) : Str := ⟨l.toArray⟩
theorem tx_len (l : List Nat) : (tx l).length = l.length := by simp [tx, Str.length]
theorem tx_inj {l m : List Nat} (h : tx l = tx m) : l = m := by
  have h1 := congrArg (fun z : Str => z.cps.toList) h
  simpa using h1
theorem tx_add (l m : List Nat) : tx l ++ tx m = tx (l ++ m) := by
  show Str.append (tx l) (tx m) = tx (l ++ m)
  unfold Str.append
  simp [tx]
theorem v_tx {l m : List Nat} : (V.str (tx l) = V.str (tx m)) ↔ l = m := ⟨fun h => tx_inj (V.str.inj h), fun h => by rw [h]⟩
theorem dec_tx {l m : List Nat} : decide (V.str (tx l) = V.str (tx m)) = decide (l = m) := by
  by_cases h : l = m
  · rw [decide_eq_true h, decide_eq_true (v_tx.mpr h)]
  · rw [decide_eq_false h, decide_eq_false fun z => h (v_tx.mp z)]

def cutL {α : Type} (l : List α) (lo hi : Option Int) : List α := (l.drop (HT.sIx l.length 0 lo)).take (HT.sIx l.length l.length hi - HT.sIx l.length 0 lo)

theorem pick_run (l : List Nat) (i k : Nat) : ((List.range k).map fun (m : Nat) => i + m).filterMap (l[·]?) = (l.drop i).take k := by
  induction k generalizing i with
  | zero => simp
  | succ k ih =>
    rw [List.range_succ_eq_map, List.map_cons, List.map_map]
    have e : ((fun (m : Nat) => i + m) ∘ Nat.succ) = fun m => (i + 1) + m := by
      funext m
      simp only [Function.comp]
      omega
    rw [e]
    by_cases h : i < l.length
    · rw [List.filterMap_cons_some (b := l[i]) (by simp [h]), ih (i + 1), List.drop_eq_getElem_cons h, List.take_succ_cons]
    · rw [List.filterMap_cons_none (by simp; omega), ih (i + 1), List.drop_eq_nil_of_le (by omega), List.drop_eq_nil_of_le (by omega)]
      simp
theorem sliceRange_one (a b : Nat) : sliceRange (a : Int) (b : Int) 1 = (List.range (b - a)).map fun (m : Nat) => a + m := by
  unfold sliceRange
  have e : (if (1 : Int) > 0 then (if (a : Int) < b then ((b : Int) - a + 1 - 1) / 1 else 0) else (if (a : Int) > b then ((a : Int) - b - 1 - 1) / (-1) else 0)).toNat = b - a := by
    rw [if_pos (by decide)]
    split <;> (try simp only [Int.ediv_one]) <;> omega
  dsimp only
  rw [e]
  apply List.map_congr_left
  intro m _
  omega
theorem indices_one (lo hi : Option Int) (n : Nat) : Builtin.Str.strSliceIndices lo hi 1 n = (List.range (HT.sIx n n hi - HT.sIx n 0 lo)).map fun (m : Nat) => HT.sIx n 0 lo + m := by
  unfold Builtin.Str.strSliceIndices
  rw [← sliceRange_one]
  have e1 : ∀ d : Nat, ∀ v : Int, max 0 (min (if v < 0 then v + (n : Int) else v) (n : Int)) = ((HT.sIx n d (some v) : Nat) : Int) := fun d v => by
    rw [← HT.clip_eq v n d]
    split <;> omega
  cases lo with
  | none =>
    cases hi with
    | none => simp only [HT.sIx_none]; rfl
    | some v =>
      simp only [HT.sIx_none]
      show sliceRange 0 (max 0 (min (if v < 0 then v + (n : Int) else v) (n : Int))) 1 = _
      rw [e1 n v]; rfl
  | some u =>
    cases hi with
    | none =>
      simp only [HT.sIx_none]
      show sliceRange (max 0 (min (if u < 0 then u + (n : Int) else u) (n : Int))) (n : Int) 1 = _
      rw [e1 0 u]
    | some v =>
      show sliceRange (max 0 (min (if u < 0 then u + (n : Int) else u) (n : Int))) (max 0 (min (if v < 0 then v + (n : Int) else v) (n : Int))) 1 = _
      rw [e1 0 u, e1 n v]
theorem slice_tx (l : List Nat) (lo hi : Option Int) : Txt.slice (tx l) lo hi = tx (cutL l lo hi) := by
  have key : (Builtin.Str.strSliceIndices lo hi 1 l.length).filterMap (l[·]?) = cutL l lo hi := by
    rw [indices_one, pick_run]; rfl
  unfold Txt.slice
  rw [tx_len]
  split
  · rename_i h
    have h1 : (Builtin.Str.strSliceIndices lo hi 1 l.length).length = l.length := by simpa using h
    rw [indices_one, List.length_map, List.length_range] at h1
    have a := HT.sIx_le l.length l.length (Nat.le_refl _) hi
    have b := HT.sIx_le l.length 0 (Nat.zero_le _) lo
    have e : cutL l lo hi = l := by
      unfold cutL
      by_cases hn : l.length = 0
      · have : l = [] := List.length_eq_zero_iff.mp hn
        subst this
        simp
      · have e0 : HT.sIx l.length 0 lo = 0 := by omega
        rw [h1, e0]
        simp
    rw [e]
  · have e : (fun (i : Nat) => (tx l).cps[i]?) = fun (i : Nat) => l[i]? := by funext i; simp
    show (⟨((Builtin.Str.strSliceIndices lo hi 1 l.length).filterMap fun i => (tx l).cps[i]?).toArray⟩ : Str) = _
    rw [e, key]
theorem rev_tx (l : List Nat) : ((Builtin.Str.strSliceIndices none none (-1) l.length).filterMap fun (i : Nat) => (tx l).cps[i]?) = l.reverse := by
  have e : (fun (i : Nat) => (tx l).cps[i]?) = fun (i : Nat) => l[i]? := by funext i; simp
  rw [e]
  have e2 : Builtin.Str.strSliceIndices none none (-1) l.length = (List.range l.length).map fun (k : Nat) => l.length - 1 - k := by
    show sliceRange ((l.length : Int) - 1) (-1) (-1) = _
    unfold sliceRange
    have e3 : (if (-1 : Int) > 0 then (if (l.length : Int) - 1 < -1 then (-1 - ((l.length : Int) - 1) + (-1) - 1) / (-1) else 0) else (if (l.length : Int) - 1 > -1 then ((l.length : Int) - 1 - (-1) - (-1) - 1) / (- -1) else 0)).toNat = l.length := by
      rw [if_neg (by decide)]
      have : (- -1 : Int) = 1 := by decide
      rw [this]
      split <;> (try simp only [Int.ediv_one]) <;> omega
    dsimp only
    rw [e3]
    apply List.map_congr_left
    intro m hm
    have := List.mem_range.mp hm
    omega
  rw [e2]
  apply List.ext_getElem?
  intro i
  have : ((List.range l.length).map fun (k : Nat) => l.length - 1 - k).filterMap (fun (i : Nat) => l[i]?) = (List.range l.length).map fun (k : Nat) => (l[l.length - 1 - k]?).getD 0 := by
    have gen : ∀ ks : List Nat, (∀ k ∈ ks, k < l.length) → (ks.map fun (k : Nat) => l.length - 1 - k).filterMap (fun (i : Nat) => l[i]?) = ks.map fun (k : Nat) => (l[l.length - 1 - k]?).getD 0 := by
      intro ks
      induction ks with
      | nil => intro _; rfl
      | cons k ks ih =>
        intro hk
        have hk' := hk k List.mem_cons_self
        have hlt : l.length - 1 - k < l.length := by omega
        rw [List.map_cons, List.map_cons, List.filterMap_cons_some (b := l[l.length - 1 - k]) (by simp [hlt]), ih fun j hj => hk j (List.mem_cons_of_mem _ hj)]
        simp [hlt]
    exact gen _ fun k hk => List.mem_range.mp hk
  rw [this]
  by_cases h : i < l.length
  · rw [List.getElem?_map, List.getElem?_range h, List.getElem?_reverse h]
    have : l.length - 1 - i < l.length := by omega
    simp [this]
  · rw [List.getElem?_eq_none (by simpa using h), List.getElem?_eq_none (by simpa using h)]

section
variable {X : Cx} {tg : Expr}
def Its (l : List Nat) : It := ⟨fun i _ => i < l.length, fun i H v H' => H' = H ∧ ∃ c, l[i]? = some c ∧ v = .str (tx [c]), fun i _ => l.length ≤ i⟩
theorem turn_str {P : Program} {w : World} {K : PySem.W.Frag} {ty : String} (hty : ty = "str_ascii_iterator" ∨ ty = "str_iterator") (it : Addr) (l : List Nat) (t : Tok) : Turn P w K tg (Its l) [it] it (fun i h => h.IsStrIter it ty (tx l) t i) where
  mem := by simp
  obj := fun i h st b hb => by
    have e : b = it := by simpa using hb
    subst e
    obtain ⟨o, e, c, d⟩ := st
    exact ⟨o, e, fun v z => by rw [d] at z; cases z⟩
  keep := fun i h h' st k => let ⟨o, e, r⟩ := st; ⟨o, k it (by simp) o e, r⟩
  item := by
    intro X hP hw hK hc i pins s σ H E I hf st hg
    subst hP hw hK
    obtain ⟨f0, f1, f2, f3, f4, f5⟩ := hf it (by simp)
    have W : Walks X.prog X.w X.A it [it] [it] (tx l).cps.size (SignAt (tx l)) (fun i h => h.IsStrIter it ty (tx l) t i) := by
      rcases hty with rfl | rfl
      · exact Walks.strAscii (I.ok.hd hc) it (tx l) t
      · exact Walks.strWide (I.ok.hd hc) it (tx l) t
    refine W.item i s _ _ (by simpa using (show i < l.length from hg)) st fun v h' tk hv st' kk => ?_
    obtain ⟨c, t', hc', rfl⟩ := hv
    have I1 : Inv X pins σ H { s with heap := h', toks := tk } := I.turned (fun b o hb e => kk b o (by simpa using hb) e) f0 f1 f3 f4 f5
    obtain ⟨o, e, c0, d⟩ := id st'
    exact ⟨_, rfl, go_of (s := { s with heap := h', toks := tk }) e c0 d (by rcases hty with rfl | rfl <;> decide) ⟨.str (tx [c]), H, I1, ⟨t', rfl⟩, ⟨rfl, c, by simpa using hc', rfl⟩, st', fun b hb => (hf b hb).1⟩⟩
  done := by
    intro X hP hw hK hc i pins s σ H E I hf st hg
    subst hP hw hK
    obtain ⟨f0, f1, f2, f3, f4, f5⟩ := hf it (by simp)
    have hg' : (tx l).cps[i]? = none := by have : l.length ≤ i := hg; simpa using this
    rcases hty with rfl | rfl
    · exact wpAny_pyNext_ascii_end (I.ok.hd hc) st hg' fun h' eb => ⟨rfl, I.turned (t' := s.toks) (fun b o hb e => eb b o hb e) f0 f1 f3 f4 f5⟩
    · exact wpAny_pyNext_wide_end (I.ok.hd hc) st hg' fun h' eb => ⟨rfl, I.turned (t' := s.toks) (fun b o hb e => eb b o hb e) f0 f1 f3 f4 f5⟩
  self := fun A i s Q E st h => by
    rcases hty with rfl | rfl
    · exact wpAny_pyIter_striter_ascii st h
    · exact wpAny_pyIter_striter_wide st h
def iStr (tl : TE) : TI := fun σ H R => tl σ H fun x H1 => ∃ l, x = .str (tx l) ∧ R (Its l) H1
theorem pi_str {e : Expr} {tl : TE} (hl : PE X e tl) : PI X tg e (iStr tl) := by
  intro pins s σ H R I h
  refine thn (hl pins s σ H _ I h) fun v s1 ⟨x, H1, I1, r1, q1⟩ => ?_
  obtain ⟨l, e, q⟩ := q1
  subst e
  obtain ⟨t, rfl⟩ := r1
  have fin : ∀ (ty : String), (ty = "str_ascii_iterator" ∨ ty = "str_iterator") → PIE X pins σ tg R (.ref s1.heap.objs.size) { s1 with heap := s1.heap.push { cls := .type ty, data := .fields #[.str (tx l) t, .int 0 0] } } := fun ty hty => by
    refine ⟨s1.heap.objs.size, [s1.heap.objs.size], _, _, H1, rfl, I1.kept (t' := s1.toks) fun b o e => Heap.get?_push_of_some _ e, turn_str hty _ l t, ⟨_, Heap.get?_push_size _ rfl, rfl, rfl⟩, fun b hb => ?_, q⟩
    have e : b = s1.heap.objs.size := by simpa using hb
    subst e
    exact I1.fpOk (Nat.le_refl _) (I1.hok.fresh (Nat.le_refl _))
  cases ha : (tx l).cps.all (· < 128)
  · exact wpAny_pyIter_wide ha (fin _ (.inr rfl))
  · exact wpAny_pyIter_ascii ha (fin _ (.inl rfl))
/-! ### comprehensions, the forms one uses: W by the turn and what is gathered -/
theorem comp_str {l : List Nat} {σ : St} {ix : List Nat} {tt : TT} {te : TE} {H : Hp} {Z : List V → Hp → Prop} (hl : l.length ≤ sizeLine) (Pv : Nat → List V → Hp → Prop) (h0 : Pv 0 [] H)
    (hs : ∀ i c ys H (N : List V → Hp → Prop), l[i]? = some c → ys.length ≤ i → Pv i ys H → (∀ ys' H', ys'.length ≤ i + 1 → Pv (i + 1) ys' H' → N ys' H') →
      tt ((cst ix σ).set 0 (some (.str (tx [c])))) H fun b H4 => if b = true then te ((cst ix σ).set 0 (some (.str (tx [c])))) H4 fun v H5 => N (ys ++ [v]) H5 else N ys H4)
    (hd : ∀ ys H, ys.length ≤ l.length → Pv l.length ys H → Z ys H) :
    ∃ W : Nat → Nat → List V → Hp → Prop, (∃ m, W 0 m [] H) ∧ ∀ i m ys H2, W i m ys H2 →
      ((Its l).stop i H2 ∧ ys.length ≤ sizeLine ∧ Z ys H2) ∨
      ((Its l).go i H2 ∧ ys.length ≤ sizeLine ∧ ∀ x H3, (Its l).yld i H2 x H3 → tt ((cst ix σ).set 0 (some x)) H3 fun b H4 =>
        if b = true then te ((cst ix σ).set 0 (some x)) H4 fun v H5 => ∃ m', m' < m ∧ W (i + 1) m' (ys ++ [v]) H5 else ∃ m', m' < m ∧ W (i + 1) m' ys H4) := by
  refine ⟨fun i m ys H => m = l.length - i ∧ i ≤ l.length ∧ ys.length ≤ i ∧ Pv i ys H, ⟨l.length, by simp, Nat.zero_le _, Nat.le_refl _, h0⟩, ?_⟩
  rintro i m ys H ⟨rfl, hi, hy, p⟩
  by_cases hlt : i < l.length
  · refine .inr ⟨hlt, by omega, fun x H' y => ?_⟩
    obtain ⟨e, c, hc, e2⟩ := y
    subst e e2
    exact hs i c ys _ (fun ys' H5 => ∃ m', m' < l.length - i ∧ m' = l.length - (i + 1) ∧ i + 1 ≤ l.length ∧ ys'.length ≤ i + 1 ∧ Pv (i + 1) ys' H5) hc hy p fun ys' H' h1 h2 => ⟨l.length - (i + 1), by omega, rfl, hlt, h1, h2⟩
  · have e : i = l.length := by omega
    subst e
    exact .inl ⟨Nat.le_refl _, by omega, hd ys H hy p⟩
theorem comp_range {lo : Int} {n : Nat} {σ : St} {ix : List Nat} {tt : TT} {te : TE} {H : Hp} {Z : List V → Hp → Prop} (hl : n ≤ sizeLine) (Pv : Nat → List V → Hp → Prop) (h0 : Pv 0 [] H)
    (hs : ∀ i ys H (N : List V → Hp → Prop), i < n → ys.length ≤ i → Pv i ys H → (∀ ys' H', ys'.length ≤ i + 1 → Pv (i + 1) ys' H' → N ys' H') →
      tt ((cst ix σ).set 0 (some (.int (lo + i)))) H fun b H4 => if b = true then te ((cst ix σ).set 0 (some (.int (lo + i)))) H4 fun v H5 => N (ys ++ [v]) H5 else N ys H4)
    (hd : ∀ ys H, ys.length ≤ n → Pv n ys H → Z ys H) :
    ∃ W : Nat → Nat → List V → Hp → Prop, (∃ m, W 0 m [] H) ∧ ∀ i m ys H2, W i m ys H2 →
      ((Itr lo n).stop i H2 ∧ ys.length ≤ sizeLine ∧ Z ys H2) ∨
      ((Itr lo n).go i H2 ∧ ys.length ≤ sizeLine ∧ ∀ x H3, (Itr lo n).yld i H2 x H3 → tt ((cst ix σ).set 0 (some x)) H3 fun b H4 =>
        if b = true then te ((cst ix σ).set 0 (some x)) H4 fun v H5 => ∃ m', m' < m ∧ W (i + 1) m' (ys ++ [v]) H5 else ∃ m', m' < m ∧ W (i + 1) m' ys H4) := by
  refine ⟨fun i m ys H => m = n - i ∧ i ≤ n ∧ ys.length ≤ i ∧ Pv i ys H, ⟨n, by simp, Nat.zero_le _, Nat.le_refl _, h0⟩, ?_⟩
  rintro i m ys H ⟨rfl, hi, hy, p⟩
  by_cases hlt : i < n
  · refine .inr ⟨hlt, by omega, fun x H' y => ?_⟩
    obtain ⟨e, e2⟩ := y
    subst e e2
    exact hs i ys _ (fun ys' H5 => ∃ m', m' < n - i ∧ m' = n - (i + 1) ∧ i + 1 ≤ n ∧ ys'.length ≤ i + 1 ∧ Pv (i + 1) ys' H5) hlt hy p fun ys' H' h1 h2 => ⟨n - (i + 1), by omega, rfl, hlt, h1, h2⟩
  · have e : i = n := by omega
    subst e
    exact .inl ⟨Nat.le_refl _, by omega, hd ys H hy p⟩

/-! ### operations on texts -/
theorem op_addS : OpR X (binaryOp .Add) (fun x y H Q => ∃ l m, x = .str (tx l) ∧ y = .str (tx m) ∧ l.length + m.length ≤ sizeLine ∧ Q (.str (tx (l ++ m))) H) := by
  intro pins s σ H x y v u Q I rx ry h
  obtain ⟨l, m, rfl, rfl, hz, q⟩ := h
  refine op_add_str pins s σ H _ _ v u Q I rx ry ⟨tx l, tx m, rfl, rfl, by rw [tx_len, tx_len]; exact hz, ?_⟩
  rw [tx_add]; exact q
theorem op_inS : OpR X (compareOp .In) (fun x y H Q => ∃ c l, x = .str (tx [c]) ∧ y = .str (tx l) ∧ Q (.bl (decide (c ∈ l))) H) := by
  intro pins s σ H x y v u Q I rx ry h
  obtain ⟨c, l, rfl, rfl, q⟩ := h
  refine op_in_str pins s σ H _ _ v u Q I rx ry ⟨tx [c], tx l, rfl, rfl, ?_⟩
  rw [StrLaws.found_one]
  simpa using q
def rIxS' : R2 := fun x y H Q => ∃ l i c, x = .str (tx l) ∧ y = .int i ∧ l.length ≤ sizeLine ∧ atI l i = some c ∧ Q (.str (tx [c])) H
theorem ix_strS : IxR X rIxS' := by
  intro value slice pins s σ H x y v u Q I rx ry h hs
  obtain ⟨l, i, c, rfl, rfl, hz, ha, q⟩ := h
  exact ix_str value slice pins s σ H _ _ v u Q I rx ry ⟨tx l, i, c, rfl, rfl, by rw [tx_len]; exact hz, by simpa using ha, q⟩ hs
def rSlS : V → Option Int → Option Int → Hp → VK → Prop := fun x lo hi H Q => ∃ l, x = .str (tx l) ∧ l.length ≤ sizeLine ∧ Q (.str (tx (cutL l lo hi))) H
theorem sl_strS : SlR X rSlS := by
  intro pins s σ H x v vl vu lo hi sl Q I rx hs pl pu h
  obtain ⟨l, rfl, hz, q⟩ := h
  obtain ⟨t, rfl⟩ := rx
  refine ⟨"str", _, F.slot_str_getitem.lookup, typeIs_str _ _ _, ?_⟩
  have fin : ∀ t' k, EP X pins σ Q (.str (Txt.slice (tx l) lo hi) t') { s with toks := k } := fun t' k => by
    rw [slice_tx]
    exact ⟨.str (tx (cutL l lo hi)), H, I.tok k, ⟨t', rfl⟩, q⟩
  have sz : (Txt.slice (tx l) lo hi).length ≤ sizeLine := Nat.le_trans (Txt.slice_le _ _ _) (by rw [tx_len]; exact hz)
  obtain ⟨o, e1, e2, e3⟩ := hs
  cases pl with
  | none =>
    cases pu with
    | none => exact wpAny_getItem_str_slice (l := none) (u := none) (st := none) ⟨o, e1, e2, e3⟩ rfl (post_val_or_str ⟨sz, fin⟩)
    | int j uj => exact wpAny_getItem_str_slice (l := none) (u := some (j, uj)) (st := none) ⟨o, e1, e2, e3⟩ rfl (post_val_or_str ⟨sz, fin⟩)
  | int i ui =>
    cases pu with
    | none => exact wpAny_getItem_str_slice (l := some (i, ui)) (u := none) (st := none) ⟨o, e1, e2, e3⟩ rfl (post_val_or_str ⟨sz, fin⟩)
    | int j uj => exact wpAny_getItem_str_slice (l := some (i, ui)) (u := some (j, uj)) (st := none) ⟨o, e1, e2, e3⟩ rfl (post_val_or_str ⟨sz, fin⟩)
/-- e[::-1] -/
def tRev (te ts : TE) : TE := fun σ H Q => te σ H fun x H1 => ts σ H1 fun y H2 => ∃ l, x = .str (tx l) ∧ y = .int (-1) ∧ l.length ≤ sizeLine ∧ Q (.str (tx l.reverse)) H2
theorem pe_rev {e st : Expr} {te ts : TE} {p2 pos : Pos} (he : PE X e te) (hst : PE X st ts) : PE X (.Subscript e (.Slice none none (some st) p2) pos) (tRev te ts) := by
  intro pins s σ H Q I h
  refine Subscript_ (thn (he pins s σ H _ I h) fun v s1 ⟨x, H1, I1, r1, q1⟩ => ?_)
  refine wpAny_Slice ?_
  rw [evalPart_none]
  refine wpAny_pure ?_
  refine wpAny_pure ?_
  rw [evalPart_some]
  refine thn (hst pins s1 σ H1 _ I1 q1) fun w s2 ⟨y, H2, I2, r2, q2⟩ => ?_
  obtain ⟨l, rfl, rfl, hz, q⟩ := q2
  obtain ⟨t, rfl⟩ := r1
  obtain ⟨u, rfl⟩ := r2
  have I3 : Inv X pins σ H2 { s2 with heap := s2.heap.push { cls := .type "slice", data := .fields #[.none, .none, .int (-1) u] } } := I2.kept (t' := s2.toks) fun b ob q => Heap.get?_push_of_some _ q
  show wpAny (model X.prog X.w) X.A (subscriptTail e (.Slice none none (some st) p2) (.str (tx l) t) (.ref s2.heap.objs.size)) (EP X pins σ Q) X.xe { s2 with heap := s2.heap.push { cls := .type "slice", data := .fields #[.none, .none, .int (-1) u] } }
  refine tail_any (ops := [.ref s2.heap.objs.size, .str (tx l) t]) (typeIs_str _ _ _) F.slot_str_getitem.lookup ?_ (by with_unfolding_all rfl)
  refine wpAny_getItem_str_slice (l := none) (u := none) (st := some (-1, u)) ⟨_, Heap.get?_push_size _ rfl, rfl, rfl⟩ (show ((-1 : Int) == 0) = false by decide) ?_
  have e1 : (slicePicked (tx l) none none (some (-1, u))).filterMap (fun (i : Nat) => (tx l).cps[i]?) = l.reverse := by
    unfold slicePicked
    rw [tx_len]
    exact rev_tx l
  unfold sliceMade
  rw [if_neg (by
    show ¬ ((((-1 : Int) == 1) && _) = true)
    rw [show ((-1 : Int) == 1) = false by decide]
    simp)]
  rw [e1]
  exact ⟨by show (tx l.reverse).length ≤ sizeLine; rw [tx_len, List.length_reverse]; exact hz, .str (tx l.reverse), H2, I3.tok _, ⟨_, rfl⟩, q⟩
end
end L2

namespace L2
open PySem PySem.Spec PyProof.Rows

def repL (l : List Nat) (k : Nat) : List Nat := (List.replicate k l).flatten
section
variable {X : Cx}
/-! ### ''.join(texts) -/
theorem strsAre_of : ∀ {zs : List (List Nat)} {us : List Value}, Vals (zs.map fun z => V.str (tx z)) us → StrsAre us (zs.map tx)
  | [], _, r => by
    rw [List.map_nil] at r
    cases r
    exact .nil
  | z :: zs, _, r => by
    rw [List.map_cons] at r
    cases r with
    | cons r1 r2 =>
      obtain ⟨t, e⟩ := r1
      subst e
      exact .cons _ t (strsAre_of r2)
theorem glue_foldl : ∀ (zs : List (List Nat)) (acc : List Nat), ((zs.map tx).foldl (fun a p => a ++ (tx []).cps ++ p.cps) acc.toArray) = (acc ++ zs.flatten).toArray
  | [], acc => by simp
  | z :: zs, acc => by
    rw [List.map_cons, List.foldl_cons]
    have e : acc.toArray ++ (tx []).cps ++ (tx z).cps = (acc ++ z).toArray := by simp
    rw [e, glue_foldl zs (acc ++ z), List.flatten_cons, List.append_assoc]
theorem join_tx (zs : List (List Nat)) : Txt.join (tx []) (zs.map tx) = tx zs.flatten := by
  show Builtin.Str.glued (tx []) (zs.map tx) = tx zs.flatten
  unfold Builtin.Str.glued
  cases zs with
  | nil => rfl
  | cons z zs =>
    apply congrArg Str.mk
    show ((zs.map tx).foldl (fun acc p => acc ++ (tx []).cps ++ p.cps) z.toArray) = _
    rw [glue_foldl, List.flatten_cons]
theorem mt_joinS : MtR X "str.join" (fun x vs H Q => ∃ (p : Addr) (zs : List (List Nat)), x = .str (tx []) ∧ vs = [.ref p] ∧ SqL X.K H p (zs.map fun z => V.str (tx z)) ∧ (zs.map (·.length)).sum ≤ 16777216 ∧ Q (.str (tx zs.flatten)) H) := by
  intro pins s σ H x xs v us Q I rx rs h
  obtain ⟨p, zs, rfl, rfl, hq, hz, q⟩ := h
  obtain ⟨t, rfl⟩ := rx
  obtain ⟨u, rfl, ru⟩ := vals1 rs
  cases ru
  obtain ⟨its, rv, pl, _⟩ := I.list hq
  refine join_list (ys := zs.map tx) pl.isList (by simpa using strsAre_of rv) ?_ fun t' k => ?_
  · rw [List.map_map, List.length_map]
    have e : ((fun z : Str => z.length) ∘ tx) = fun z : List Nat => z.length := by funext z; exact tx_len z
    rw [show (List.map ((fun x => x.length) ∘ tx) zs) = zs.map (·.length) from by rw [e], tx_len]
    simpa using hz
  · rw [join_tx]
    exact ⟨.str (tx zs.flatten), H, I.tok k, ⟨t', rfl⟩, q⟩

/-! ### isinstance(x, T), all(bools) -/
theorem call_isT : CallR X (.builtin "isinstance") (fun xs H Q => ∃ x T t b, xs = [x, .ty T] ∧ TyOf X.K H x t ∧ PySem.W.kitOne X.K t (.type T) = some b ∧ Q (.bl b) H) := by
  intro pins s σ H xs us Q I r h
  obtain ⟨x, T, t, b, rfl, ty, e, q⟩ := h
  obtain ⟨u, w', rfl, ru, rw'⟩ := vals2 r
  obtain rfl : w' = Value.type T := rw'
  exact isinst_ok I ru ty e fun tk => ⟨.bl b, H, I.tok tk, rfl, q⟩
theorem vals_bl : ∀ {bs : List Bool} {us : List Value}, Vals (bs.map V.bl) us → us = bs.map Value.bool
  | [], _, r => by
    rw [List.map_nil] at r
    cases r
    rfl
  | b :: bs, _, r => by
    rw [List.map_cons] at r
    cases r with
    | cons r1 r2 =>
      have e : _ = Value.bool b := r1
      rw [e, vals_bl r2, List.map_cons]
theorem call_allB (hc : X.calm = true) : CallR X (.builtin "all") (fun xs H Q => ∃ (p : Addr) (bs : List Bool), xs = [.ref p] ∧ SqL X.K H p (bs.map V.bl) ∧ Q (.bl (bs.all id)) H) := by
  intro pins s σ H xs us Q I r h
  obtain ⟨p, bs, rfl, hq, q⟩ := h
  obtain ⟨u, rfl, ru⟩ := vals1 r
  cases ru
  obtain ⟨its, rv, pl, _⟩ := I.list hq
  have e := vals_bl rv
  subst e
  have hlt : p < s.heap.objs.size := by obtain ⟨o, _, e, _⟩ := pl; exact Heap.lt_size e
  refine call_all_walk (wpAny_pyIter_list pl.isList ?_)
  refine ⟨s.heap.objs.size, [s.heap.objs.size, p], [s.heap.objs.size], _, _, _, fun i => bs.getD i true, rfl, Walks.list (show X.A.in1.handled = none from I.ok.hd hc) _ p (Nat.ne_of_lt hlt) (bs.map Value.bool).toArray, ⟨⟨_, Heap.get?_push_size _ rfl, rfl, rfl⟩, pl.isList.push _⟩, ?_, ?_⟩
  · intro i v s' Q' E' hP hQ'
    have hv : bs[i]?.map Value.bool = some v := by simpa using hP
    cases e : bs[i]? with
    | none => rw [e] at hv; cases hv
    | some b =>
      rw [e] at hv
      have hv' : Value.bool b = v := Option.some.inj hv
      subst hv'
      have e2 : bs.getD i true = b := by rw [List.getD_eq_getElem?_getD, e]; rfl
      have hQ2 : Q' (bs.getD i true) s' := hQ'
      rw [e2] at hQ2
      exact wpAny_truthy_bool hQ2
  · intro h' tk kk
    have e3 : (List.range (bs.map Value.bool).toArray.size).all (fun i => bs.getD i true) = bs.all id := by
      rw [List.size_toArray, List.length_map]
      clear hq q rv pl kk
      apply Bool.eq_iff_iff.mpr
      rw [List.all_eq_true, List.all_eq_true]
      constructor
      · intro h b hb
        obtain ⟨i, hi, e⟩ := List.getElem_of_mem hb
        have := h i (List.mem_range.mpr hi)
        rw [List.getD_eq_getElem?_getD, List.getElem?_eq_getElem hi] at this
        simpa [e] using this
      · intro h i hi
        have hi' := List.mem_range.mp hi
        rw [List.getD_eq_getElem?_getD, List.getElem?_eq_getElem hi']
        exact h _ (List.getElem_mem hi')
    rw [e3]
    refine ⟨.bl (bs.all id), H, I.kept (h' := h') (t' := tk) fun b o e => kk b o (fun z => ?_) (Heap.get?_push_of_some _ e), rfl, q⟩
    have z' := List.mem_singleton.mp z
    rw [z'] at e
    exact absurd (Heap.lt_size e) (Nat.lt_irrefl _)

/-! ### lists compared -/
def eqVs (xs ys : List V) : Bool := decide (xs.length = ys.length) && (List.range xs.length).all fun j => eqV (xs.getD j .non) (ys.getD j .non)
def rEqL (K : PySem.W.Frag) : R2 := fun x y H Q => ∃ p q xs ys, x = .ref p ∧ y = .ref q ∧ SqL K H p xs ∧ SqL K H q ys ∧ xs.all flatV = true ∧ ys.all flatV = true ∧ Q (.bl (eqVs xs ys)) H
theorem Vals.at {xs : List V} {us : List Value} (r : Vals xs us) {j : Nat} (h : j < us.toArray.size) : RelV (xs.getD j .non) us.toArray[j] ∧ xs[j]? = some (xs.getD j .non) := by
  have hj : j < xs.length := by rw [r.length]; simpa using h
  have e : xs[j]? = some xs[j] := List.getElem?_eq_getElem hj
  obtain ⟨u, hu, ru⟩ := r.get e
  have e2 : xs.getD j .non = xs[j] := by rw [List.getD_eq_getElem?_getD, e]; rfl
  have e3 : us.toArray[j] = u := by
    have : us[j]? = some us.toArray[j] := by simp at h ⊢
    rw [hu] at this
    exact (Option.some.inj this).symm
  rw [e2, e3]
  exact ⟨ru, e⟩
theorem op_eqL (hu : X.A.units < cLine) : OpR X (compareOp .Eq) (rEqL X.K) := by
  intro pins s σ H x y v u Q I rx ry h
  obtain ⟨p, q, xs, ys, rfl, rfl, hp, hq, fx, fy, k⟩ := h
  cases rx
  cases ry
  obtain ⟨its, r1, p1, _⟩ := I.list hp
  obtain ⟨jts, r2, p2, _⟩ := I.list hq
  by_cases hl : xs.length = ys.length
  · refine SeqAt.eq_listAt (e := fun j => eqV (xs.getD j .non) (ys.getD j .non)) p1.isList p2.isList (by simp; rw [← r1.length, ← r2.length]; exact hl) hu (fun j h1 h2 => ?_) ?_
    · obtain ⟨a1, b1⟩ := r1.at h1
      obtain ⟨a2, b2⟩ := r2.at h2
      exact eqAt_V a1 a2 (List.all_eq_true.mp fx _ (List.mem_of_getElem? b1)) (List.all_eq_true.mp fy _ (List.mem_of_getElem? b2))
    · refine ⟨.bl _, H, I, rfl, ?_⟩
      have e : its.toArray.size = xs.length := by rw [List.size_toArray, r1.length]
      rw [e]
      unfold eqVs at k
      rw [decide_eq_true hl, Bool.true_and] at k
      exact k
  · refine SeqAt.eq_list_lengthsAt p1.isList p2.isList ?_ hu ?_
    · rw [List.size_toArray, List.size_toArray, ← r1.length, ← r2.length]
      simpa using hl
    · refine ⟨.bl false, H, I, rfl, ?_⟩
      unfold eqVs at k
      rw [decide_eq_false hl, Bool.false_and] at k
      exact k
/-! ### a chain of three -/
def tChain3 (r r' r'' : R2) (ta tb tc td : TE) : TE := fun σ H Q => ta σ H fun x H1 => tb σ H1 fun y H2 => r x y H2 fun z H3 => ∃ k, z = .bl k ∧
  (if k = true then tc σ H3 fun w' H4 => r' y w' H4 fun z2 H5 => ∃ k2, z2 = .bl k2 ∧ (if k2 = true then td σ H5 fun w2 H6 => r'' w' w2 H6 Q else Q (.bl false) H5) else Q (.bl false) H3)
end
end L2

namespace L2
open PySem PySem.Spec PyProof.Rows

/-- a def of the text, by its promise -/
structure Df (P : Program) (w : World) (K : PySem.W.Frag) (mg : Str → Option Value) (base : Heap) (k : Nat) (x : Str) (ps : List Str) (sp : Sp) : Prop where
  ex : ∃ (f : Addr) (fd : FuncData), FnOk P w K mg base CX0 k f fd ps sp ∧ mg x = some (.ref f) ∧ PySem.W.keepIn K (.ref f) = true ∧ Binds K fd ps []
/-- what the top has of it -/
structure At (K : PySem.W.Frag) (mg : Str → Option Value) (x : Str) (st : Stmt) (ps : List Str) : Prop where
  ex : ∃ (f : Addr) (fd : FuncData), Fun K x x st f fd ∧ mg x = some (.ref f) ∧ ∀ us : List Value, us.length = ps.length → bindArgs fd ⟨us, []⟩ = pure (ps.zip us)
section
variable {P : Program} {w : World} {K : PySem.W.Frag} {mg : Str → Option Value} {base : Heap}
theorem At.df {k : Nat} {x : Str} {st : Stmt} {ps : List Str} {sp : Sp} (a : At K mg x st ps) (h : ∀ f fd, Fun K x x st f fd → FnOk P w K mg base CX0 k f fd ps sp) : Df P w K mg base k x ps sp :=
  let ⟨f, fd, F, m, b⟩ := a.ex
  ⟨f, fd, h f fd F, m, F.kp, .all b⟩
theorem At.mk' {x : Str} {st : Stmt} {ps : List Str} {h : Heap} {f : Addr} {oc : Value} {od an : Option Addr} {osl : Array (Option Value)} {kV doc pm cdv ct : Value} (X : K.In h) (G : h.Ns mainGlobals mg)
    (a : PySem.W.nsIn K mainGlobals x = some (some (.ref f)))
    (l : K.lookup f = some ⟨oc, od, .func (PySem.W.fnOf x x (defArgs st) (defBody st) (defScope st) .none kV doc pm an cdv ct), osl⟩)
    (c : PySem.W.codeIn K cdv x = true) (k : PySem.W.keepIn K (.ref f) = true)
    (b : ∀ (kV doc pm : Value) (an : Option Addr) (cdv ct : Value) (us : List Value), us.length = ps.length → bindArgs (PySem.W.fnOf x x (defArgs st) (defBody st) (defScope st) .none kV doc pm an cdv ct) ⟨us, []⟩ = pure (ps.zip us)) : At K mg x st ps :=
  ⟨f, _, fun_mk l c k, PySem.W.mg_of X G a, b kV doc pm an cdv ct⟩
end
section
variable {X : Cx} {k : Nat} {x : Str} {ps : List Str} {sp : Sp} {e : Expr} {es : List Expr} {p pos : Pos} {t : TA}
theorem pe_df {j : Nat} (d : Df X.prog X.w X.K X.mg X.base j x ps sp) (hr : Room k X.A) (hg : Gl X x) (ha : PA X (e :: es) t) (hjk : j ≤ k := by decide) (hdb : (x == ("__debug__" : Str)) = false := by decide) (he : starEach (e :: es) X.env = (false, eval e X.env) :: starEach es X.env := by rfl)
    (hpl : (backTo pos (starEach es X.env)).any (·.1) = false := by rfl) : PE X (.Call (.Name x p) (e :: es) [] pos) (tCall sp [] E0 t) := by
  obtain ⟨f, fd, F, hm, hk, hb⟩ := d.ex
  exact pe_call (F.mono hjk) hr hg hm hk hb .nil pass0 ha hdb he hpl
end
/-! argument lists, part by part: the step over the star is looked at once -/
section
variable {X : Cx} {es : List Expr} {t : TA} {te : TE} {pos : Pos}
end
theorem Same.upd {H : Hp} {p : Addr} {o : HO} (h : H p = none) : Same H (upd H p o) := fun b u e => by
  rw [upd_ne (ne_of_none e h)]
  exact e
end L2

namespace L2
open PySem PySem.Spec PyProof.Rows PySem.SeqAt PySem.MeetsSeq
open PySem.AutoSeq1 (wpAny_loadPart')
/-! ### a thing of whatever kind against a tuple of plain values -/
def rEqT : R2 := fun x y H Q => ∃ (q : Addr) (ys : List V), y = .ref q ∧ H q = some (.tup ys) ∧ ys.all flatV = true ∧
  ((∃ b, x = .bl b ∧ Q (.bl false) H) ∨ (x = .non ∧ Q (.bl false) H) ∨ (∃ i, x = .int i ∧ Q (.bl false) H) ∨ (∃ z, x = .str z ∧ Q (.bl false) H) ∨ (∃ p xs, x = .ref p ∧ H p = some (.lst xs) ∧ Q (.bl false) H) ∨ (∃ p kvs, x = .ref p ∧ H p = some (.dK kvs) ∧ Q (.bl false) H) ∨
    (∃ p xs, x = .ref p ∧ H p = some (.tup xs) ∧ xs.all flatV = true ∧ Q (.bl (eqVs xs ys)) H) ∨ (∃ p r zs j ys', x = .ref p ∧ H p = some (.tup [.ref r]) ∧ H r = some (.tup zs) ∧ ys = .int j :: ys' ∧ Q (.bl false) H))
section
variable {X : Cx}
end
end L2

namespace L2
open PySem PySem.Spec PyProof.Rows
/-! ### range(a, b, -1) -/
/-- hi, hi - 1, .. (n of them) -/
def Itd (hi : Int) (n : Nat) : It := ⟨fun i _ => i < n, fun i H x H' => H' = H ∧ x = .int (hi - i), fun i _ => n ≤ i⟩
section
variable {X : Cx} {tg : Expr}
def iRngD (ta : TA) : TI := fun σ H R => ta σ H fun vs H1 => ∃ i j : Int, vs = [.int i, .int j, .int (-1)] ∧ (-(2 ^ 62) ≤ i ∧ i < 2 ^ 62 ∧ -(2 ^ 62) ≤ j ∧ j < 2 ^ 62) ∧ R (Itd i (i - j).toNat) H1
/-- over a list that the block leaves as it is -/
theorem comp_list {K : PySem.W.Frag} {a : Addr} {xs : List V} {σ : St} {ix : List Nat} {tt : TT} {te : TE} {H : Hp} {Z : List V → Hp → Prop} (hl : xs.length ≤ sizeLine) (Pv : Nat → List V → Hp → Prop) (h0 : Pv 0 [] H) (hk : ∀ i ys H, Pv i ys H → SqL K H a xs)
    (hs : ∀ i x ys H (N : List V → Hp → Prop), xs[i]? = some x → ys.length ≤ i → Pv i ys H → (∀ ys' H', ys'.length ≤ i + 1 → Pv (i + 1) ys' H' → N ys' H') →
      tt ((cst ix σ).set 0 (some x)) H fun b H4 => if b = true then te ((cst ix σ).set 0 (some x)) H4 fun v H5 => N (ys ++ [v]) H5 else N ys H4)
    (hd : ∀ ys H, ys.length ≤ xs.length → Pv xs.length ys H → Z ys H) :
    ∃ W : Nat → Nat → List V → Hp → Prop, (∃ m, W 0 m [] H) ∧ ∀ i m ys H2, W i m ys H2 →
      ((Itl K a).stop i H2 ∧ ys.length ≤ sizeLine ∧ Z ys H2) ∨
      ((Itl K a).go i H2 ∧ ys.length ≤ sizeLine ∧ ∀ x H3, (Itl K a).yld i H2 x H3 → tt ((cst ix σ).set 0 (some x)) H3 fun b H4 =>
        if b = true then te ((cst ix σ).set 0 (some x)) H4 fun v H5 => ∃ m', m' < m ∧ W (i + 1) m' (ys ++ [v]) H5 else ∃ m', m' < m ∧ W (i + 1) m' ys H4) := by
  refine ⟨fun i m ys H => m = xs.length - i ∧ i ≤ xs.length ∧ ys.length ≤ i ∧ Pv i ys H, ⟨xs.length, by simp, Nat.zero_le _, Nat.le_refl _, h0⟩, ?_⟩
  rintro i m ys H ⟨rfl, hi, hy, p⟩
  have q := hk i ys H p
  by_cases hlt : i < xs.length
  · refine .inr ⟨⟨xs, xs[i], q, by simp [hlt]⟩, by omega, fun x H' y => ?_⟩
    obtain ⟨e, y⟩ := y
    subst e
    exact hs i x ys _ (fun ys' H5 => ∃ m', m' < xs.length - i ∧ m' = xs.length - (i + 1) ∧ i + 1 ≤ xs.length ∧ ys'.length ≤ i + 1 ∧ Pv (i + 1) ys' H5) (y xs q) hy p fun ys' H' h1 h2 => ⟨xs.length - (i + 1), by omega, rfl, hlt, h1, h2⟩
  · have e : i = xs.length := by omega
    subst e
    exact .inl ⟨⟨xs, q, Nat.le_refl _⟩, by omega, hd ys H hy p⟩

/-! ### != of two lists of plain values -/
def rNeL (K : PySem.W.Frag) : R2 := fun x y H Q => ∃ p q xs ys, x = .ref p ∧ y = .ref q ∧ SqL K H p xs ∧ SqL K H q ys ∧ xs.all flatV = true ∧ ys.all flatV = true ∧ Q (.bl (!eqVs xs ys)) H
theorem op_neL (hu : X.A.units < cLine) : OpR X (compareOp .NotEq) (rNeL X.K) := by
  intro pins s σ H x y v u Q I rx ry h
  obtain ⟨p, q, xs, ys, rfl, rfl, hp, hq, fx, fy, k⟩ := h
  cases rx
  cases ry
  obtain ⟨its, r1, p1, _⟩ := I.list hp
  obtain ⟨jts, r2, p2, _⟩ := I.list hq
  by_cases hl : xs.length = ys.length
  · refine SeqAt.RcNeAt.lists (e := fun j => eqV (xs.getD j .non) (ys.getD j .non)) p1.isList p2.isList (by simp; rw [← r1.length, ← r2.length]; exact hl) hu (fun j h1 h2 => ?_) _ _ _ _ ?_
    · obtain ⟨a1, b1⟩ := r1.at h1
      obtain ⟨a2, b2⟩ := r2.at h2
      exact eqAt_V a1 a2 (List.all_eq_true.mp fx _ (List.mem_of_getElem? b1)) (List.all_eq_true.mp fy _ (List.mem_of_getElem? b2))
    · refine ⟨.bl _, H, I, rfl, ?_⟩
      have e : its.toArray.size = xs.length := by rw [List.size_toArray, r1.length]
      rw [e]
      unfold eqVs at k
      rw [decide_eq_true hl, Bool.true_and] at k
      exact k
  · refine SeqAt.RcNeAt.lists_lengths p1.isList p2.isList ?_ hu _ _ _ _ ?_
    · rw [List.size_toArray, List.size_toArray, ← r1.length, ← r2.length]
      simpa using hl
    · refine ⟨.bl true, H, I, rfl, ?_⟩
      unfold eqVs at k
      rw [decide_eq_false hl, Bool.false_and] at k
      exact k
end
end L2

namespace L2
open PySem PySem.Spec PyProof.Rows
section
variable {X : Cx} {scope : Scope} {cl : List (Str × Addr)} {x : Str} {ys : List Str} {ix : List Nat}
theorem ps_setc {elt iter : Expr} {ifs : List Expr} {px pos py spos : Pos} {wi : TI} {tt : TT} {te : TE} {i : Nat} {y : Str} (n : CompNames X scope cl x ys ix) (hc : X.calm = true) (hi : PI X (.Name x px) iter wi)
    (ht : ∀ C fp s H, PTs (cmpCx X (x :: ys) scope cl C fp s H) ifs tt) (he : ∀ C fp s H, PE (cmpCx X (x :: ys) scope cl C fp s H) elt te) (hN : X.N.Nodup) (hy : X.N[i]? = some y) (hL : Loc X.env.scope y)
    (hsw : swapsWith (.ListComp elt [⟨.Name x px, iter, ifs, 0⟩] scope pos) (some (.Name y py)) spos.line X.env = pure true := by rfl) (hs : ∀ x, foldedSetIterable iter X.env x = pure x := by intro _; rfl)
    (hf : X.fn y = true ∨ X.env.scope.names.lookup y = some .local := by first | exact .inl rfl | exact .inr rfl | assumption) :
    PS X (.Assign [.Name y py] (.ListComp elt [⟨.Name x px, iter, ifs, 0⟩] scope pos) spos) (tAsg (tComp wi ix tt te) (gName i)) := by
  intro pins s σ H D I h
  rw [exec_Assign_Name_used _ _ _ _ hsw]
  refine wpAny_bind (wpAny_standAt (wpAny_bind ?_))
  show wpAny _ X.A (do let _ ← comprehension (.ListComp elt [⟨.Name x px, iter, ifs, 0⟩] scope pos) scope X.env _ (newList []) false (eval iter X.env) (some (assign (.Name y py) X.env))) _ _ s
  refine wpAny_bind (wpAny_mono (wpAny_comprehension_free (use := some (assign (.Name y py) X.env)) (Q := fun _ s' => SP X pins D .next s') rfl hs n.clos n.kind n.names'
    (thn (hi pins s σ H _ I h) fun v s1 h1 => thn h1 fun itv s2 h2 => ?_)) (fun _ s' hq => wpAny_pure (wpAny_pure hq)) fun _ _ e => e)
  obtain ⟨it, fp, tn, J, H2, e, I2, T, st2, f2, W, ⟨m0, w0⟩, turn⟩ := h2
  subst e
  refine comp_block (RR := fun acc C => compPost (model X.prog X.w) X.A X.xe (some (assign (.Name y py) X.env)) (fun _ s' => SP X pins D .next s') acc C) n hc ht he I2 T st2 f2 w0 turn ?_
  intro D' C s4 H3 zs m I4 hn4 fC nD q
  show wpAny _ X.A (assign (.Name y py) X.env (.ref D')) _ _ s4
  refine wpAny_assign_Name (store_ok2 (v := .ref D') I4 hN hy hL rfl (fun s5 I5 ⟨a, sb, ha⟩ => ?_) hf)
  have hCa : C ≠ a := by
    rcases ha with e | e
    · rw [e]; exact fC.2.1
    · exact Ne.symm (fC.2.2.2.2.1 _ _ e)
  refine ⟨m, hn4.sameBut sb hCa, fun h' hs' => ?_⟩
  exact ⟨_, _, I5.turned (t' := s5.toks) (fun b o hb e => hs'.extBut b o hb e) fC.1 fC.2.1 fC.2.2.2.1 fC.2.2.2.2.1 fC.2.2.2.2.2, q D' nD⟩
end
end L2

namespace L2
open PySem PySem.Spec PyProof.Rows
/-! ### steps of the machine that leave what an exception was made under -/
/-- the exception at a was made where none was handled -/
def NoCtx (h : Heap) (a : Addr) : Prop := ∃ o vs, h.get? a = some o ∧ o.data = .fields vs ∧ vs[2]? = some .none
def KeepF (f : Obj → Obj) : Prop := ∀ o vs, o.data = .fields vs → ∃ vs', (f o).data = .fields vs' ∧ vs'[2]? = vs[2]?
/-- a tree that calls nothing and writes no third field -/
def Tm {α : Type} : Sem α → Prop
  | .pure _ | .raise _ | .unsupported _ | .finish _ | .register _ _ => True
  | .rule _ k => Tm (k ())
  | .at _ k => Tm (k ())
  | .load _ _ k => ∀ o, Tm (k o)
  | .update _ _ f k => KeepF f ∧ Tm (k ())
  | .alloc _ k => ∀ a, Tm (k a)
  | .loadIfAlive _ k => ∀ o, Tm (k o)
  | .point _ k => Tm (k ())
  | .fresh k => ∀ o, Tm (k o)
  | .ask k => ∀ o, Tm (k o)
  | .handled _ k => ∀ o, Tm (k o)
  | .stack k => ∀ o, Tm (k o)
  | .thread k => ∀ o, Tm (k o)
  | _ => False
section
variable {M : Model} {A : Around} {E : Value → Shared → Prop} {s : Shared} {base : Heap} {env : Env} {outer : List Env} {L e : Addr} {cls a0 : Value} {Q : Unit → Shared → Prop}
end
/-! ### exceptions: how one lies behind a call, how it passes a def, how it is made -/
/-- behind a call: the exception at a, of class cls; B: all that stays as it is while it passes -/
def CX1 (P : Program) (w : World) : CXT := fun outer H s E e s' => ∃ (a : Addr) (cls a0 : Value) (H' : Hp) (B : Heap), e = .ref a ∧ s'.os = s.os ∧ AllBare s'.gens ∧ Un (frs outer) [] H H' s.heap s'.heap ∧
  HOk P w H' B ∧ (Heap.FlyingW B outer a cls a0 s'.heap ∧ NoCtx s'.heap a) ∧ (∀ b o, s.heap.get? b = some o → b ∉ frs outer → ∃ o', B.get? b = some o') ∧ E cls none H'

/-- the body of a def that an exception may leave: E is wanted of it -/
structure Lv (X : Cx) (E : XK) : Prop where
  stk : X.stack = X.env :: X.outer
  fr : X.env.frame = some X.env.locals
  ex : X.ex = []
  xe : ∀ e s', wpAny (model X.prog X.w) X.A (leaving X.env e) (fun _ s'' => CX1 X.prog X.w X.outer X.H₀ X.s₀ E e s'') (fun e' s'' => CX1 X.prog X.w X.outer X.H₀ X.s₀ E e' s'') s' → X.xe e s'

section
variable {X : Cx} {E : XK} {pins : List (Addr × Obj)} {σ : St} {H H' : Hp} {s : Shared}
end

/-! ### raise C(..) -/
def tRaise (cls : Value) (E : XK) (t : TA) : TS := fun _ σ H => t σ H fun vs H1 => vs.length ≤ sizeLine ∧ E cls none H1
section
variable {X : Cx} {E : XK} {x : Str} {C : Addr} {bm bmN : List Value} {B Bn newId nid initId inN : String} {np cpos pos : Pos} {e₀ : Expr} {es : List Expr} {t : TA}
end
end L2

namespace L2
open PySem PySem.Spec PyProof.Rows
/-! ### a def that may raise, by its promise -/
/-- a wish about exceptions, by the names' values -/
abbrev XS := St → XK
structure DfX (P : Program) (w : World) (K : PySem.W.Frag) (mg : Str → Option Value) (base : Heap) (k : Nat) (x : Str) (ps : List Str) (sp : Sp) : Prop where
  ex : ∃ (f : Addr) (fd : FuncData), FnOk P w K mg base (CX1 P w) k f fd ps sp ∧ mg x = some (.ref f) ∧ PySem.W.keepIn K (.ref f) = true ∧ Binds K fd ps []
section
variable {P : Program} {w : World} {K : PySem.W.Frag} {mg : Str → Option Value} {base : Heap}
end
def tCallX (sp : Sp) (Ex : XS) (t : TA) : TE := fun σ H Q => t σ H fun vs H1 => sp vs H1 Q (Ex σ)
def PassesX (X : Cx) (Ex : XS) : Prop := ∀ (pins : List (Addr × Obj)) (σ : St) (H : Hp) (s : Shared) (e : Value) (s' : Shared), Inv X pins σ H s → CX1 X.prog X.w X.stack H s (Ex σ) e s' → X.xe e s'
section
variable {X : Cx} {k j : Nat} {x : Str} {ps : List Str} {sp : Sp} {e : Expr} {es : List Expr} {p pos : Pos} {t : TA} {Ex : XS}
end

/-! ### try: .. except C as n: .. -/
/-- an exception of the class cls, made where none was handled -/
def excO (a : Addr) (cls : Value) : HO := .ext fun h => ∃ o, h.get? a = some o ∧ o.cls = cls ∧ ∃ vs, o.data = .fields vs ∧ vs[2]? = some .none
abbrev Cx.pinned (X : Cx) (pins : List (Addr × Obj)) : Cx := { X with pn := X.pn ++ pins }
abbrev Cx.tryX (X : Cx) (pins : List (Addr × Obj)) (Ex : XS) : Cx := (X.pinned pins).wish fun e s' => ∃ pins' σ H s, Inv (X.pinned pins) pins' σ H s ∧ CX1 X.prog X.w X.stack H s (Ex σ) e s'
abbrev Cx.inExc (X : Cx) (e : Value) : Cx := { X with A := X.A.mark (some e), calm := false, xe := fun _ _ => False }
section
variable {X : Cx} {pins pins' : List (Addr × Obj)} {σ : St} {H H' : Hp} {s : Shared}
end
end L2

namespace L2
open PySem PySem.Spec PyProof.Rows
def tTry (tb : XS → TS) (K : PySem.W.Frag) (R : Value) (i : Nat) (ts : TS) : TS := fun D σ H => ∃ Ex : XS, tb Ex D σ H ∧ ∀ σ' cls H', Ex σ' cls none H' → PySem.W.exmOne K cls R = some true ∧ ∀ a, H' a = none →
  ts { nx := fun σ2 H2 => D.nx (σ2.set i none) H2, rt := D.rt, bk := fun σ2 H2 => D.bk (σ2.set i none) H2, ct := fun σ2 H2 => D.ct (σ2.set i none) H2 } (σ'.set i (some (.ref a))) (upd H' a (excO a cls))
section
variable {X : Cx} {Ex : XS} {pins : List (Addr × Obj)} {tb : XS → TS} {ts : TS} {c n : Str} {i : Nat} {R : Addr} {body suite : List Stmt} {b₀ : Stmt} {np hpos pos : Pos}
end
end L2

/-! ### the class of an exception of an own class, as isinstance asks for it -/
namespace Mr.X
open PySem PySem.W PySem.Spec PySem.Calls PyProof.Rows Builtin Builtin.ObjectAttr Builtin.Getset_descriptor
section
variable {prog : Program} {w : World} {A : Around} {E : Value → Shared → Prop} {K : Frag} {D a : Addr} {h : Heap} {g : Array GenState} {d : Drawn} {t : Nat} {os : OsState} {o : Obj}
end
/-- what the fragment has of an own exception class -/
structure ExC (K : Frag) (D : Addr) : Prop where
  ga : findIn K (.ref D) "__getattribute__" = some (some (.builtin "BaseException.__getattribute__"))
  gt : findIn K (.ref D) "__getattr__" = some none
  cl : findIn K (.ref D) "__class__" = some (some (.builtin "object.__class__"))
  be : subIn K (.ref D) (.type "BaseException") = some true
  ob : mroIn K D (.type "object") = some true
  is : ∃ c d cd sl, K.lookup D = some ⟨c, d, .cls cd, sl⟩
end Mr.X
namespace L2
open PySem PySem.Spec PyProof.Rows
section
variable {X : Cx}
end
end L2

namespace L2
open PySem PySem.Spec PyProof.Rows
/-! ### a def that is called within an except suite: it makes no exception -/
structure RoomN (k : Nat) (A : Around) : Prop where
  dp : A.depth + 3 * k + 5 < recursionLimit
  un : A.units + 16 * k + 200 < cLine
structure FnOkN (P : Program) (w : World) (K : PySem.W.Frag) (mg : Str → Option Value) (base : Heap) (k : Nat) (f : Addr) (fd : FuncData) (ps : List Str) (sp : Sp) : Prop where
  len : ∀ vs H Q E, sp vs H Q E → vs.length = ps.length
  run : ∀ (A : Around) (outer : List Env) (s : Shared) (H : Hp) (args : Args) (us : List Value) (vs : List V) (Q : VK) (E : XK), RoomN k A → Env0 P w K mg base A outer s H → BindsTo s fd args (ps.zip us) → Vals vs us → sp vs H Q E →
    codeAny (model P w) A (.call (.ref f) args) (CR CX0 outer P w H s Q E) s
abbrev cxN (P : Program) (w : World) (K : PySem.W.Frag) (mg : Str → Option Value) (base : Heap) (N : List Str) (qual : Str) (scope : Scope) (f : Addr) (cd : Value) (A : Around) (outer : List Env) (s : Shared) (H : Hp) : Cx :=
  { (cxOf CX0 P w K mg base N qual scope f cd A outer s H E0).nox with calm := false }
structure DfN (P : Program) (w : World) (K : PySem.W.Frag) (mg : Str → Option Value) (base : Heap) (k : Nat) (x : Str) (ps : List Str) (sp : Sp) : Prop where
  ex : ∃ (f : Addr) (fd : FuncData), FnOkN P w K mg base k f fd ps sp ∧ mg x = some (.ref f) ∧ PySem.W.keepIn K (.ref f) = true ∧ Binds K fd ps []
section
variable {P : Program} {w : World} {K : PySem.W.Frag} {mg : Str → Option Value} {base : Heap}
end
section
variable {X : Cx} {k j : Nat} {x : Str} {ps : List Str} {sp : Sp} {e : Expr} {es : List Expr} {p pos : Pos} {t : TA}
end
end L2

namespace L2
open PySem PySem.Spec PyProof.Rows PySem.SeqAt PySem.MeetsSeq
/-! ### xs.count(b), xs.index(b) of truths -/
def isB (b : Bool) : Value → Bool
  | .bool c => c == b
  | _ => false
def rCountB : V → List V → Hp → VK → Prop := fun x vs H Q => ∃ (l : Addr) (bs : List Bool) (b : Bool), x = .ref l ∧ vs = [.bl b] ∧ H l = some (.lst (bs.map V.bl)) ∧ Q (.int (bs.count b : Nat)) H
def rIndexB : V → List V → Hp → VK → Prop := fun x vs H Q => ∃ (l : Addr) (bs : List Bool) (b : Bool) (j : Nat), x = .ref l ∧ vs = [.bl b] ∧ H l = some (.lst (bs.map V.bl)) ∧ bs[j]? = some b ∧ (∀ m, m < j → bs[m]? = some (!b)) ∧ Q (.int (j : Nat)) H
section
variable {X : Cx}
end
end L2

namespace L2
open PySem PySem.Spec PyProof.Rows
/-- raise C(..), C under ValueError -/
def Er (K : PySem.W.Frag) (mg : Str → Option Value) (x : Str) (C : Addr) : Prop := mg x = some (.ref C) ∧ PySem.W.excIn K C [.type "ValueError", .type "Exception", .type "BaseException", .type "object"] "ValueError.__new__" = true
end L2

namespace L2
open PySem PySem.Spec PyProof.Rows
/-! rules within a comprehension, where the context's K must be said plainly -/
section
variable {X : Cx} {K : PySem.W.Frag}
theorem ix_listK (h : X.K = K) : IxR X (rIxL K) := h ▸ ix_list
theorem ix_tupK (h : X.K = K) : IxR X (rIxT K) := h ▸ ix_tup
theorem call_len_seqK (h : X.K = K) : CallR X (.builtin "len") (fun xs H Q => ∃ p ys, xs = [.ref p] ∧ (SqL K H p ys ∨ SqT K H p ys) ∧ Q (.int ys.length) H) := h ▸ call_len_seq
theorem op_notIn_seqK (h : X.K = K) : OpR X (compareOp .NotIn) (rIn K true) := h ▸ op_notIn_seq
end
end L2

namespace L2
open PySem PySem.Spec PyProof.Rows PySem.SeqAt PySem.MeetsSeq
/-! ### sum and max of a list of ints; xs.index(n); tuples and None compared by != -/
section
variable {X : Cx}
def isI (n : Int) : Value → Bool
  | .int c _ => c == n
  | _ => false
def rIndexI : V → List V → Hp → VK → Prop := fun x vs H Q => ∃ (l : Addr) (ns : List Int) (n : Int) (j : Nat), x = .ref l ∧ vs = [.int n] ∧ H l = some (.lst (ns.map V.int)) ∧ ns[j]? = some n ∧ (∀ m, m < j → ns[m]? ≠ some n) ∧ Q (.int (j : Nat)) H
/-- None against None, or two tuples of plain values, or one of each -/
def rNeTN : R2 := fun x y H Q => (x = .non ∧ y = .non ∧ Q (.bl false) H) ∨ ∃ p q xs ys, x = .ref p ∧ y = .ref q ∧ H p = some (.tup xs) ∧ H q = some (.tup ys) ∧ xs.all flatV = true ∧ ys.all flatV = true ∧ Q (.bl (!eqVs xs ys)) H
end
end L2

namespace L2
open PySem PySem.Spec PyProof.Rows
/-! ### for a, b in enumerate(xs), in zip(xs, ys) -/
section
variable {X : Cx} {pins : List (Addr × Obj)} {σ : St} {H : Hp} {s : Shared} {h' : Heap} {wr : List Addr} {t' : Nat}
/-- the iterator's records have turned, and a new tuple stands at T -/
theorem Inv.turnedT {T : Addr} {xs : List V} (I : Inv X pins σ H s) (k : ∀ b o, b ∉ wr → s.heap.get? b = some o → h'.get? b = some o) (hf : ∀ b ∈ wr, FpOk X pins H b) (hT : s.heap.objs.size ≤ T) (new : ObjOk X.prog X.w (upd H T (.tup xs)) h' T (.tup xs)) :
    Inv X pins σ (upd H T (.tup xs)) { s with heap := h', toks := t' } := by
  have hn : H T = none := I.hok.fresh hT
  have nit : ∀ b u, H b = some u → b ∉ wr := fun b u e z => by rw [(hf b z).1] at e; cases e
  have neT : ∀ b o, s.heap.get? b = some o → b ≠ T := fun b o e => Nat.ne_of_lt (Nat.lt_of_lt_of_le (Heap.lt_size e) hT)
  refine I.step (g' := s.gens) (d' := s.drawn) (ch := wr) (fun b hb => ?_) (fun b o _ _ hc e _ => k b o hc e) (fun b o _ _ hc e _ => ⟨o.slots, k b o hc e⟩) (fun b o _ e n => by rw [upd_ne (neT b o e)]; exact n)
    (fun b o hc e => ⟨o, k b o hc e⟩) (fun b ys e => by rw [upd_ne (ne_of_none e hn)]; exact e) (fun b _ _ e => by rw [upd_ne (ne_of_none e hn)]; exact e) (fun b ps e => ⟨#[], by rw [upd_ne (ne_of_none e hn), e]; simp⟩) (fun m hm => ?_) (fun b u e => ?_) I.bare
  · obtain ⟨_, f1, _, f3, f4, f5⟩ := hf b hb
    exact ⟨f3, f1, f4, f5⟩
  · obtain ⟨o, es, ep, ho, r⟩ := hm
    exact ⟨o, es, ep, k _ o (fun z => (hf _ z).2.1 rfl) ho, r⟩
  · by_cases hb : b = T
    · subst hb; rw [upd_same] at e; cases e; exact new
    · rw [upd_ne hb] at e
      refine (I.hok b u e).stay (fun c v hc q => k c v ?_ q) (fun c q => by rw [upd_ne (ne_of_none q hn)]; exact q) fun c xs q => by rw [upd_ne (ne_of_none q hn)]; exact q
      rcases hc with z | z
      · rw [z]; exact nit b u e
      · exact nit c _ z
theorem Inv.turnedL (I : Inv X pins σ H s) (k : ∀ b o, b ∉ wr → s.heap.get? b = some o → h'.get? b = some o) (hf : ∀ b ∈ wr, FpOk X pins H b) : Inv X pins σ H { s with heap := h', toks := t' } := by
  have nit : ∀ b u, H b = some u → b ∉ wr := fun b u e z => by rw [(hf b z).1] at e; cases e
  refine I.step (g' := s.gens) (d' := s.drawn) (ch := wr) (fun b hb => ?_) (fun b o _ _ hc e _ => k b o hc e) (fun b o _ _ hc e _ => ⟨o.slots, k b o hc e⟩) (fun b o _ e n => n)
    (fun b o hc e => ⟨o, k b o hc e⟩) (fun b ys e => e) (fun b _ _ e => e) (fun b ps e => ⟨#[], by rw [e]; simp⟩) (fun m hm => ?_) (fun b u e => ?_) I.bare
  · obtain ⟨_, f1, _, f3, f4, f5⟩ := hf b hb
    exact ⟨f3, f1, f4, f5⟩
  · obtain ⟨o, es, ep, ho, r⟩ := hm
    exact ⟨o, es, ep, k _ o (fun z => (hf _ z).2.1 rfl) ho, r⟩
  · refine (I.hok b u e).stay (fun c v hc q => k c v ?_ q) (fun _ q => q) fun _ _ q => q
    rcases hc with z | z
    · rw [z]; exact nit b u e
    · exact nit c _ z
end
/-- the list at a: at each turn a new tuple (i, item) -/
def Ite (a : Addr) : It :=
  ⟨fun i H => ∃ xs x, H a = some (.lst xs) ∧ xs[i]? = some x, fun i H x H' => ∃ (T : Addr) (v : V), x = .ref T ∧ H T = none ∧ H' = upd H T (.tup [.int (i : Int), v]) ∧ ∀ xs, H a = some (.lst xs) → xs[i]? = some v, fun i H => ∃ xs, H a = some (.lst xs) ∧ xs.length = i⟩
theorem turn_enum {P : Program} {w : World} {K : PySem.W.Frag} {elts : List Expr} {k : Nat} {pos : Pos} (e it l : Addr) (hei : e ≠ it) :
    Turn P w K (.Tuple elts k pos) (Ite l) [e, it] e (fun i h => (∃ old, IsEnum h e it i old) ∧ h.IsListIter it l i) where
  mem := by simp
  obj := fun i h st b hb => by
    obtain ⟨⟨old, he⟩, o, h1, c, d⟩ := st
    have hb' : b = e ∨ b = it := by simpa using hb
    rcases hb' with rfl | rfl
    · exact ⟨_, he, fun v z => by cases z⟩
    · exact ⟨o, h1, fun v z => by rw [d] at z; cases z⟩
  keep := fun i h h' st kk => by
    obtain ⟨⟨old, he⟩, hit⟩ := st
    exact ⟨⟨old, kk e (by simp) _ he⟩, hit.at fun o x => kk it (by simp) o x⟩
  item := by
    intro X hP hw hK hc i pins s σ H E I hf st hg
    subst hP hw hK
    obtain ⟨xs, x, hq, hx⟩ := hg
    obtain ⟨its, rv, p, hz⟩ := I.list (SqL.of (K := X.K) hq)
    obtain ⟨u, hu, ru⟩ := rv.get hx
    obtain ⟨st1, st2⟩ := st
    have hwr : ∀ b ∈ [e, it], FpOk X pins H b := hf
    have lne : ∀ b ∈ [e, it], l ≠ b := fun b hb z => by
      have h0 := (hf b hb).1
      rw [← z] at h0
      rw [h0] at hq; cases hq
    have W := WalksT.enumerate (prog := X.prog) (w := X.w) (A := X.A) (I.ok.hd hc) e it l hei (lne e (by simp)) (lne it (by simp)) its.toArray
    have hi : i < its.toArray.size := by
      have := (List.getElem?_eq_some_iff.mp hu).1
      simpa using this
    refine W.item i s _ _ hi ⟨st1, st2, p.isList⟩ fun T vals h' tk hP hT hIs hM hk => ⟨.ref T, rfl, ?_⟩
    obtain ⟨t, x', hx', rfl⟩ := hP
    have hxu : x' = u := by
      have : its.toArray[i]? = some u := by simpa using hu
      rw [this] at hx'; exact (Option.some.inj hx').symm
    subst hxu
    have I1 : Inv X pins σ (upd H T (.tup [.int (i : Int), x])) { s with heap := h', toks := tk } :=
      I.turnedT (t' := tk) hk hwr hT ⟨by show 2 ≤ sizeLine; decide, [.int i t, x'], .cons ⟨t, rfl⟩ (.cons ru .nil), hIs⟩
    have hn : H T = none := I.hok.fresh hT
    have hnT : ∀ b ∈ [e, it], b ≠ T := fun b hb z => W.apart i T h' hM (z ▸ hb)
    refine W.go elts k pos i T { s with heap := h', toks := tk } _ _ hM fun h2 st' hk2 => ?_
    have hf2 : ∀ b ∈ [e, it], FpOk X pins (upd H T (.tup [.int (i : Int), x])) b := fun b hb => ⟨by rw [upd_ne (hnT b hb)]; exact (hf b hb).1, (hf b hb).2⟩
    refine ⟨.ref T, _, I1.turnedL (h' := h2) (t' := tk) hk2 hf2, rfl, ⟨T, x, rfl, hn, rfl, fun ys hy => by rw [hq] at hy; cases hy; exact hx⟩, ⟨by simpa using st'.1, st'.2.1⟩, fun b hb => (hf2 b hb).1⟩
  done := by
    intro X hP hw hK hc i pins s σ H E I hf st hg
    subst hP hw hK
    obtain ⟨xs, hq, hx⟩ := hg
    obtain ⟨its, rv, p, hz⟩ := I.list (SqL.of (K := X.K) hq)
    obtain ⟨st1, st2⟩ := st
    have lne : ∀ b ∈ [e, it], l ≠ b := fun b hb z => by
      have h0 := (hf b hb).1
      rw [← z] at h0
      rw [h0] at hq; cases hq
    have W := WalksT.enumerate (prog := X.prog) (w := X.w) (A := X.A) (I.ok.hd hc) e it l hei (lne e (by simp)) (lne it (by simp)) its.toArray
    have hl : its.toArray.size = i := by rw [← hx, List.size_toArray]; exact rv.length.symm
    refine W.done s _ _ (by rw [hl]; exact ⟨st1, st2, p.isList⟩) fun h' tk hk => ⟨rfl, I.turnedL (t' := tk) hk hf⟩
  self := fun _ _ _ _ _ st h => by
    obtain ⟨⟨old, he⟩, _⟩ := st
    exact wpAny_pyIter_enum he h
def iEnum (ta : TA) : TI := fun σ H R => ta σ H fun vs H1 => ∃ (a : Addr) (xs : List V), vs = [.ref a] ∧ H1 a = some (.lst xs) ∧ R (Ite a) H1
theorem boot_enum : bootBuiltins "enumerate" = some (.type "enumerate") := by decide +kernel
theorem boot_zip : bootBuiltins "zip" = some (.type "zip") := by decide +kernel
section
variable {X : Cx} {elts : List Expr} {k : Nat} {tp : Pos}
theorem pi_enum {a : Expr} {ta : TA} {p pos : Pos} (hg : Gl X "enumerate") (hm : X.mg "enumerate" = none) (ha : PA X [a] ta) (hs : starEach [a] X.env = [(false, eval a X.env)] := by rfl) : PI X (.Tuple elts k tp) (.Call (.Name "enumerate" p) [a] [] pos) (iEnum ta) := by
  intro pins s σ H R I h
  refine Call_ (ld_blt I hg hm boot_enum (PyProof.Rows.callWith_type1 (thn (ha pos pins s σ H _ I h) fun us s1 ⟨vs, H1, I1, r1, q1⟩ => ?_) hs rfl))
  obtain ⟨a, xs, e, hq, q⟩ := q1
  subst e
  cases r1 with
  | cons r rr =>
    cases rr
    cases r
    obtain ⟨its, rv, p, hz⟩ := I1.list (SqL.of (K := X.K) hq)
    refine call_enumerate_list p.isList fun h' hE hI hsz hk => ?_
    refine wpAny_pyIter_enum (s := { s1 with heap := h' }) hE ?_
    have I2 : Inv X pins σ H1 { s1 with heap := h' } := I1.kept (t' := s1.toks) hk
    refine ⟨s1.heap.objs.size + 1, [s1.heap.objs.size + 1, s1.heap.objs.size], _, _, H1, rfl, I2, turn_enum (s1.heap.objs.size + 1) s1.heap.objs.size a (Nat.succ_ne_self _), ⟨⟨_, hE⟩, hI⟩, fun b hb => ?_, q⟩
    have hb' : b = s1.heap.objs.size + 1 ∨ b = s1.heap.objs.size := by simpa using hb
    have hge : s1.heap.objs.size ≤ b := by
      rcases hb' with rfl | rfl
      · exact Nat.le_succ _
      · exact Nat.le_refl _
    exact I1.fpOk hge (I1.hok.fresh hge)
end
/-- two lists at once: at each turn a new tuple of both items -/
def Itz (a b : Addr) : It :=
  ⟨fun i H => ∃ xs ys x y, H a = some (.lst xs) ∧ H b = some (.lst ys) ∧ xs[i]? = some x ∧ ys[i]? = some y,
   fun i H z H' => ∃ (T : Addr) (x y : V), z = .ref T ∧ H T = none ∧ H' = upd H T (.tup [x, y]) ∧ ∀ xs ys, H a = some (.lst xs) → H b = some (.lst ys) → xs[i]? = some x ∧ ys[i]? = some y,
   fun i H => ∃ xs ys, H a = some (.lst xs) ∧ H b = some (.lst ys) ∧ min xs.length ys.length = i⟩
theorem turn_zip {P : Program} {w : World} {K : PySem.W.Frag} {elts : List Expr} {k : Nat} {pos : Pos} (z TI TO i1 i2 l1 l2 : Addr) (D : ZipApart z TI TO i1 i2 l1 l2) :
    Turn P w K (.Tuple elts k pos) (Itz l1 l2) [z, TI, TO, i1, i2] z (fun i h => IsZip h z TI TO .none ∧ IsPair h TI (.ref i1) (.ref i2) ∧ (∃ a b, IsPair h TO a b) ∧ h.IsListIter i1 l1 i ∧ h.IsListIter i2 l2 i) where
  mem := by simp
  obj := fun i h st b hb => by
    obtain ⟨hz, hTI, ⟨a', b', hTO⟩, ⟨o1, e1, c1, d1⟩, ⟨o2, e2, c2, d2⟩⟩ := st
    have hb' : b = z ∨ b = TI ∨ b = TO ∨ b = i1 ∨ b = i2 := by simpa using hb
    rcases hb' with rfl | rfl | rfl | rfl | rfl
    · exact ⟨_, hz, fun v z => by cases z⟩
    · exact ⟨_, hTI, fun v z => by cases z⟩
    · exact ⟨_, hTO, fun v z => by cases z⟩
    · exact ⟨o1, e1, fun v z => by rw [d1] at z; cases z⟩
    · exact ⟨o2, e2, fun v z => by rw [d2] at z; cases z⟩
  keep := fun i h h' st kk => by
    obtain ⟨hz, hTI, ⟨a', b', hTO⟩, h1, h2⟩ := st
    exact ⟨kk z (by simp) _ hz, kk TI (by simp) _ hTI, ⟨a', b', kk TO (by simp) _ hTO⟩, h1.at fun o x => kk i1 (by simp) o x, h2.at fun o x => kk i2 (by simp) o x⟩
  item := by
    intro X hP hw hK hc i pins s σ H E I hf st hg
    subst hP hw hK
    obtain ⟨xs, ys, x, y, hq, hq2, hx, hy⟩ := hg
    obtain ⟨its, rv, p, hz⟩ := I.list (SqL.of (K := X.K) hq)
    obtain ⟨jts, rv2, p2, hz2⟩ := I.list (SqL.of (K := X.K) hq2)
    obtain ⟨u, hu, ru⟩ := rv.get hx
    obtain ⟨u2, hu2, ru2⟩ := rv2.get hy
    obtain ⟨st1, st2, st3, st4, st5⟩ := st
    have hsub : ∀ b ∈ [z, TO, i1, i2], b ∈ [z, TI, TO, i1, i2] := fun b hb => by
      have hb' : b = z ∨ b = TO ∨ b = i1 ∨ b = i2 := by simpa using hb
      rcases hb' with rfl | rfl | rfl | rfl <;> simp
    have hwr : ∀ b ∈ [z, TO, i1, i2], FpOk X pins H b := fun b hb => hf b (hsub b hb)
    have W := WalksT.zip2 (prog := X.prog) (w := X.w) (A := X.A) (I.ok.hd hc) z TI TO i1 i2 l1 l2 D its.toArray jts.toArray
    have a1 := (List.getElem?_eq_some_iff.mp hu).1
    have a2 := (List.getElem?_eq_some_iff.mp hu2).1
    have hi : i < min its.toArray.size jts.toArray.size := by
      rw [List.size_toArray, List.size_toArray]
      omega
    refine W.item i s _ _ hi ⟨st1, st2, st3, st4, st5, p.isList, p2.isList⟩ fun T vals h' tk hP hT hIs hM hk => ⟨.ref T, rfl, ?_⟩
    obtain ⟨x', y', hx', hy', rfl⟩ := hP
    have hxu : x' = u := by
      have : its.toArray[i]? = some u := by simpa using hu
      rw [this] at hx'; exact (Option.some.inj hx').symm
    have hyu : y' = u2 := by
      have : jts.toArray[i]? = some u2 := by simpa using hu2
      rw [this] at hy'; exact (Option.some.inj hy').symm
    subst hxu hyu
    have I1 : Inv X pins σ (upd H T (.tup [x, y])) { s with heap := h', toks := tk } :=
      I.turnedT (t' := tk) hk hwr hT ⟨by show 2 ≤ sizeLine; decide, [x', y'], .cons ru (.cons ru2 .nil), hIs⟩
    have hn : H T = none := I.hok.fresh hT
    have hTI : s.heap.get? TI = some _ := st2
    have hnT : ∀ b ∈ [z, TI, TO, i1, i2], b ≠ T := fun b hb e => by
      have hb' : b ∈ [z, TO, i1, i2] ∨ b = TI := by
        have hb' : b = z ∨ b = TI ∨ b = TO ∨ b = i1 ∨ b = i2 := by simpa using hb
        rcases hb' with rfl | rfl | rfl | rfl | rfl <;> simp
      rcases hb' with hb' | hb'
      · exact W.apart i T h' hM (e ▸ hb')
      · have := Heap.lt_size hTI
        rw [← hb', e] at this
        exact absurd (Nat.lt_of_lt_of_le this hT) (Nat.lt_irrefl _)
    refine W.go elts k pos i T { s with heap := h', toks := tk } _ _ hM fun h2 st' hk2 => ?_
    have hf2 : ∀ b ∈ [z, TI, TO, i1, i2], FpOk X pins (upd H T (.tup [x, y])) b := fun b hb => ⟨by rw [upd_ne (hnT b hb)]; exact (hf b hb).1, (hf b hb).2⟩
    exact ⟨.ref T, _, I1.turnedL (h' := h2) (t' := tk) hk2 (fun b hb => hf2 b (hsub b hb)), rfl, ⟨T, x, y, rfl, hn, rfl, fun xs' ys' h1 h2 => by rw [hq] at h1; rw [hq2] at h2; cases h1; cases h2; exact ⟨hx, hy⟩⟩, ⟨st'.1, st'.2.1, st'.2.2.1, st'.2.2.2.1, st'.2.2.2.2.1⟩, fun b hb => (hf2 b hb).1⟩
  done := by
    intro X hP hw hK hc i pins s σ H E I hf st hg
    subst hP hw hK
    obtain ⟨xs, ys, hq, hq2, hx⟩ := hg
    obtain ⟨its, rv, p, hz⟩ := I.list (SqL.of (K := X.K) hq)
    obtain ⟨jts, rv2, p2, hz2⟩ := I.list (SqL.of (K := X.K) hq2)
    obtain ⟨st1, st2, st3, st4, st5⟩ := st
    have W := WalksT.zip2 (prog := X.prog) (w := X.w) (A := X.A) (I.ok.hd hc) z TI TO i1 i2 l1 l2 D its.toArray jts.toArray
    have hl : min its.toArray.size jts.toArray.size = i := by rw [← hx, List.size_toArray, List.size_toArray, ← rv.length, ← rv2.length]
    have hsub : ∀ b ∈ [z, TO, i1, i2], b ∈ [z, TI, TO, i1, i2] := fun b hb => by
      have hb' : b = z ∨ b = TO ∨ b = i1 ∨ b = i2 := by simpa using hb
      rcases hb' with rfl | rfl | rfl | rfl <;> simp
    refine W.done s _ _ (by rw [hl]; exact ⟨st1, st2, st3, st4, st5, p.isList, p2.isList⟩) fun h' tk hk => ⟨rfl, I.turnedL (t' := tk) hk fun b hb => hf b (hsub b hb)⟩
  self := fun _ _ _ _ _ st h => wpAny_pyIter_zip st.1 h
def iZip (ta : TA) : TI := fun σ H R => ta σ H fun vs H1 => ∃ (a b : Addr) (xs ys : List V), vs = [.ref a, .ref b] ∧ H1 a = some (.lst xs) ∧ H1 b = some (.lst ys) ∧ R (Itz a b) H1
section
variable {X : Cx} {elts : List Expr} {k : Nat} {tp : Pos}
theorem pi_zip {a b : Expr} {ta : TA} {p pos : Pos} (hg : Gl X "zip") (hm : X.mg "zip" = none) (ha : PA X [a, b] ta) (hs : starEach [a, b] X.env = [(false, eval a X.env), (false, eval b X.env)] := by rfl) (hs2 : starEach [b] X.env = [(false, eval b X.env)] := by rfl) :
    PI X (.Tuple elts k tp) (.Call (.Name "zip" p) [a, b] [] pos) (iZip ta) := by
  intro pins s σ H R I h
  refine Call_ (ld_blt I hg hm boot_zip (PyProof.Rows.callWith_type1 (thn (ha pos pins s σ H _ I h) fun us s1 ⟨vs, H1, I1, r1, q1⟩ => ?_) (by rw [hs, hs2]) (by rw [hs2]; rfl)))
  obtain ⟨a, b, xs, ys, e, hq, hq2, q⟩ := q1
  subst e
  cases r1 with
  | cons r rr =>
    cases rr with
    | cons r' rr =>
      cases rr
      cases r
      cases r'
      obtain ⟨its, rv, p, hz⟩ := I1.list (SqL.of (K := X.K) hq)
      obtain ⟨jts, rv2, p2, hz2⟩ := I1.list (SqL.of (K := X.K) hq2)
      have hlt1 : a < s1.heap.objs.size := I1.hok.lt hq
      have hlt2 : b < s1.heap.objs.size := I1.hok.lt hq2
      refine call_zip_2 p.isList p2.isList fun h' hz hTI hTO hi1 hi2 hsz hk => ?_
      refine wpAny_pyIter_zip (s := { s1 with heap := h' }) hz ?_
      have I2 : Inv X pins σ H1 { s1 with heap := h' } := I1.kept (t' := s1.toks) hk
      refine ⟨s1.heap.objs.size + 4, [s1.heap.objs.size + 4, s1.heap.objs.size + 2, s1.heap.objs.size + 3, s1.heap.objs.size, s1.heap.objs.size + 1], _, _, H1, rfl, I2, turn_zip (s1.heap.objs.size + 4) (s1.heap.objs.size + 2) (s1.heap.objs.size + 3) s1.heap.objs.size (s1.heap.objs.size + 1) a b (PySem.W.ktu_apart _ _ _ hlt1 hlt2), ⟨hz, hTI, ⟨_, _, hTO⟩, hi1, hi2⟩, fun c hc => ?_, q⟩
      have hb' : c = s1.heap.objs.size + 4 ∨ c = s1.heap.objs.size + 2 ∨ c = s1.heap.objs.size + 3 ∨ c = s1.heap.objs.size ∨ c = s1.heap.objs.size + 1 := by simpa using hc
      have hge : s1.heap.objs.size ≤ c := by
        rcases hb' with rfl | rfl | rfl | rfl | rfl
        · exact Nat.le_add_right _ _
        · exact Nat.le_add_right _ _
        · exact Nat.le_add_right _ _
        · exact Nat.le_refl _
        · exact Nat.le_add_right _ _
      exact I1.fpOk hge (I1.hok.fresh hge)
end
/-! the forms one uses -/
theorem for_enum {a : Addr} {xs : List V} {g : TG} {tb : TS} {D : Ends} {σ : St} {H : Hp} (Pv : Nat → St → Hp → Prop) (h0 : Pv 0 σ H) (hl : ∀ i σ H, i ≤ xs.length → Pv i σ H → H a = some (.lst xs))
    (hs : ∀ i x σ H T, xs[i]? = some x → Pv i σ H → H T = none → g (.ref T) σ (upd H T (.tup [.int (i : Int), x])) fun σ2 H2 => tb { D with nx := Pv (i + 1), ct := Pv (i + 1), bk := D.nx } σ2 H2) (hd : ∀ σ H, Pv xs.length σ H → D.nx σ H) :
    ∃ W : Nat → Nat → St → Hp → Prop, (∃ m, W 0 m σ H) ∧ ∀ i m σ H, W i m σ H →
      ((Ite a).stop i H ∧ D.nx σ H) ∨ ((Ite a).go i H ∧ ∃ N : St → Hp → Prop, (∀ σ' H', N σ' H' → ∃ m', m' < m ∧ W (i + 1) m' σ' H') ∧ ∀ x H', (Ite a).yld i H x H' → g x σ H' fun σ2 H2 => tb { D with nx := N, ct := N, bk := D.nx } σ2 H2) := by
  refine ⟨fun i m σ H => m = xs.length - i ∧ i ≤ xs.length ∧ Pv i σ H, ⟨xs.length, by simp, Nat.zero_le _, h0⟩, ?_⟩
  rintro i m σ H ⟨rfl, hi, p⟩
  have q := hl i σ H hi p
  by_cases hlt : i < xs.length
  · refine .inr ⟨⟨xs, xs[i], q, by simp [hlt]⟩, Pv (i + 1), fun σ' H' p' => ⟨xs.length - (i + 1), by omega, rfl, hlt, p'⟩, fun x H' y => ?_⟩
    obtain ⟨T, v, rfl, hn, rfl, hv⟩ := y
    exact hs i v σ H T (hv xs q) p hn
  · have e : i = xs.length := by omega
    subst e
    exact .inl ⟨⟨xs, q, rfl⟩, hd σ H p⟩
end L2

namespace L2
open PySem PySem.Spec PyProof.Rows
/-! ### comprehensions with a target of several names: [.. for a, b in zip(xs, ys)] -/
structure CompNamesL (X : Cx) (scope : Scope) (cl : List (Str × Addr)) (xs : List Str) (ys : List Str) (ix : List Nat) : Prop where
  clos : closureFor scope X.env = pure cl
  cell : (scope.names.all fun y => !(y.2 == NameKind.cell)) = true
  kind : scope.kind = .function
  names : (scope.names.all fun y => !(y.2 == NameKind.local) || scope.names.lookup y.1 == some NameKind.local) = true
  nd : (xs ++ ys).Nodup
  sub : SubOk X cl
  has : ((relabel scope X.env).names.all fun p => !(p.2 == NameKind.cell || p.2 == NameKind.free) || (cl.lookup p.1).isSome) = true
  free : FreeOk X scope cl ys ix
/-- the names' values at the block's start -/
def cstL (k : Nat) (ix : List Nat) (σ : St) : St := List.replicate k none ++ ix.map fun j => (σ[j]?).getD none
/-- .. and with the target stored -/
def cstV (vs : List V) (ix : List Nat) (σ : St) : St := vs.map some ++ ix.map fun j => (σ[j]?).getD none
section
variable {X : Cx} {scope : Scope} {cl : List (Str × Addr)} {xs ys : List Str} {ix : List Nat}
theorem CompNamesL.sub' (n : CompNamesL X scope cl xs ys ix) : ∀ y c, cl.lookup y = some c → X.env.cells.lookup y = some c := fun y c e => n.sub.mem (y, c) (lookup_mem e)
theorem CompNamesL.has' (n : CompNamesL X scope cl xs ys ix) : ∀ y, ((relabel scope X.env).names.lookup y = some .cell ∨ (relabel scope X.env).names.lookup y = some .free) → ∃ c, cl.lookup y = some c := fun y h => by
  have : ∃ k : NameKind, (y, k) ∈ (relabel scope X.env).names ∧ (k = .cell ∨ k = .free) := by
    rcases h with h | h
    · exact ⟨_, lookup_mem h, .inl rfl⟩
    · exact ⟨_, lookup_mem h, .inr rfl⟩
  obtain ⟨k, hm, hk⟩ := this
  have q := List.all_eq_true.mp n.has (y, k) hm
  have : (k == NameKind.cell || k == NameKind.free) = true := by
    rcases hk with rfl | rfl <;> decide
  simp only [this, Bool.not_true, Bool.false_or] at q
  exact Option.isSome_iff_exists.mp q
theorem CompNamesL.cell' (n : CompNamesL X scope cl xs ys ix) : ∀ y ∈ scope.names, y.2 ≠ .cell := fun y hy e => by
  have q := List.all_eq_true.mp n.cell y hy
  rw [e] at q
  exact absurd q (by decide)
theorem CompNamesL.names' (n : CompNamesL X scope cl xs ys ix) : ∀ y ∈ scope.names, y.2 = .local → scope.names.lookup y.1 = some .local := fun y hy e => by
  have q := List.all_eq_true.mp n.names y hy
  rw [e] at q
  have z : (NameKind.local == NameKind.local) = true := by decide
  simp only [z, Bool.not_true, Bool.false_or] at q
  exact eq_of_beq q
/-- the turns of a block whose target may be a tuple that the iterator keeps -/
theorem turns_go {prog : Program} {w : World} {A : Around} {s : Shared} {elt target iter : Expr} {ifs : List Expr} {sc : Scope} {pos : Pos} {it acc : Value} {env : Env} {R : Result → Shared → Prop} (I : Nat → Shared → Prop)
    (turn : ∀ n s, I n s → wpAny (model prog w) A (pyNext it) (fun r s1 => match r with | none => R (.ok .next) s1 | some v => wpAny (model prog w) A (letOwnedTupleGo target it v) (fun _ s0 => wpAny (model prog w) A (assign target env v) (fun _ s2 => wpAny (model prog w) A (forIn ifs true fun c r => if r = true then do let ok ← isTrue c env (eval c env); pure (ForInStep.yield ok) else pure (ForInStep.yield r)) (fun ok s3 => if ok = true then wpAny (model prog w) A (eval elt env) (fun x s4 => wpAny (model prog w) A (call (.builtin "list.append") [acc, x]) (fun _ s5 => ∃ m, m < n ∧ I m s5) (notedBy (model prog w) A env fun e s' => R (.error e) s') s4) (notedBy (model prog w) A env fun e s' => R (.error e) s') s3 else ∃ m, m < n ∧ I m s3) (notedBy (model prog w) A env fun e s' => R (.error e) s') s2) (notedBy (model prog w) A env fun e s' => R (.error e) s') s0) (notedBy (model prog w) A env fun e s' => R (.error e) s') s1) (notedBy (model prog w) A env fun e s' => R (.error e) s') s)
    (n : Nat) (h : I n s) : codeAny (model prog w) A (.compLoop (.ListComp elt [⟨target, iter, ifs, 0⟩] sc pos) 0 it acc env) R s := by
  refine codeAny_loop rfl I (fun n s hI => ?_) n h
  show wpAny _ A ((compTurn (.ListComp elt [⟨target, iter, ifs, 0⟩] sc pos) 0 it acc env).onRaise (fun x => do noteFrame x env; theTreesLotGoes x)) _ _ s
  refine wpAny_noted ?_
  rw [compTurn_list]
  refine wpAny_bind (wpAny_standAt (wpAny_bind (thn (turn n s hI) fun r s1 h1 => ?_)))
  cases r with
  | none => exact wpAny_pure h1
  | some v =>
    refine wpAny_bind (thn h1 fun _ s0 h0 => wpAny_bind (thn h0 fun _ s2 h2 => wpAny_bind (thn h2 fun ok s3 h3 => ?_)))
    cases ok with
    | false => exact wpAny_pure ⟨rfl, h3⟩
    | true => exact wpAny_bind (wpAny_bind (thn h3 fun x s4 h4 => wpAny_bind (thn h4 fun _ s5 h5 => wpAny_pure (wpAny_pure ⟨rfl, h5⟩))))
/-- [te for (a, b, ..) in wi if tt]: k names in the target -/
def tCompL (K : PySem.W.Frag) (k : Nat) (wi : TI) (ix : List Nat) (tt : TT) (te : TE) : TE := fun σ H Q => wi σ H fun J H1 => ∃ W : Nat → Nat → List V → Hp → Prop, (∃ m, W 0 m [] H1) ∧ ∀ i m ys H2, W i m ys H2 →
  (J.stop i H2 ∧ ys.length ≤ sizeLine ∧ ∀ p, H2 p = none → Q (.ref p) (upd H2 p (.lst ys))) ∨
  (J.go i H2 ∧ ys.length ≤ sizeLine ∧ ∀ x H3, J.yld i H2 x H3 → ∃ (a : Addr) (vs : List V), x = .ref a ∧ SqT K H3 a vs ∧ vs.length = k ∧ tt (cstV vs ix σ) H3 fun b H4 =>
    if b = true then te (cstV vs ix σ) H4 fun v H5 => ∃ m', m' < m ∧ W (i + 1) m' (ys ++ [v]) H5 else ∃ m', m' < m ∧ W (i + 1) m' ys H4)
theorem cmp_startL {pins : List (Addr × Obj)} {σ : St} {H : Hp} {s : Shared} {fp : List Addr} {D C : Addr} {h₁ : Heap} {tk : Nat} {ob : Obj} {m : Str → Option Value} (n : CompNamesL X scope cl xs ys ix) (I : Inv X pins σ H s)
    (f : ∀ b ∈ fp, FpOk X pins H b) (fo : ∀ b ∈ fp, b < s.heap.objs.size) (hD : s.heap.objs.size ≤ D) (hC : s.heap.objs.size ≤ C) (hDC : D ≠ C) (old : ∀ b o, s.heap.get? b = some o → h₁.get? b = some o) (hns : h₁.Ns C m) (hob : h₁.get? D = some ob)
    (hcell : ∀ v, ob.data ≠ .cell v) : Inv (cmpCx X (xs ++ ys) scope cl C fp s H) [(D, ob)] (cstL xs.length ix σ) H { s with heap := h₁, toks := tk } := by
  have nst : ∀ b, s.heap.objs.size ≤ b → b ∉ frs X.stack := fun b hb z => by
    rcases List.mem_cons.mp (I.stkSub b z) with e | e
    · exact absurd (Nat.lt_of_lt_of_le I.lt (by rw [← e]; exact hb)) (Nat.lt_irrefl _)
    · exact I.nofs hb e
  have lt_cell : ∀ y c, cl.lookup y = some c → c < s.heap.objs.size := fun y c e => by
    obtain ⟨v, q⟩ := I.cell y c (n.sub' y c e)
    exact q.lt
  refine ⟨⟨I.ok.mod, n.kind, I.ok.glob, I.ok.blt, hC, fun y z c h1 h2 => I.ok.inj y z c (n.sub' y c h1) (n.sub' z c h2), n.has', (fun y c h => absurd (show false = true from h) (by decide)), I.ok.hd, I.ok.frames, .inl rfl, fun b hb => ⟨?_, fun y c e => ?_⟩, I.bs,
    Nat.le_trans I.ok.bsz I.sz, fun b o e hb => ?_, fun b hb z => ?_, I.stack, I.stkFree⟩, rfl, I.bare, Un.kept old, ⟨m, hns, fun i y v h1 h2 h3 => ?_⟩, fun y c e => ?_, I.hok.fresh hC, fun y c e => I.freeC y c (n.sub' y c e), fun p hp => ?_, I.hok.kept old, ?_⟩
  · exact Nat.ne_of_lt (Nat.lt_of_lt_of_le (fo b hb) hC)
  · exact (f b hb).2.2.2.2.1 y c (n.sub' y c e)
  · rcases (f b hb).2.2.2.1 with z | z
    · exact I.ok.noex b o e z
    · exact absurd (Nat.lt_of_lt_of_le (Heap.lt_size e) (Nat.le_trans I.ok.bsz z)) (Nat.lt_irrefl _)
  · rcases List.mem_cons.mp (I.stkSub b z) with e | e
    · exact (f b hb).2.1 e
    · exact (f b hb).2.2.1 e
  · by_cases hi : i < xs.length
    · have h2' : (cstL xs.length ix σ)[i]? = some (some v) := h2
      unfold cstL at h2'
      rw [List.getElem?_append_left (by simpa using hi), List.getElem?_replicate, if_pos hi] at h2'
      cases Option.some.inj h2'
    · obtain ⟨j, rfl⟩ : ∃ j, i = xs.length + j := ⟨i - xs.length, by omega⟩
      have h1' : ys[j]? = some y := by
        have h1'' : (xs ++ ys)[xs.length + j]? = some y := h1
        rw [List.getElem?_append_right (by omega)] at h1''
        simpa using h1''
      obtain ⟨i, e1, e2, e3, e4, e5⟩ := n.free.at j y h1'
      have h2' : (ix.map fun j => (σ[j]?).getD none)[j]? = some (some v) := by
        have h2'' : (cstL xs.length ix σ)[xs.length + j]? = some (some v) := h2
        unfold cstL at h2''
        rw [List.getElem?_append_right (by simp)] at h2''
        simpa using h2''
      rw [List.getElem?_map, e1] at h2'
      have h2'' : (σ[i]?).getD none = some v := Option.some.inj h2'
      have h4 : σ[i]? = some (some v) := by
        cases q : σ[i]? with
        | none => rw [q] at h2''; cases h2''
        | some o => rw [q] at h2''; exact congrArg some h2''
      obtain ⟨m', hn', hl⟩ := I.loc
      obtain ⟨u, r, look⟩ := hl i y v e2 h4 (.inr (.inl e3))
      refine ⟨u, r, .inr ⟨.inl e5, ?_⟩⟩
      rcases look with ⟨k, _⟩ | ⟨_, c, e, z⟩
      · rw [e3] at k; cases k
      · refine ⟨c, e4.trans e, ?_⟩
        obtain ⟨o, ho, hd⟩ := z
        exact ⟨o, old _ _ ho, hd⟩
  · obtain ⟨v, o, ho, hd⟩ := I.cell y c (n.sub' y c e)
    exact ⟨v, o, old _ _ ho, hd⟩
  · have hp' : p ∈ [(D, ob)] := hp
    have e := List.mem_singleton.mp hp'
    subst e
    exact ⟨hob, I.hok.fresh hD, hDC, nst D hD, hcell⟩
  · show (cstL xs.length ix σ).length = (xs ++ ys).length
    simp [cstL, n.free.len]

theorem pe_compL {elt iter : Expr} {elts ifs : List Expr} {kt : Nat} {px pos : Pos} {wi : TI} {gs : TGs} {tt : TT} {te : TE} (n : CompNamesL X scope cl xs ys ix) (hc : X.calm = true) (hi : PI X (.Tuple elts kt px) iter wi)
    (hg : ∀ C fp s H, PG (cmpCx X (xs ++ ys) scope cl C fp s H) (.Tuple elts kt px) (gTup X.K xs.length gs)) (hgs : ∀ (vs : List V) (cs : St) (H : Hp) (Q : St → Hp → Prop), vs.length = xs.length → Q (vs.map some ++ cs) H → gs vs (List.replicate xs.length none ++ cs) H Q)
    (ht : ∀ C fp s H, PTs (cmpCx X (xs ++ ys) scope cl C fp s H) ifs tt) (he : ∀ C fp s H, PE (cmpCx X (xs ++ ys) scope cl C fp s H) elt te)
    (hs : ∀ x, foldedSetIterable iter X.env x = pure x := by intro _; rfl) : PE X (.ListComp elt [⟨.Tuple elts kt px, iter, ifs, 0⟩] scope pos) (tCompL X.K xs.length wi ix tt te) := by
  intro pins s σ H Q I h
  rw [eval_ListComp]
  refine wpAny_comprehension_free (use := none) rfl hs n.clos n.kind n.names' (thn (hi pins s σ H _ I h) fun v s1 h1 => thn h1 fun itv s2 h2 => ?_)
  obtain ⟨it, fp, tn, J, H2, e, I2, T, st2, f2, W, ⟨m0, w0⟩, turn⟩ := h2
  subst e
  have fo : ∀ b ∈ fp, b < s2.heap.objs.size := fun b hb => let ⟨_, e, _⟩ := T.obj _ _ st2 b hb; Heap.lt_size e
  refine wpAny_newObj_type (wpAny_newFunctionEnv n.cell' (by intro y hy; simp at hy) (fun h₁ hns₁ hsb₁ => ?_) n.kind)
  dsimp only at hns₁ hsb₁ ⊢
  generalize hH3 : s2.heap.push { cls := .type "list", dict := none, data := .seq ([] : List Value).toArray } = G at hns₁ hsb₁ ⊢
  have hC : G.objs.size = s2.heap.objs.size + 1 := by rw [← hH3, Heap.size_push]
  have hDC : s2.heap.objs.size ≠ G.objs.size := by rw [hC]; exact Nat.ne_of_lt (Nat.lt_succ_self _)
  have hCle : s2.heap.objs.size ≤ G.objs.size := by rw [hC]; exact Nat.le_succ _
  have below : ∀ b, b < s2.heap.objs.size → b ≠ G.objs.size ∧ b ≠ s2.heap.objs.size := fun b hb => ⟨by rw [hC]; exact Nat.ne_of_lt (Nat.lt_succ_of_lt hb), Nat.ne_of_lt hb⟩
  have old : ∀ b o, s2.heap.get? b = some o → h₁.get? b = some o := fun b o e => hsb₁.extBut b o (below b (Heap.lt_size e)).1 (Heap.get?_push_of_some _ (hH3 ▸ Heap.get?_push_of_some _ e))
  have hacc : h₁.get? s2.heap.objs.size = some { cls := .type "list", data := .seq ([] : List Value).toArray 0 } := hsb₁.extBut _ _ hDC (Heap.get?_push_of_some _ (hH3 ▸ Heap.get?_push_size _ rfl))
  have st1 : tn 0 h₁ := T.keep _ _ _ st2 fun b _ o e => old b o e
  have stat : ∀ {H' : Hp} {ob : Obj}, (∀ b ∈ fp, H' b = none) → ∀ b ∈ fp, FpOk (cmpCx X (xs ++ ys) scope cl G.objs.size fp s2 H2) [(s2.heap.objs.size, ob)] H' b := fun {H' ob} hn b hb =>
    ⟨hn b hb, (below b (fo b hb)).1, fun z => by
      rcases List.mem_cons.mp (I2.stkSub b z) with e | e
      · exact (f2 b hb).2.1 e
      · exact (f2 b hb).2.2.1 e, .inl hb, fun y c e => (f2 b hb).2.2.2.2.1 y c (n.sub' y c e), fun p hp => by
      have hp' : p ∈ [(s2.heap.objs.size, ob)] := hp
      have e := List.mem_singleton.mp hp'
      subst e
      exact Ne.symm (below b (fo b hb)).2⟩
  have hfin : ∀ (s4 : Shared) (H3 : Hp) (zs : List V) (its : List Value) (k : Nat) (m' : Str → Option Value), Inv (cmpCx X (xs ++ ys) scope cl G.objs.size fp s2 H2) [(s2.heap.objs.size, { cls := .type "list", data := .seq its.toArray k })] (cstL xs.length ix σ) H3 s4 → Vals zs its →
      zs.length ≤ sizeLine → (∀ p, H3 p = none → Q (.ref p) (upd H3 p (.lst zs))) → compPost (model X.prog X.w) X.A X.xe none (EP X pins σ Q) (.ref s2.heap.objs.size) G.objs.size (.ok .next) s4 := by
    intro s4 H3 zs its k m' I4 rv hz q
    obtain ⟨m4, hn4, _⟩ := I4.loc
    refine ⟨m4, hn4, fun h' hs' => ?_⟩
    obtain ⟨eD, nD, _, _, _⟩ := I4.pin (s2.heap.objs.size, { cls := .type "list", data := .seq its.toArray k }) (by show _ ∈ [] ++ [_]; simp)
    have nC : H3 G.objs.size = none := I4.free
    have kp : ∀ b o, b ≠ G.objs.size → s4.heap.get? b = some o → h'.get? b = some o := fun b o hb e => hs'.extBut b o hb e
    have hok : HOk X.prog X.w (upd H3 s2.heap.objs.size (.lst zs)) h' := fun b u e => by
      by_cases hb : b = s2.heap.objs.size
      · subst hb
        rw [upd_same] at e
        cases e
        exact ⟨hz, its, k, rv, kp _ _ hDC eD⟩
      · rw [upd_ne hb] at e
        exact (I4.hok b u e).stay (fun c w hc qq => kp c w (by
          rcases hc with z | z
          · intro y; rw [y] at z; rw [← z, nC] at e; cases e
          · exact ne_of_none z nC) qq) (fun c qq => by rw [upd_ne (ne_of_none qq nD)]; exact qq) fun c xs qq => by rw [upd_ne (ne_of_none qq nD)]; exact qq
    have un : Un (frs X.stack) fp H2 (upd H3 s2.heap.objs.size (.lst zs)) s2.heap h' := by
      have u4 : Un (frs X.stack) fp H2 H3 s2.heap s4.heap := I4.base
      refine ⟨fun b o e nn hb hx => kp b o (below b (Heap.lt_size e)).1 (u4.keep b o e nn hb hx), fun b o e nn hb hx => ?_, fun b o e nn hx => ?_, fun b o e hx => ?_, fun b xs e => ?_, fun b o u e => ?_, fun b ps e => ?_⟩
      · obtain ⟨sl, e1⟩ := u4.slot b o e nn hb hx
        exact ⟨sl, kp _ _ (below b (Heap.lt_size e)).1 e1⟩
      · rw [upd_ne (below b (Heap.lt_size e)).2]
        exact u4.free b o e nn hx
      · obtain ⟨o', e1⟩ := u4.there b o e hx
        exact ⟨o', kp _ _ (below b (Heap.lt_size e)).1 e1⟩
      · have z := u4.tups b xs e
        rw [upd_ne (ne_of_none z nD)]
        exact z
      · have z := u4.frzs b o u e
        rw [upd_ne (ne_of_none z nD)]
        exact z
      · obtain ⟨more, z⟩ := u4.tbls b ps e
        exact ⟨more, by rw [upd_ne (ne_of_none z nD)]; exact z⟩
    exact ⟨.ref s2.heap.objs.size, upd H3 s2.heap.objs.size (.lst zs), I2.call' (s' := { s4 with heap := h' }) (ch := fp) I4.os un hok I4.bare (fun b hb => ⟨(f2 b hb).2.2.2.1, (f2 b hb).2.1, (f2 b hb).2.2.2.2.1, (f2 b hb).2.2.2.2.2⟩), rfl, q _ nD⟩
  have loop : ∀ s₃ : Shared, s₃ = { s2 with heap := h₁, toks := s2.toks + ([] : List (Str × Value)).length } →
      codeAny (model X.prog X.w) X.A (.compLoop (.ListComp elt [⟨.Tuple elts kt px, iter, ifs, 0⟩] scope pos) 0 (.ref it) (.ref s2.heap.objs.size) (compEnvC scope cl G.objs.size X.env))
        (compPost (model X.prog X.w) X.A X.xe none (EP X pins σ Q) (.ref s2.heap.objs.size) G.objs.size) s₃ := by
    rintro s₃ rfl
    refine turns_go (fun m s' => ∃ (i : Nat) (zs : List V) (its : List Value) (k : Nat) (H' : Hp),
        Inv (cmpCx X (xs ++ ys) scope cl G.objs.size fp s2 H2) [(s2.heap.objs.size, { cls := .type "list", data := .seq its.toArray k })] (cstL xs.length ix σ) H' s' ∧ Vals zs its ∧ tn i s'.heap ∧ (∀ b ∈ fp, H' b = none) ∧ W i m zs H') ?_ m0
      ⟨0, [], [], 0, H2, cmp_startL n I2 f2 fo (Nat.le_refl _) hCle hDC old hns₁ hacc (fun v z => by cases z), .nil, st1, fun b hb => (f2 b hb).1, w0⟩
    rintro m s3 ⟨i, zs, its, k, H3, I3, rv, st3, fr3, w3⟩
    rcases turn i m zs H3 w3 with ⟨stop, hz, qn⟩ | ⟨go, hz, step⟩
    · refine nof (thn (T.done (cmpCx X (xs ++ ys) scope cl G.objs.size fp s2 H2) rfl rfl rfl hc i _ s3 _ H3 _ I3 (stat fr3) st3 stop) fun r s4 ⟨hr, I4⟩ => ?_)
      subst hr
      exact hfin s4 H3 zs its k (fun _ => none) I4 rv hz qn
    · refine nof (thn (T.item (cmpCx X (xs ++ ys) scope cl G.objs.size fp s2 H2) rfl rfl rfl hc i _ s3 _ H3 _ I3 (stat fr3) st3 go) fun r s4 ⟨u, hr, h4⟩ => ?_)
      subst hr
      have go_on : ∀ {s5 s7 : Shared} {vs : List V} {H5 H7 : Hp}, vs.length = xs.length → (∀ b ∈ fp, H5 b = none) → tn (i + 1) s5.heap → Inv (cmpCx X (xs ++ ys) scope cl G.objs.size fp s2 H2) ([(s2.heap.objs.size, { cls := .type "list", data := .seq its.toArray k })] ++ pinsAt fp s5.heap) (cstV vs ix σ) H7 s7 →
          Inv (cmpCx X (xs ++ ys) scope cl G.objs.size fp s2 H2) [(s2.heap.objs.size, { cls := .type "list", data := .seq its.toArray k })] (cstL xs.length ix σ) H7 s7 ∧ tn (i + 1) s7.heap ∧ (∀ b ∈ fp, H7 b = none) := by
        intro s5 s7 vs H5 H7 hvl fr5 st5 I7
        have pn : ∀ b o, b ∈ fp → s5.heap.get? b = some o → s7.heap.get? b = some o ∧ H7 b = none := fun b o hb e => by
          have z := I7.pin (b, o) (List.mem_append_right _ (List.mem_append_right _ (mem_pinsAt hb e)))
          exact ⟨z.1, z.2.1⟩
        refine ⟨(I7.weak (σ' := cstL xs.length ix σ) (by simp [cstL, cstV, hvl]) fun j v e => ?_).unpinned, T.keep _ _ _ st5 fun b hb o e => (pn b o hb e).1, fun b hb => ?_⟩
        · unfold cstL at e
          unfold cstV
          by_cases hj : j < xs.length
          · rw [List.getElem?_append_left (by simpa using hj), List.getElem?_replicate, if_pos hj] at e
            cases Option.some.inj e
          · rw [List.getElem?_append_right (by simp; omega)] at e ⊢
            simpa [hvl] using e
        · obtain ⟨o, e, _⟩ := T.obj _ _ st5 b hb
          exact (pn b o hb e).2
      refine nof (thn h4 fun _ s5 ⟨y, H5, I5, r5, y5, st5, fr5⟩ => ?_)
      have I5' := I5.pinned (stat fr5) (T.obj _ _ st5)
      obtain ⟨a, vs, e1, hq, hvl, q5⟩ := step y _ y5
      subst e1
      refine nof (thn (hg _ _ _ _ _ s5 _ H5 (.ref a) u (fun σ' H' => σ' = cstV vs ix σ ∧ H' = H5) I5' r5 ⟨a, vs, rfl, hq, hvl, hgs vs _ _ _ hvl ⟨rfl, rfl⟩⟩) fun _ s6 ⟨σ6, H6, I6, e6, e6'⟩ => ?_)
      subst e6 e6'
      refine nof (thn (ht _ _ _ _ _ s6 _ _ _ I6 q5) fun b s7 ⟨H7, I7, q7⟩ => ?_)
      cases b with
      | false =>
        rw [if_neg (by decide)] at q7 ⊢
        obtain ⟨m', hm, w7⟩ := q7
        obtain ⟨I8, st8, fr8⟩ := go_on hvl fr5 st5 I7
        exact ⟨m', hm, i + 1, zs, its, k, H7, I8, rv, st8, fr8, w7⟩
      | true =>
        rw [if_pos rfl] at q7 ⊢
        refine nof (thn (he _ _ _ _ _ s7 _ _ _ I7 q7) fun v8 s8 ⟨z8, H8, I8, r8, m', hm, w8⟩ => ?_)
        obtain ⟨I9, st9, fr9⟩ := go_on hvl fr5 st5 I8
        obtain ⟨eD, nD, neL, _, _⟩ := I9.pin (s2.heap.objs.size, { cls := .type "list", data := .seq its.toArray k }) (by show _ ∈ [] ++ [_]; simp)
        refine append_at eD (fun h' hs' hD' => ?_) (by rw [List.size_toArray, ← rv.length]; exact hz)
        have kp : ∀ b o, b ≠ s2.heap.objs.size → s8.heap.get? b = some o → h'.get? b = some o := fun b o hb e => hs'.extBut b o hb e
        have lt_cell : ∀ y c, cl.lookup y = some c → c ≠ s2.heap.objs.size := fun y c e => by
          obtain ⟨v, q⟩ := I2.cell y c (n.sub' y c e)
          exact Nat.ne_of_lt q.lt
        have nst : s2.heap.objs.size ∉ frs X.stack := fun z => by
          rcases List.mem_cons.mp (I2.stkSub _ z) with e | e
          · exact absurd (Nat.lt_of_lt_of_le I2.lt (by rw [← e]; exact Nat.le_refl _)) (Nat.lt_irrefl _)
          · exact I2.nofs (Nat.le_refl _) e
        have I10 : Inv (cmpCx X (xs ++ ys) scope cl G.objs.size fp s2 H2) [] (cstL xs.length ix σ) H8 { s8 with heap := h', toks := s8.toks } :=
          (I9.pins_of (pins' := []) fun p hp => absurd hp (by simp)).turned (it := s2.heap.objs.size) kp nD neL (.inr (Nat.le_refl _)) lt_cell fun p hp => absurd (show p ∈ ([] : List (Addr × Obj)) from hp) (by simp)
        refine ⟨m', hm, i + 1, zs ++ [z8], its ++ [v8], k + 1, H8, I10.pins_of fun p hp => ?_, rv.append (.cons r8 .nil), T.keep _ _ _ st9 fun b hb o e => kp b o (below b (fo b hb)).2 e, fr9, w8⟩
        have e := List.mem_singleton.mp hp
        subst e
        refine ⟨?_, nD, hDC, nst, fun v z => by cases z⟩
        rw [← List.push_toArray]
        exact hD'
  exact codeAny_compStart_list (loop _ rfl) (T.self X.A 0 _ _ _ st1 (loop _ rfl))
end

/-! the targets of two and of three names -/
theorem gs2 (vs : List V) (cs : St) (H : Hp) (Q : St → Hp → Prop) (h : vs.length = 2) (q : Q (vs.map some ++ cs) H) : gCons (gName 0) (gCons (gName 1) gNil) vs (List.replicate 2 none ++ cs) H Q := by
  match vs, h with
  | [a, b], _ => exact ⟨a, [b], rfl, b, [], rfl, rfl, q⟩
theorem comp_zip {K : PySem.W.Frag} {a b : Addr} {xs zs : List V} {σ : St} {ix : List Nat} {tt : TT} {te : TE} {H : Hp} {Z : List V → Hp → Prop} (hl : xs.length ≤ sizeLine) (Pv : Nat → List V → Hp → Prop) (h0 : Pv 0 [] H) (hk : ∀ i ys H, Pv i ys H → H a = some (.lst xs) ∧ H b = some (.lst zs))
    (hs : ∀ i x y ys H (N : List V → Hp → Prop) T, xs[i]? = some x → zs[i]? = some y → ys.length ≤ i → Pv i ys H → H T = none → (∀ ys' H', ys'.length ≤ i + 1 → Pv (i + 1) ys' H' → N ys' H') →
      tt (cstV [x, y] ix σ) (upd H T (.tup [x, y])) fun b H4 => if b = true then te (cstV [x, y] ix σ) H4 fun v H5 => N (ys ++ [v]) H5 else N ys H4)
    (hd : ∀ ys H, ys.length ≤ min xs.length zs.length → Pv (min xs.length zs.length) ys H → Z ys H) :
    ∃ W : Nat → Nat → List V → Hp → Prop, (∃ m, W 0 m [] H) ∧ ∀ i m ys H2, W i m ys H2 →
      ((Itz a b).stop i H2 ∧ ys.length ≤ sizeLine ∧ Z ys H2) ∨
      ((Itz a b).go i H2 ∧ ys.length ≤ sizeLine ∧ ∀ x H3, (Itz a b).yld i H2 x H3 → ∃ (a : Addr) (vs : List V), x = .ref a ∧ SqT K H3 a vs ∧ vs.length = 2 ∧ tt (cstV vs ix σ) H3 fun b H4 =>
        if b = true then te (cstV vs ix σ) H4 fun v H5 => ∃ m', m' < m ∧ W (i + 1) m' (ys ++ [v]) H5 else ∃ m', m' < m ∧ W (i + 1) m' ys H4) := by
  refine ⟨fun i m ys H => m = min xs.length zs.length - i ∧ i ≤ min xs.length zs.length ∧ ys.length ≤ i ∧ Pv i ys H, ⟨min xs.length zs.length, by simp, Nat.zero_le _, Nat.le_refl _, h0⟩, ?_⟩
  rintro i m ys H ⟨rfl, hi, hy, p⟩
  obtain ⟨q1, q2⟩ := hk i ys H p
  by_cases hlt : i < min xs.length zs.length
  · have l1 : i < xs.length := by omega
    have l2 : i < zs.length := by omega
    refine .inr ⟨⟨xs, zs, xs[i], zs[i], q1, q2, by simp [l1], by simp [l2]⟩, by omega, fun z H' y => ?_⟩
    obtain ⟨T, x, y, rfl, hn, rfl, hv⟩ := y
    obtain ⟨v1, v2⟩ := hv xs zs q1 q2
    refine ⟨T, [x, y], rfl, SqT.of upd_same, rfl, ?_⟩
    exact hs i x y ys _ (fun ys' H5 => ∃ m', m' < min xs.length zs.length - i ∧ m' = min xs.length zs.length - (i + 1) ∧ i + 1 ≤ min xs.length zs.length ∧ ys'.length ≤ i + 1 ∧ Pv (i + 1) ys' H5) T v1 v2 hy p hn fun ys' H' h1 h2 => ⟨min xs.length zs.length - (i + 1), by omega, rfl, hlt, h1, h2⟩
  · have e : i = min xs.length zs.length := by omega
    subst e
    exact .inl ⟨⟨xs, zs, q1, q2, rfl⟩, by omega, hd ys H hy p⟩
end L2

namespace L2
open PySem PySem.Spec PyProof.Rows
/-! ### xs[::-1] of a list; is True, is not True; the other rules that laws of reaches want -/
theorem rev_pick (its : List Value) : slicePick its.toArray none none (some (-1)) = its.reverse.toArray := by
  unfold slicePick
  have e0 : sliceBounds none none (some (-1)) its.toArray.size = ((its.length : Int) - 1, -1, -1) := by rw [List.size_toArray]; rfl
  rw [e0]
  have e2 : sliceRange ((its.length : Int) - 1) (-1) (-1) = (List.range its.length).map fun (k : Nat) => its.length - 1 - k := by
    unfold sliceRange
    have e3 : (if (-1 : Int) > 0 then (if (its.length : Int) - 1 < -1 then (-1 - ((its.length : Int) - 1) + (-1) - 1) / (-1) else 0) else (if (its.length : Int) - 1 > -1 then ((its.length : Int) - 1 - (-1) - (-1) - 1) / (- -1) else 0)).toNat = its.length := by
      rw [if_neg (by decide)]
      have : (- -1 : Int) = 1 := by decide
      rw [this]
      split <;> (try simp only [Int.ediv_one]) <;> omega
    dsimp only
    rw [e3]
    apply List.map_congr_left
    intro m hm
    have := List.mem_range.mp hm
    omega
  dsimp only
  rw [e2]
  congr 1
  have ef : (fun (i : Nat) => its.toArray[i]?) = fun (i : Nat) => its[i]? := by funext i; simp
  rw [ef]
  have gen : ∀ ks : List Nat, (∀ k ∈ ks, k < its.length) → (ks.map fun (k : Nat) => its.length - 1 - k).filterMap (fun (i : Nat) => its[i]?) = ks.map fun (k : Nat) => (its[its.length - 1 - k]?).getD .none := by
    intro ks
    induction ks with
    | nil => intro _; rfl
    | cons k ks ih =>
      intro hk
      have hk' := hk k List.mem_cons_self
      have hlt : its.length - 1 - k < its.length := by omega
      rw [List.map_cons, List.map_cons, List.filterMap_cons_some (b := its[its.length - 1 - k]) (by simp [hlt]), ih fun j hj => hk j (List.mem_cons_of_mem _ hj)]
      simp [hlt]
  rw [gen _ fun k hk => List.mem_range.mp hk]
  apply List.ext_getElem?
  intro i
  by_cases h : i < its.length
  · rw [List.getElem?_map, List.getElem?_range h, List.getElem?_reverse h]
    have : its.length - 1 - i < its.length := by omega
    simp [this]
  · rw [List.getElem?_eq_none (by simpa using h), List.getElem?_eq_none (by simpa using h)]
theorem Vals.rev : ∀ {xs : List V} {us : List Value}, Vals xs us → Vals xs.reverse us.reverse
  | _, _, .nil => .nil
  | _, _, .cons r t => by
    rw [List.reverse_cons, List.reverse_cons]
    exact (Vals.rev t).append (.cons r .nil)
section
variable {X : Cx}
def tRevL (K : PySem.W.Frag) (te ts : TE) : TE := fun σ H Q => te σ H fun x H1 => ts σ H1 fun y H2 => ∃ a xs, x = .ref a ∧ y = .int (-1) ∧ SqL K H2 a xs ∧ ∀ p, H2 p = none → Q (.ref p) (upd H2 p (.lst xs.reverse))
theorem pe_revL {e st : Expr} {te ts : TE} {p2 pos : Pos} (he : PE X e te) (hst : PE X st ts) : PE X (.Subscript e (.Slice none none (some st) p2) pos) (tRevL X.K te ts) := by
  intro pins s σ H Q I h
  refine Subscript_ (thn (he pins s σ H _ I h) fun v s1 ⟨x, H1, I1, r1, q1⟩ => ?_)
  refine wpAny_Slice ?_
  rw [evalPart_none]
  refine wpAny_pure ?_
  refine wpAny_pure ?_
  rw [evalPart_some]
  refine thn (hst pins s1 σ H1 _ I1 q1) fun w s2 ⟨y, H2, I2, r2, q2⟩ => ?_
  obtain ⟨a, xs, rfl, rfl, hq, q⟩ := q2
  cases r1
  obtain ⟨u, rfl⟩ := r2
  have I3 : Inv X pins σ H2 { s2 with heap := s2.heap.push { cls := .type "slice", data := .fields #[.none, .none, .int (-1) u] } } := I2.kept (t' := s2.toks) fun b ob q => Heap.get?_push_of_some _ q
  show wpAny (model X.prog X.w) X.A (subscriptTail e (.Slice none none (some st) p2) (.ref a) (.ref s2.heap.objs.size)) (EP X pins σ Q) X.xe { s2 with heap := s2.heap.push { cls := .type "slice", data := .fields #[.none, .none, .int (-1) u] } }
  obtain ⟨its, r, ht, hz⟩ := I3.list hq
  have hlen := r.length
  refine tail_any (ops := [.ref a, .ref s2.heap.objs.size]) ht.isList.typeIs slot_list_getitem.lookup ?_ (by with_unfolding_all rfl)
  refine wpAny_getItem_list_slice ht.isList ⟨_, Heap.get?_push_size _ rfl, rfl, rfl⟩ .none .none (IsPart.int (-1) u) (by decide) ?_ (by rw [List.size_toArray] <;> omega)
  rw [rev_pick]
  refine ⟨.ref _, _, I3.laid (t' := s2.toks) (o := .lst xs.reverse) (fun b ob q => Heap.get?_push_of_some _ q) (Nat.le_refl _) ?_, rfl, q _ (I3.hok.fresh (Nat.le_refl _))⟩
  exact ⟨by rw [List.length_reverse]; exact hz, _, 0, r.rev, Heap.get?_push_size _ rfl⟩
theorem op_isnotB : OpR X (compareOp .IsNot) (fun x y H Q => ∃ a b, x = .bl a ∧ y = .bl b ∧ Q (.bl (!(a == b))) H) := by
  intro pins s σ H x y v u Q I rx ry h
  obtain ⟨a, b, rfl, rfl, q⟩ := h
  cases rx
  cases ry
  refine wpAny_isNot_plain (by cases a <;> cases b <;> rfl) ⟨.bl (!(a == b)), H, I, ?_, q⟩
  cases a <;> cases b <;> rfl
end
end L2

namespace L2
open PySem PySem.Spec PyProof.Rows PySem.SeqAt PySem.MeetsSeq
/-! ### deep values that are the same: ==, != ; lists against []; insert(0, x); reversed(xs); divmod by greater numbers -/
/-- x and y have the same plain values in the same places, n deep -/
def DSame (H : Hp) : Nat → V → V → Prop
  | 0, x, y => flatV x = true ∧ x = y
  | n + 1, x, y => (flatV x = true ∧ x = y) ∨ (∃ p q xs ys, x = .ref p ∧ y = .ref q ∧ H p = some (.lst xs) ∧ H q = some (.lst ys) ∧ xs.length = ys.length ∧ ∀ (j : Nat) (u v : V), xs[j]? = some u → ys[j]? = some v → DSame H n u v) ∨
    (∃ p q xs ys, x = .ref p ∧ y = .ref q ∧ H p = some (.tup xs) ∧ H q = some (.tup ys) ∧ xs.length = ys.length ∧ ∀ (j : Nat) (u v : V), xs[j]? = some u → ys[j]? = some v → DSame H n u v)
theorem eqV_refl : ∀ {x : V}, flatV x = true → eqV x x = true
  | .non, _ => rfl
  | .bl b, _ => by show (b == b) = true; simp
  | .int i, _ => by show (i == i) = true; simp
  | .str z, _ => by show (z == z) = true; simp
section
variable {X : Cx} {pins : List (Addr × Obj)} {σ : St} {H : Hp} {s : Shared}
/-- != of two lists that are the same, n deep below them -/
def rNeD (n : Nat) : R2 := fun x y H Q => ∃ p q xs ys, x = .ref p ∧ y = .ref q ∧ H p = some (.lst xs) ∧ H q = some (.lst ys) ∧ xs.length = ys.length ∧ (∀ (j : Nat) (u v : V), xs[j]? = some u → ys[j]? = some v → DSame H n u v) ∧ Q (.bl false) H
/-- xs == [], xs != [] -/
def rNil (neg : Bool) : R2 := fun x y H Q => ∃ p q xs, x = .ref p ∧ y = .ref q ∧ H p = some (.lst xs) ∧ H q = some (.lst []) ∧ Q (.bl (if neg then !xs.isEmpty else xs.isEmpty)) H
theorem op_eqNil (hu : X.A.units < cLine) : OpR X (compareOp .Eq) (rNil false) := by
  intro pins s σ H x y v u Q I rx ry h
  obtain ⟨p, q, xs, rfl, rfl, hp, hq, k⟩ := h
  cases rx
  cases ry
  obtain ⟨its, r1, p1, _⟩ := I.list (SqL.of (K := X.K) hp)
  obtain ⟨jts, r2, p2, _⟩ := I.list (SqL.of (K := X.K) hq)
  cases r2
  cases r1 with
  | nil =>
    refine SeqAt.RcAt.lists (e := fun _ => true) p1.isList p2.isList rfl hu (fun j h1 h2 => ?_) _ _ _ _ ⟨.bl true, H, I, rfl, k⟩
    simp at h1
  | cons r rr =>
    refine SeqAt.RcAt.lists_lengths p1.isList p2.isList ?_ hu _ _ _ _ ⟨.bl false, H, I, rfl, k⟩
    simp
/-- xs.insert(0, y) -/
def rInsert0 : V → List V → Hp → VK → Prop := fun x vs H Q => ∃ l xs y, x = .ref l ∧ vs = [.int 0, y] ∧ H l = some (.lst xs) ∧ xs.length < sizeLine ∧ Q .non (upd H l (.lst (y :: xs)))
/-- for x in reversed(xs) -/
def Itv (a : Addr) (xs : List V) : It :=
  ⟨fun i H => i < xs.length ∧ H a = some (.lst xs), fun i H x H' => H' = H ∧ xs[xs.length - 1 - i]? = some x, fun i H => i = xs.length⟩
def iRev (ta : TA) : TI := fun σ H R => ta σ H fun vs H1 => ∃ (a : Addr) (xs : List V), vs = [.ref a] ∧ H1 a = some (.lst xs) ∧ R (Itv a xs) H1
end
end L2

namespace L2
open PySem PySem.Spec PyProof.Rows
/-! ### repr of made data, where no repr is under way -/
mutual
/-- x is read as d -/
inductive RdV (H : Hp) : V → PyData → Prop
  | non : RdV H .non .none
  | bl (b : Bool) : RdV H (.bl b) (.bool b)
  | int (i : Int) : RdV H (.int i) (.int i)
  | str (z : Str) : RdV H (.str z) (.str z)
  | lst {p : Addr} {xs : List V} {ds : List PyData} : H p = some (.lst xs) → RdVs H xs ds → RdV H (.ref p) (.list ds)
  | tup {p : Addr} {xs : List V} {ds : List PyData} : H p = some (.tup xs) → RdVs H xs ds → RdV H (.ref p) (.tuple ds)
inductive RdVs (H : Hp) : List V → List PyData → Prop
  | nil : RdVs H [] []
  | cons {x : V} {d : PyData} {xs : List V} {ds : List PyData} : RdV H x d → RdVs H xs ds → RdVs H (x :: xs) (d :: ds)
end
mutual
theorem RdV.mono {H H' : Hp} (s : Same H H') : ∀ {x : V} {d : PyData}, RdV H x d → RdV H' x d
  | _, _, .non => .non
  | _, _, .bl b => .bl b
  | _, _, .int i => .int i
  | _, _, .str z => .str z
  | _, _, .lst h r => .lst (s _ _ h) (RdVs.mono s r)
  | _, _, .tup h r => .tup (s _ _ h) (RdVs.mono s r)
theorem RdVs.mono {H H' : Hp} (s : Same H H') : ∀ {xs : List V} {ds : List PyData}, RdVs H xs ds → RdVs H' xs ds
  | _, _, .nil => .nil
  | _, _, .cons a b => .cons (RdV.mono s a) (RdVs.mono s b)
end
section
variable {X : Cx} {pins : List (Addr × Obj)} {σ : St} {H : Hp} {s : Shared}
mutual
theorem RdV.reads (I : Inv X pins σ H s) : ∀ {x : V} {d : PyData} {u : Value}, RdV H x d → RelV x u → (∃ as, Reads s.heap u d as) ∧ d.hasDict = false
  | _, _, _, .non, r => by cases r; exact ⟨⟨_, .none⟩, by simp only [PyData.hasDict]⟩
  | _, _, _, .bl b, r => by cases r; exact ⟨⟨_, .bool b⟩, by simp only [PyData.hasDict]⟩
  | _, _, _, .int i, r => by obtain ⟨t, rfl⟩ := r; exact ⟨⟨_, .int i t⟩, by simp only [PyData.hasDict]⟩
  | _, _, _, .str z, r => by obtain ⟨t, rfl⟩ := r; exact ⟨⟨_, .str z t⟩, by simp only [PyData.hasDict]⟩
  | _, _, _, .lst h q, r => by
    cases r
    obtain ⟨_, its, n, rv, e⟩ := (show ObjOk X.prog X.w H s.heap _ (.lst _) from I.hok _ _ h)
    obtain ⟨⟨as, ra⟩, hd⟩ := RdVs.reads I q rv
    exact ⟨⟨_, .list e rfl rfl (by simpa using ra)⟩, by simp only [PyData.hasDict]; exact hd⟩
  | _, _, _, .tup h q, r => by
    cases r
    obtain ⟨_, its, rv, o, e, c, n, d⟩ := (show ObjOk X.prog X.w H s.heap _ (.tup _) from I.hok _ _ h)
    obtain ⟨⟨as, ra⟩, hd⟩ := RdVs.reads I q rv
    exact ⟨⟨_, .tuple e c d (by simpa using ra)⟩, by simp only [PyData.hasDict]; exact hd⟩
theorem RdVs.reads (I : Inv X pins σ H s) : ∀ {xs : List V} {ds : List PyData} {us : List Value}, RdVs H xs ds → Vals xs us → (∃ as, ReadsAll s.heap us ds as) ∧ PyData.hasDictAll ds = false
  | _, _, _, .nil, r => by cases r; exact ⟨⟨_, .nil⟩, by simp only [PyData.hasDictAll]⟩
  | _, _, _, .cons a b, r => by
    cases r with
    | cons r1 r2 =>
      obtain ⟨⟨as, ra⟩, h1⟩ := RdV.reads I a r1
      obtain ⟨⟨bs, rb⟩, h2⟩ := RdVs.reads I b r2
      exact ⟨⟨_, .cons ra rb⟩, by simp only [PyData.hasDictAll, h1, h2, Bool.or_self]⟩
end
end
end L2

namespace L2
open PySem PySem.Spec PyProof.Rows
structure FnOkC (P : Program) (w : World) (K : PySem.W.Frag) (mg : Str → Option Value) (base : Heap) (CX : CXT) (k : Nat) (f : Addr) (fd : FuncData) (ps : List Str) (sp : Sp) : Prop where
  len : ∀ vs H Q E, sp vs H Q E → vs.length = ps.length
  run : ∀ (outer : List Env) (s : Shared) (H : Hp) (args : Args) (us : List Value) (vs : List V) (Q : VK) (E : XK), Room k callerA → Env0 P w K mg base callerA outer s H → BindsTo s fd args (ps.zip us) → Vals vs us → sp vs H Q E →
    codeAny (model P w) callerA (.call (.ref f) args) (CR CX outer P w H s Q E) s
section
variable {P : Program} {w : World} {K : PySem.W.Frag} {mg : Str → Option Value} {base : Heap}
end
end L2

namespace Mr
open PySem L2
theorem bt_len : bootBuiltins "len" = some (.builtin "len") := by decide +kernel
theorem bt_all : bootBuiltins "all" = some (.builtin "all") := by decide +kernel
theorem bt_max : bootBuiltins "max" = some (.builtin "max") := by decide +kernel
theorem bt_min : bootBuiltins "min" = some (.builtin "min") := by decide +kernel
theorem bt_divmod : bootBuiltins "divmod" = some (.builtin "divmod") := by decide +kernel
theorem bt_isinstance : bootBuiltins "isinstance" = some (.builtin "isinstance") := by decide +kernel
theorem bt_str : bootBuiltins "str" = some (.type "str") := by decide +kernel
theorem bt_bool : bootBuiltins "bool" = some (.type "bool") := by decide +kernel
theorem bt_int : bootBuiltins "int" = some (.type "int") := by decide +kernel
theorem e_nil : ("" : Str) = tx [] := by decide +kernel
/-- letters a to z -/
def Let (l : List Nat) : Prop := ∀ c ∈ l, 97 ≤ c ∧ c ≤ 122
/-- all that is tracked, but what stands at b, is as it was -/
def But (b : Addr) (H H' : Hp) : Prop := ∀ c o, H c = some o → c ≠ b → H' c = some o
theorem But.trans {b : Addr} {H H1 H2 : Hp} (x : But b H H1) (y : But b H1 H2) : But b H H2 := fun c o e n => y c o (x c o e n) n
theorem cut_to {l : List Nat} (k : Nat) : cutL l none (some (k : Int)) = l.take k := by
  unfold cutL
  rw [HT.sIx_nat, HT.sIx_none, Nat.sub_zero, List.drop_zero]
  by_cases h : k ≤ l.length
  · rw [Nat.min_eq_left h]
  · rw [Nat.min_eq_right (by omega), List.take_of_length_le (Nat.le_refl _), List.take_of_length_le (by omega)]
theorem cut_le (l : List Nat) (lo hi : Option Int) : (cutL l lo hi).length ≤ l.length := by
  unfold cutL
  rw [List.length_take, List.length_drop]
  omega
section
variable (K : PySem.W.Frag)
def spCell : Sp := fun vs H Q _ => ∃ (a : Addr) (ns : List Int) (k : Int), vs = [.ref a, .int k] ∧ SqL K H a (ns.map V.int) ∧ 0 ≤ k ∧ ∀ i, Q (.int i) H
def spMix : Sp := fun vs H Q _ => ∃ (c k : Int), vs = [.int c, .int k] ∧ 0 ≤ k ∧ k ≤ 1000 ∧ ∀ (i : Int) (H' : Hp), 0 ≤ i → Same H H' → Q (.int i) H'
def spBox : Sp := fun vs H Q _ => ∃ (a : Addr) (ns : List Int) (k : Int), vs = [.ref a, .int k] ∧ SqL K H a (ns.map V.int) ∧ 0 ≤ k ∧ ∀ (b : Addr) (n : Int) (H' : Hp), 0 ≤ n → H b = none → H' b = some (.lst [.int n]) → Same H H' → Q (.ref b) H'
def spTake : Sp := fun vs H Q _ => ∃ (b : Addr) (n m : Int), vs = [.ref b, .int m] ∧ H b = some (.lst [.int n]) ∧ 0 ≤ n ∧ 0 < m ∧ m < 1000000 ∧
  ∀ (d n' : Int) (H' : Hp), 0 ≤ d → d < m → 0 ≤ n' → H' b = some (.lst [.int n']) → But b H H' → Q (.int d) H'
def spTruth : Sp := fun vs H Q _ => ∃ (a b : Bool), vs = [.bl a, .bl b] ∧ Q (.bl (decide (a = b))) H
def spBehind : Sp := fun vs H Q _ => ∃ (l : List Nat), vs = [.str (tx l)] ∧ l.length ≤ sizeLine ∧ Q (.str (tx l.reverse)) H
def spAlike : Sp := fun vs H Q _ => ∃ (l : List Nat), vs = [.str (tx l)] ∧ l.length ≤ 1000000 ∧ ∀ H', Same H H' → Q (.bl (decide (l = l.reverse))) H'
def spClosed : Sp := fun vs H Q _ => ∃ (l : List Nat), vs = [.str (tx l)] ∧ Let l ∧ l.length ≤ 10000 ∧ ∀ (m : List Nat) (H' : Hp), Let m → m.length ≤ 2 * l.length → Same H H' → Q (.str (tx m)) H'
def spRow : Sp := fun vs H Q _ => ∃ (b : Addr) (n most : Int), vs = [.ref b, .int most] ∧ H b = some (.lst [.int n]) ∧ 0 ≤ n ∧ 0 ≤ most ∧ most ≤ 1000 ∧
  ∀ (m : List Nat) (n' : Int) (H' : Hp), Let m → (m.length : Int) ≤ most → 0 ≤ n' → H' b = some (.lst [.int n']) → But b H H' → Q (.str (tx m)) H'
end
theorem int_at {ns : List Int} {k : Int} (h0 : 0 ≤ k) (h1 : k < (ns.map V.int).length) : ∃ z, atI (ns.map V.int) k = some (V.int z) := by
  obtain ⟨j, rfl⟩ := Int.eq_ofNat_of_zero_le h0
  have hj : j < ns.length := by rw [List.length_map] at h1; omega
  exact ⟨ns[j], atI_nat (by rw [List.getElem?_map, List.getElem?_eq_getElem hj]; rfl)⟩
theorem at_ofInt {α : Type} {xs : List α} {k : Int} (h0 : 0 ≤ k) (h1 : k < xs.length) : ∃ z, atI xs k = some z ∧ z ∈ xs := by
  obtain ⟨j, rfl⟩ := Int.eq_ofNat_of_zero_le h0
  have hj : j < xs.length := by omega
  exact ⟨xs[j], atI_nat (List.getElem?_eq_getElem hj), List.getElem_mem hj⟩
theorem yes_ok {σ : St} {H : Hp} {Q : Bool → Hp → Prop} (h : Q true H) : tYes σ H Q := h
/-- the odd things -/
inductive Odd (H : Hp) : V → Prop
  | non : Odd H .non
  | bl (b : Bool) : Odd H (.bl b)
  | int (i : Int) (h : i = 0 ∨ i = 10 ^ 39 ∨ i = -1) : Odd H (.int i)
  | str (l : List Nat) (h : l = [65] ∨ l = [97, 32, 98] ∨ l = [97, 10] ∨ l = [49]) : Odd H (.str (tx l))
  | long : Odd H (.str (tx (repL [97] 201)))
  | la (p : Addr) (h : H p = some (.lst [.str (tx [97])])) : Odd H (.ref p)
  | ta (p : Addr) (h : H p = some (.tup [.str (tx [97])])) : Odd H (.ref p)
  | da (p : Addr) (h : H p = some (.dK [(Sum.inr (tx [97]), .int 1)])) : Odd H (.ref p)
  | t01 (p : Addr) (h : H p = some (.tup [.int 0, .int 1])) : Odd H (.ref p)
  | l0 (p : Addr) (h : H p = some (.lst [])) : Odd H (.ref p)
def spOdd : Sp := fun vs H Q _ => ∃ (b : Addr) (n : Int), vs = [.ref b] ∧ H b = some (.lst [.int n]) ∧ 0 ≤ n ∧
  ∀ (x : V) (n' : Int) (H' : Hp), Odd H' x → 0 ≤ n' → H' b = some (.lst [.int n']) → But b H H' → Q x H'
def lets : List Nat := [97, 98, 99, 100, 101, 102, 103, 104, 105, 106, 107, 108, 109, 110, 111, 112, 113, 114, 115, 116, 117, 118, 119, 120, 121, 122]
theorem e_lets : ("abcdefghijklmnopqrstuvwxyz" : Str) = tx lets := by decide +kernel
theorem mem_lets {c : Nat} : c ∈ lets ↔ 97 ≤ c ∧ c ≤ 122 := by
  rw [show lets = (List.range 26).map (97 + ·) from rfl, List.mem_map]
  constructor
  · rintro ⟨i, hi, rfl⟩
    have := List.mem_range.mp hi
    omega
  · rintro ⟨h1, h2⟩
    exact ⟨c - 97, List.mem_range.mpr (by omega), by omega⟩
def rowL (l : List Nat) : Bool := decide (l.length ≤ 200) && l.all fun c => decide (c ∈ lets)
def rowV : V → Bool
  | .str z => rowL z.cps.toList
  | _ => false
def mirV : V → Bool
  | .str z => rowL z.cps.toList && (!decide (z.cps.toList = []) && decide (z.cps.toList = z.cps.toList.reverse))
  | _ => false
theorem rowL_iff {l : List Nat} : rowL l = true ↔ l.length ≤ 200 ∧ Let l := by
  unfold rowL
  rw [Bool.and_eq_true, decide_eq_true_iff, List.all_eq_true]
  constructor
  · intro h
    exact ⟨h.1, fun c hc => mem_lets.mp (of_decide_eq_true (h.2 c hc))⟩
  · intro h
    exact ⟨h.1, fun c hc => decide_eq_true (mem_lets.mpr (h.2 c hc))⟩
section
variable (K : PySem.W.Frag)
/-- a text of moderate length, or a thing that is no text -/
def Thing (H : Hp) (x : V) : Prop := (∃ l : List Nat, x = .str (tx l) ∧ l.length ≤ 100000) ∨ (rowV x = false ∧ mirV x = false ∧ ∃ t, TyOf K H x t ∧ PySem.W.kitOne K t (.type "str") = some false)
def spIsRow : Sp := fun vs H Q _ => ∃ x, vs = [x] ∧ Thing K H x ∧ ∀ H', Same H H' → Q (.bl (rowV x)) H'
def spIsMirror : Sp := fun vs H Q _ => ∃ x, vs = [x] ∧ Thing K H x ∧ ∀ H', Same H H' → Q (.bl (mirV x)) H'
def spNeed : Sp := fun vs H Q _ => ∃ l : List Nat, vs = [.str (tx l)] ∧ rowL l = true ∧ ∀ H', Same H H' → Q .non H'
def spBack : Sp := fun vs H Q _ => ∃ l : List Nat, vs = [.str (tx l)] ∧ rowL l = true ∧ ∀ H', Same H H' → Q (.str (tx l.reverse)) H'
end
section
variable {P : Program} {w : World} {K : PySem.W.Frag} {mg : Str → Option Value} {base : Heap}
theorem TyOf.same {H H' : Hp} {x : V} {t : Value} (s : Same H H') (h : TyOf K H x t) : TyOf K H' x t := by
  cases h with
  | non => exact .non
  | bl b => exact .bl b
  | int i => exact .int i
  | str z => exact .str z
  | flt z => exact .flt z
  | lst e => exact .lst (s _ _ e)
  | frz e => exact .frz (s _ _ e)
  | tup e => exact .tup (s _ _ e)
  | dK e => exact .dK (s _ _ e)
  | dT e => exact .dT (s _ _ e)
  | ins e a b c d f => exact .ins (s _ _ e) a b c d f
end
section
variable {P : Program} {w : World} {K : PySem.W.Frag} {mg : Str → Option Value} {base : Heap}
theorem row_thing {H : Hp} {l : List Nat} (h : rowL l = true) : Thing K H (.str (tx l)) := .inl ⟨l, rfl, by have := (rowL_iff.mp h).1; omega⟩
end
theorem same_but {b : Addr} {H H1 H2 : Hp} (s : Same H H1) (fr : H b = none) (k : But b H1 H2) : Same H H2 := fun c o e => k c o (s c o e) (ne_of_none e fr)
def spLaw (K : PySem.W.Frag) : Sp := fun vs H Q _ => ∃ (a : Addr) (ns : List Int), vs = [.ref a] ∧ SqL K H a (ns.map V.int) ∧ ns.length ≤ 63 ∧ ∀ H', Q (.bl true) H'
section
variable {P : Program} {w : World} {K : PySem.W.Frag} {mg : Str → Option Value} {base : Heap}
end
end Mr

namespace Mr
open PySem L2
/-- plain values -/
def Scal : V → Prop
  | .non => True
  | .bl _ => True
  | .int _ => True
  | .str _ => True
  | _ => False
def wholeV : V → Bool
  | .int _ => true
  | _ => false
/-- a stretch of a row of n signs -/
def stL (n : Int) : List V → Bool
  | [.int i, .int j] => decide (0 ≤ i) && (decide (i ≤ j) && decide (j ≤ n))
  | _ => false
def cutAl (l : List Nat) : List V → Bool
  | [.int i, .int j] => decide (cutL l (some i) (some j) = (cutL l (some i) (some j)).reverse)
  | _ => false
def rdL (l : List Nat) (xs : List V) : Bool := stL (l.length : Int) xs && cutAl l xs
section
variable (K : PySem.W.Frag)
def NoTup (H : Hp) (x : V) : Prop := ∃ t, TyOf K H x t ∧ PySem.W.kitOne K t (.type "tuple") = some false
def spWhole : Sp := fun vs H Q _ => ∃ x, vs = [x] ∧ Scal x ∧ Q (.bl (wholeV x)) H
def spStretch : Sp := fun vs H Q _ => ∃ (x : V) (n : Int), vs = [x, .int n] ∧ ((NoTup K H x ∧ Q (.bl false) H) ∨ ∃ p xs, x = .ref p ∧ H p = some (.tup xs) ∧ (xs.length = 2 → ∀ y ∈ xs, Scal y) ∧ Q (.bl (stL n xs)) H)
def spReads : Sp := fun vs H Q _ => ∃ (l : List Nat) (x : V), vs = [.str (tx l), x] ∧ rowL l = true ∧ ((NoTup K H x ∧ ∀ H', Same H H' → Q (.bl false) H') ∨ ∃ p xs, x = .ref p ∧ H p = some (.tup xs) ∧ (xs.length = 2 → ∀ y ∈ xs, Scal y) ∧ ∀ H', Same H H' → Q (.bl (rdL l xs)) H')
end
end Mr

namespace Mr
open PySem L2
/-! readings that only lay new things -/
def EOk (σ : St) (Φ : Hp → V → Prop) (te : TE) : Prop := ∀ (H : Hp) (Q : VK), (∀ x H', Same H H' → Φ H' x → Q x H') → te σ H Q
def AOk (σ : St) (Φ : Hp → V → Prop) (n : Nat) (t : TA) : Prop := ∀ (H : Hp) (Q : List V → Hp → Prop), (∀ xs H', Same H H' → xs.length = n → (∀ x ∈ xs, Φ H' x) → Q xs H') → t σ H Q
section
variable {σ : St} {Φ : Hp → V → Prop} {te : TE} {t : TA} {n : Nat}
end
/-- the things that are looked at as stretches, in the row l -/
inductive Th2 (l : List Nat) (H : Hp) : V → Prop
  | tup (p : Addr) (xs : List V) (h : H p = some (.tup xs)) (hs : ∀ y ∈ xs, Scal y) (g : rdL l xs = (eqVs xs [.int 0, .int 1] && decide (0 < l.length))) : Th2 l H (.ref p)
  | nest (p r : Addr) (zs : List V) (h : H p = some (.tup [.ref r])) (h' : H r = some (.tup zs)) : Th2 l H (.ref p)
  | lst (p : Addr) (xs : List V) (h : H p = some (.lst xs)) : Th2 l H (.ref p)
  | dk (p : Addr) (kvs : List (Key × V)) (h : H p = some (.dK kvs)) : Th2 l H (.ref p)
  | non : Th2 l H .non
  | bl (b : Bool) : Th2 l H (.bl b)
  | int (i : Int) : Th2 l H (.int i)
  | str (z : Str) : Th2 l H (.str z)
section
variable {K : PySem.W.Frag}
end
end Mr

namespace Mr
open PySem L2
theorem bt_list : bootBuiltins "list" = some (.type "list") := by decide +kernel
/-- n, n - 1, .. 1 -/
def downs (n : Nat) : List Nat := (List.range n).map fun i => n - i
def lensV (ks : List Nat) : List V := ks.map fun (k : Nat) => V.int (k : Int)
theorem lensV_app (a b : List Nat) : lensV (a ++ b) = lensV a ++ lensV b := List.map_append
theorem lensV_len (ks : List Nat) : (lensV ks).length = ks.length := by simp [lensV]
theorem lensV_flat (ks : List Nat) : (lensV ks).all flatV = true := by
  rw [List.all_eq_true]
  intro x hx
  obtain ⟨k, _, rfl⟩ := List.mem_map.mp hx
  rfl
def bordersN (l : List Nat) : List Nat := (downs (l.length - 1)).filter fun k => decide (l.take k = l.drop (l.length - k))
def endsN (l : List Nat) : List Nat := (downs l.length).filter fun k => decide (l.drop (l.length - k) = (l.drop (l.length - k)).reverse)
def beginsN (l : List Nat) : List Nat := (downs l.length).filter fun k => decide (l.take k = (l.take k).reverse)
/-- a def that tells a list of lengths of a row, a new one -/
def spLens (f : List Nat → List Nat) : Sp := fun vs H Q _ => ∃ l : List Nat, vs = [.str (tx l)] ∧ rowL l = true ∧ ∀ (p : Addr) (H' : Hp), H p = none → H' p = some (.lst (lensV (f l))) → Same H H' → Q (.ref p) H'
theorem same_upd {H H' : Hp} {p : Addr} {o : HO} (s : Same H H') (h : H p = none) : Same H (upd H' p o) := fun c u e => by
  rw [upd_ne (ne_of_none e h)]
  exact s c u e
section
variable {K : PySem.W.Frag}
end
end Mr

namespace Mr
/-! stretches that read alike, by places; the reach around a middle -/
def PalI (l : List Nat) (a b : Nat) : Prop := ∀ i, a ≤ i → i < b → l[i]? = l[a + b - 1 - i]?
def sub (l : List Nat) (a b : Nat) : List Nat := (l.drop a).take (b - a)
theorem PalI.inner {l : List Nat} {a b c d : Nat} (h : PalI l a b) (he : a + b = c + d) (hc : a ≤ c) : PalI l c d := fun i h1 h2 => by
  have := h i (by omega) (by omega)
  rw [this, he]
/-- going outward from a stretch that reads alike -/
def grow (l : List Nat) : Nat → Nat → Nat
  | 0, b => b
  | f + 1, b => if b < l.length ∧ l[f]? = l[b]? then grow l f (b + 1) else b - (f + 1)
theorem grow_spec {l : List Nat} : ∀ {f b : Nat}, f ≤ b → b ≤ l.length → PalI l f b → ∀ {a c : Nat}, a + c = f + b → a ≤ c → c ≤ l.length → (PalI l a c ↔ c - a ≤ grow l f b)
  | 0, b, _, _, hp, a, c, he, hac, _ => by
    unfold grow
    exact ⟨fun _ => by omega, fun _ => hp.inner (by omega) (by omega)⟩
  | f + 1, b, hfb, hb, hp, a, c, he, hac, hc => by
    unfold grow
    by_cases hg : b < l.length ∧ l[f]? = l[b]?
    · rw [if_pos hg]
      refine grow_spec (by omega) (by omega) ?_ (by omega) hac hc
      intro i h1 h2
      by_cases e1 : i = f
      · subst e1
        have x : i + (b + 1) - 1 - i = b := by omega
        rw [x]; exact hg.2
      · by_cases e2 : i = b
        · subst e2
          have x : f + (i + 1) - 1 - i = f := by omega
          rw [x]; exact hg.2.symm
        · have := hp i (by omega) (by omega)
          rw [this]
          congr 1
          omega
    · rw [if_neg hg]
      constructor
      · intro h
        apply Nat.le_of_not_lt
        intro hlt
        apply hg
        refine ⟨by omega, ?_⟩
        have := h f (by omega) (by omega)
        rw [this]
        congr 1
        omega
      · intro h
        exact hp.inner (by omega) (by omega)
theorem grow_at {l : List Nat} : ∀ {f b : Nat}, f ≤ b → b ≤ l.length → ∃ a c, a + c = f + b ∧ a ≤ c ∧ c ≤ l.length ∧ c - a = grow l f b ∧ b ≤ c
  | 0, b, _, hb => ⟨0, b, by omega, by omega, hb, by unfold grow; omega, by omega⟩
  | f + 1, b, hfb, hb => by
    unfold grow
    by_cases hg : b < l.length ∧ l[f]? = l[b]?
    · rw [if_pos hg]
      obtain ⟨a, c, h1, h2, h3, h4, h5⟩ := grow_at (l := l) (f := f) (b := b + 1) (by omega) (by omega)
      exact ⟨a, c, by omega, h2, h3, h4, by omega⟩
    · rw [if_neg hg]
      exact ⟨f + 1, b, by omega, hfb, hb, rfl, Nat.le_refl _⟩
def reachN (l : List Nat) (m : Nat) : Nat := grow l ((m + 1) / 2) (m + 1 - (m + 1) / 2)
theorem reach_spec {l : List Nat} {m a c : Nat} (hm : m + 1 < 2 * l.length) (he : a + c = m + 1) (hac : a ≤ c) (hc : c ≤ l.length) : PalI l a c ↔ c - a ≤ reachN l m := by
  unfold reachN
  refine grow_spec (by omega) (by omega) ?_ (by omega) hac hc
  intro i h1 h2
  congr 1
  omega
theorem reach_at {l : List Nat} {m : Nat} (hm : m + 1 < 2 * l.length) : ∃ a c, a + c = m + 1 ∧ a ≤ c ∧ c ≤ l.length ∧ c - a = reachN l m ∧ PalI l a c := by
  obtain ⟨a, c, h1, h2, h3, h4, h5⟩ := grow_at (l := l) (f := (m + 1) / 2) (b := m + 1 - (m + 1) / 2) (by omega) (by omega)
  have e : a + c = m + 1 := by omega
  have h4' : c - a = reachN l m := h4
  exact ⟨a, c, e, h2, h3, h4', (reach_spec hm e h2 h3).mpr (by omega)⟩
def reachesN (l : List Nat) : List Nat := (List.range (2 * l.length - 1)).map (reachN l)
theorem reachesN_len (l : List Nat) : (reachesN l).length = 2 * l.length - 1 := by simp [reachesN]
theorem reachesN_at {l : List Nat} {m : Nat} (h : m < 2 * l.length - 1) : (reachesN l)[m]? = some (reachN l m) := by
  unfold reachesN
  rw [List.getElem?_map, List.getElem?_range h]
  rfl
end Mr

namespace Mr
open PySem L2
def spReachA : Sp := fun vs H Q _ => ∃ (l : List Nat) (m : Nat), vs = [.str (tx l), .int (m : Int)] ∧ rowL l = true ∧ m + 1 < 2 * l.length ∧ Q (.int ((reachN l m : Nat) : Int)) H
/-- ends_ahead: of the reaches of a row of at most 200 signs -/
def spEA : Sp := fun vs H Q _ => ∃ (p : Addr) (l : List Nat) (b : Nat), vs = [.ref p, .int (b : Int)] ∧ l.length ≤ 200 ∧ b ≤ l.length ∧ H p = some (.lst (lensV (reachesN l))) ∧
  ∀ (p' : Addr) (H' : Hp), H p' = none → H' p' = some (.lst (lensV (endsN (l.take b)))) → Same H H' → Q (.ref p') H'
end Mr

namespace Mr
/-! sums over 0 .. n - 1 -/
def sm : Nat → (Nat → Nat) → Nat
  | 0, _ => 0
  | n + 1, f => sm n f + f n
/-- does the stretch read alike -/
def palB (l : List Nat) (a c : Nat) : Bool := decide (sub l a c = (sub l a c).reverse)
/-- how many stretches are mirrors: by their first place -/
def manyN (l : List Nat) : Nat := sm l.length fun a => sm (l.length - a) fun j => if palB l a (a + 1 + j) = true then 1 else 0
/-- the first longest mirror stretch -/
def BestP (l : List Nat) (x y : Nat) : Prop := x < y ∧ y ≤ l.length ∧ PalI l x y ∧ ∀ a c, a < c → c ≤ l.length → PalI l a c → c - a < y - x ∨ (c - a = y - x ∧ x ≤ a)
/-- best so far, of those ahead of (i, j) -/
def BestSo (l : List Nat) (S : Nat → Nat → Prop) (x y : Nat) : Prop := S x y ∧ PalI l x y ∧ ∀ a c, S a c → PalI l a c → c - a < y - x ∨ (c - a = y - x ∧ x ≤ a)
end Mr

namespace Mr
open PySem L2
def spMany : Sp := fun vs H Q _ => ∃ l : List Nat, vs = [.str (tx l)] ∧ rowL l = true ∧ ∀ H', Same H H' → Q (.int ((manyN l : Nat) : Int)) H'
def spLongest : Sp := fun vs H Q _ => ∃ l : List Nat, vs = [.str (tx l)] ∧ rowL l = true ∧ (l = [] → ∀ H', Same H H' → Q .non H') ∧
  ∀ (x y : Nat) (p : Addr) (H' : Hp), BestP l x y → H p = none → H' p = some (.tup [.int (x : Int), .int (y : Int)]) → Same H H' → Q (.ref p) H'
end Mr

namespace Mr
open PySem L2
/-- the stretches ahead of (i, i + 1 + t), in the order of two loops -/
def Ah (n i t : Nat) (x y : Nat) : Prop := x < y ∧ y ≤ n ∧ (x < i ∨ (x = i ∧ y < i + 1 + t))
def BestV (l : List Nat) (S : Nat → Nat → Prop) (H : Hp) (v : V) : Prop := (v = .non ∧ ∀ x y, S x y → ¬ PalI l x y) ∨ ∃ (p : Addr) (x y : Nat), v = .ref p ∧ H p = some (.tup [.int (x : Int), .int (y : Int)]) ∧ BestSo l S x y
section
variable {K : PySem.W.Frag}
end
end Mr

namespace Mr
open PySem L2
theorem lensV_at {ks : List Nat} {j : Nat} {x : V} (h : (lensV ks)[j]? = some x) : ∃ k : Nat, ks[j]? = some k ∧ x = .int (k : Int) := by
  unfold lensV at h
  rw [List.getElem?_map] at h
  cases e : ks[j]? with
  | none => rw [e] at h; cases h
  | some k => rw [e] at h; exact ⟨k, rfl, (Option.some.inj h).symm⟩
end Mr

namespace Mr
/-! ends, begins and borders of one another -/
def sufB (l : List Nat) (k : Nat) : Bool := decide (l.drop (l.length - k) = (l.drop (l.length - k)).reverse)
/-- a sign more at the end -/
def moreB (l : List Nat) (c : Nat) (k : Nat) : Bool := decide (k < l.length ∧ l[l.length - k - 1]? = some c)
def dueN (l : List Nat) (c : Nat) : List Nat := ((endsN l).filter (moreB l c)).map (· + 2) ++ (if moreB l c 0 = true then [2] else []) ++ [1]
end Mr
namespace Mr
open PySem L2
/-- what is due behind j of the lengths, 0 and -1 -/
def dueTo (l : List Nat) (c j : Nat) : List Nat := (((endsN l).take j).filter (moreB l c)).map (· + 2) ++ (if (endsN l).length < j ∧ moreB l c 0 = true then [2] else []) ++ (if (endsN l).length + 1 < j then [1] else [])
end Mr

namespace Mr
/-! reaches turned about, within mirrors, in the middle -/
/-- the reach is r where the stretch of that length is alike and the one around it is not -/
theorem reach_eq {l : List Nat} {m a c : Nat} (hm : m + 1 < 2 * l.length) (he : a + c = m + 1) (hac : a ≤ c) (hc : c ≤ l.length) (h1 : PalI l a c) (h2 : 0 < a → c < l.length → ¬ PalI l (a - 1) (c + 1)) : reachN l m = c - a := by
  have q1 := (reach_spec hm he hac hc).mp h1
  obtain ⟨a', c', e1, e2, e3, e4, e5⟩ := reach_at hm
  by_cases h : c' - a' ≤ c - a
  · omega
  · exfalso
    have ha : a' + 1 ≤ a := by omega
    refine h2 (by omega) (by omega) (e5.inner (by omega) (by omega))
theorem rev_get {l : List Nat} {i : Nat} (h : i < l.length) : l.reverse[i]? = l[l.length - 1 - i]? := List.getElem?_reverse h
theorem pal_rev {l : List Nat} {a c : Nat} (hc : c ≤ l.length) (h : PalI l a c) : PalI l.reverse (l.length - c) (l.length - a) := by
  intro i h1 h2
  rw [rev_get (by omega), rev_get (by omega)]
  have := h (l.length - 1 - i) (by omega) (by omega)
  rw [this]
  congr 1
  omega
theorem reach_rev {l : List Nat} {m : Nat} (hm : m + 1 < 2 * l.length) : reachN l.reverse m = reachN l (2 * l.length - 2 - m) := by
  have hm' : 2 * l.length - 2 - m + 1 < 2 * l.length := by omega
  obtain ⟨a, c, e1, e2, e3, e4, e5⟩ := reach_at hm'
  have hl : l.reverse.length = l.length := List.length_reverse
  have := reach_eq (l := l.reverse) (m := m) (a := l.length - c) (c := l.length - a) (by omega) (by omega) (by omega) (by omega) (pal_rev e3 e5) (fun x1 x2 z => ?_)
  · omega
  · have q := pal_rev (by omega) z
    rw [List.reverse_reverse, hl] at q
    have p1 : l.length - (l.length - a + 1) = a - 1 := by omega
    have p2 : l.length - (l.length - c - 1) = c + 1 := by omega
    rw [p1, p2] at q
    have := (reach_spec hm' (a := a - 1) (c := c + 1) (by omega) (by omega) (by omega)).mp q
    omega
theorem reaches_rev (l : List Nat) : reachesN l.reverse = (reachesN l).reverse := by
  apply List.ext_getElem?
  intro i
  by_cases hi : i < 2 * l.length - 1
  · rw [reachesN_at (by rw [List.length_reverse]; exact hi), List.getElem?_reverse (by rw [reachesN_len]; exact hi), reachesN_len, reachesN_at (by omega), reach_rev (by omega)]
    congr 2
  · rw [List.getElem?_eq_none (by rw [reachesN_len, List.length_reverse]; omega), List.getElem?_eq_none (by rw [List.length_reverse, reachesN_len]; omega)]
end Mr

namespace Mr
open PySem L2
def spSame : Sp := fun vs H Q _ => ∃ (x : V) (n : Int), vs = [x, .int n] ∧ Scal x ∧ Q (.bl (decide (x = .int n))) H
/-- are_reaches, of a list of plain values -/
def spAreL : Sp := fun vs H Q _ => ∃ (p : Addr) (xs : List V) (l : List Nat), vs = [.ref p, .str (tx l)] ∧ rowL l = true ∧ H p = some (.lst xs) ∧ (∀ x ∈ xs, Scal x) ∧ ∀ H', Same H H' → Q (.bl (decide (xs = lensV (reachesN l)))) H'
def spOpp : Sp := fun vs H Q _ => ∃ (p : Addr) (l : List Nat) (m : Nat), vs = [.str (tx l), .ref p, .int (m : Int)] ∧ l.length ≤ 200 ∧ m + 1 < 2 * l.length ∧ H p = some (.lst (lensV (reachesN l))) ∧ Q (.bl true) H
theorem lensV_get {ks : List Nat} {j k : Nat} (h : ks[j]? = some k) : (lensV ks)[j]? = some (.int (k : Int)) := by
  unfold lensV
  rw [List.getElem?_map, h]; rfl
theorem lensV_scal {ks : List Nat} : ∀ x ∈ lensV ks, Scal x := fun x hx => by
  obtain ⟨k, _, rfl⟩ := List.mem_map.mp hx
  trivial
end Mr

namespace L2
open PySem
end L2
namespace Mr
open PySem L2
/-- no whole number, by its kind: not even a truth -/
def NoInt (K : PySem.W.Frag) (H : Hp) (x : V) : Prop := wholeV x = false ∧ ∃ t, TyOf K H x t ∧ PySem.W.kitOne K t (.type "int") = some false
theorem NoInt.same {K : PySem.W.Frag} {H H' : Hp} {x : V} (s : Same H H') (h : NoInt K H x) : NoInt K H' x := let ⟨e, t, a, b⟩ := h; ⟨e, t, TyOf.same s a, b⟩
def spWholeG (K : PySem.W.Frag) : Sp := fun vs H Q _ => ∃ x, vs = [x] ∧ (Scal x ∨ NoInt K H x) ∧ Q (.bl (wholeV x)) H
/-- no middle of the row -/
def NoMid (K : PySem.W.Frag) (l : List Nat) (H : Hp) (x : V) : Prop := (Scal x ∨ NoInt K H x) ∧ ∀ m : Nat, x = .int (m : Int) → ¬ m + 1 < 2 * l.length
def spReachX (K : PySem.W.Frag) (C : Addr) : Sp := fun vs H Q E => ∃ (l : List Nat) (x : V), vs = [.str (tx l), x] ∧ rowL l = true ∧
  ((∃ m : Nat, x = .int (m : Int) ∧ m + 1 < 2 * l.length ∧ ∀ H', Same H H' → Q (.int ((reachN l m : Nat) : Int)) H') ∨ (NoMid K l H x ∧ ∀ H', Same H H' → E (.ref C) none H'))
def spReach1 : Sp := fun vs H Q _ => ∃ (l : List Nat) (m : Nat), vs = [.str (tx l), .int (m : Int)] ∧ rowL l = true ∧ m + 1 < 2 * l.length ∧ ∀ H', Same H H' → Q (.int ((reachN l m : Nat) : Int)) H'
def spToldM (K : PySem.W.Frag) : Sp := fun vs H Q _ => ∃ (l : List Nat) (x : V), vs = [.str (tx l), x] ∧ rowL l = true ∧ NoMid K l H x ∧ ∀ H', Same H H' → Q (.str "middle") H'
end Mr
namespace Mr
open PySem L2
end Mr

namespace Mr
open PySem L2
/-! groups of falling lengths -/
abbrev Gp := Int × Int × Int
def hd0 : List Int → Int
  | [] => 0
  | a :: _ => a
def stepsI : List Int → List Int
  | [] => []
  | a :: r => (a - hd0 r) :: stepsI r
def merge (x : Gp) : List Gp → List Gp
  | [] => [x]
  | y :: t => if y.2.1 = x.2.1 then (x.1, x.2.1, x.2.2 + y.2.2) :: t else x :: y :: t
def dueG : List Int → List Gp
  | [] => []
  | a :: r => merge (a, a - hd0 r, 1) (dueG r)
/-- one turn of the program's loop -/
def turnG (acc : List Gp) (l s : Int) : List Gp :=
  match acc.getLast? with
  | some g => if g.2.1 = s then acc.dropLast ++ [(g.1, s, g.2.2 + 1)] else acc ++ [(l, s, 1)]
  | none => [(l, s, 1)]
def runG : List Gp → List Int → List Gp
  | acc, [] => acc
  | acc, a :: r => runG (turnG acc a (a - hd0 r)) r
/-- what the loop has behind i turns -/
def toG (ls : List Int) (i : Nat) : List Gp := (List.range i).foldl (fun acc j => turnG acc ((ls[j]?).getD 0) (((stepsI ls)[j]?).getD 0)) []
/-- falling lengths -/
def Fall (ls : List Int) : Prop := (∀ l ∈ ls, 0 < l) ∧ ∀ (i : Nat) (a b : Int), ls[i]? = some a → ls[i + 1]? = some b → b < a
def gpV (g : Gp) : HO := .tup [.int g.1, .int g.2.1, .int g.2.2]
/-- xs: the groups gs, each a tuple -/
def GrpsV (H : Hp) (xs : List V) (gs : List Gp) : Prop := xs.length = gs.length ∧ ∀ (j : Nat) (x : V) (g : Gp), xs[j]? = some x → gs[j]? = some g → ∃ p : Addr, x = .ref p ∧ H p = some (gpV g)
end Mr

namespace Mr
open PySem L2
def posV : V → Bool
  | .int i => decide (0 < i)
  | _ => false
/-- are_lengths, of a list -/
def spAreLen (K : PySem.W.Frag) : Sp := fun vs H Q _ => ∃ x, vs = [x] ∧ ((∃ t, TyOf K H x t ∧ PySem.W.kitOne K t (.type "list") = some false ∧ ∀ H', Same H H' → Q (.bl false) H') ∨
  ∃ (p : Addr) (xs : List V), x = .ref p ∧ H p = some (.lst xs) ∧ xs.length ≤ 1000 ∧ (∀ y ∈ xs, Scal y ∨ NoInt K H y) ∧ (∀ ls : List Int, xs = ls.map V.int → Fall ls → ∀ H', Same H H' → Q (.bl true) H') ∧ ((¬ ∃ ls : List Int, xs = ls.map V.int ∧ Fall ls) → ∀ H', Same H H' → Q (.bl false) H'))
def spSteps : Sp := fun vs H Q _ => ∃ (p : Addr) (ls : List Int), vs = [.ref p] ∧ H p = some (.lst (ls.map V.int)) ∧ ls.length ≤ 1000 ∧ ∀ (p' : Addr) (H' : Hp), H p' = none → H' p' = some (.lst ((stepsI ls).map V.int)) → Same H H' → Q (.ref p') H'
/-- groups: of falling lengths the groups, else NoLengths -/
def spGroupsX (K : PySem.W.Frag) (C : Addr) : Sp := fun vs H Q E => ∃ x, vs = [x] ∧ ((∃ (p : Addr) (ls : List Int), x = .ref p ∧ H p = some (.lst (ls.map V.int)) ∧ ls.length ≤ 1000 ∧ Fall ls ∧ ∀ (p' : Addr) (H' : Hp) (xs : List V), H p' = none → H' p' = some (.lst xs) → GrpsV H' xs (dueG ls) → Same H H' → Q (.ref p') H') ∨
  ((∃ t, TyOf K H x t ∧ PySem.W.kitOne K t (.type "list") = some false) ∧ ∀ H', Same H H' → E (.ref C) none H') ∨
  (∃ (p : Addr) (xs : List V), x = .ref p ∧ H p = some (.lst xs) ∧ xs.length ≤ 1000 ∧ (∀ y ∈ xs, Scal y ∨ NoInt K H y) ∧ (¬ ∃ ls : List Int, xs = ls.map V.int ∧ Fall ls) ∧ ∀ H', Same H H' → E (.ref C) none H'))
def spGroups : Sp := fun vs H Q _ => ∃ (p : Addr) (ls : List Int), vs = [.ref p] ∧ H p = some (.lst (ls.map V.int)) ∧ ls.length ≤ 1000 ∧ Fall ls ∧ ∀ (p' : Addr) (H' : Hp) (xs : List V), H p' = none → H' p' = some (.lst xs) → GrpsV H' xs (dueG ls) → Same H H' → Q (.ref p') H'
end Mr
namespace Mr
open PySem L2
def spTakeB : Sp := fun vs H Q _ => ∃ (b : Addr) (n m : Int), vs = [.ref b, .int m] ∧ H b = some (.lst [.int n]) ∧ 0 ≤ n ∧ 0 < m ∧ m ≤ 10 ^ 40 ∧
  ∀ (d n' : Int) (H' : Hp), 0 ≤ d → d < m → 0 ≤ n' → H' b = some (.lst [.int n']) → But b H H' → Q (.int d) H'
/-- falling lengths drawn from the box -/
def spLensD : Sp := fun vs H Q _ => ∃ (b : Addr) (n : Int), vs = [.ref b] ∧ H b = some (.lst [.int n]) ∧ 0 ≤ n ∧
  ∀ (p : Addr) (ls : List Int) (n' : Int) (H' : Hp), ls.length ≤ 1000 → Fall ls → H p = none → H' p = some (.lst (ls.map V.int)) → 0 ≤ n' → H' b = some (.lst [.int n']) → But b H H' → Q (.ref p) H'
def spDueG : Sp := fun vs H Q _ => ∃ (p : Addr) (ls : List Int), vs = [.ref p] ∧ H p = some (.lst (ls.map V.int)) ∧ ls.length ≤ 1000 ∧
  ∀ (p' : Addr) (H' : Hp) (xs : List V), H p' = none → H' p' = some (.lst xs) → GrpsV H' xs (dueG ls) → Same H H' → Q (.ref p') H'
end Mr

namespace Mr
open PySem L2
/-! the mirrors of a row in the order in which they come; their inner and their less -/
def topT (l : List Nat) (b : Nat) : List Nat := sub l (b - ((endsN (l.take b))[0]?).getD 0) b
def mirs (l : List Nat) : Nat → List (List Nat)
  | 0 => []
  | b + 1 => if topT l (b + 1) ∈ mirs l b then mirs l b else mirs l b ++ [topT l (b + 1)]
/-- a mirror that ends at c -/
def EndsAt (l : List Nat) (c : Nat) (t : List Nat) : Prop := ∃ k, 1 ≤ k ∧ k ≤ c ∧ t = sub l (c - k) c ∧ PalI l (c - k) c
def inner (t : List Nat) : List Nat := (t.drop 1).take (t.length - 2)
def lessN (t : List Nat) : List Nat := t.take (((endsN t)[1]?).getD 0)
/-- where a text stands in the list -/
def idxO (ms : List (List Nat)) (x : List Nat) : Option Nat := if x ∈ ms then some (ms.idxOf x) else none
abbrev Ent := List Nat × Option Nat × Option Nat
def entT (ms : List (List Nat)) (t : List Nat) : Ent := (t, idxO ms (inner t), idxO ms (lessN t))
def treeN (l : List Nat) : List Ent := (mirs l l.length).map (entT (mirs l l.length))
end Mr

namespace L2
open PySem PySem.Spec PyProof.Rows PySem.SeqAt PySem.MeetsSeq
section
variable {X : Cx}
def isS (z : Str) : Value → Bool
  | .str c _ => c == z
  | _ => false
/-- xs.index(text) of texts -/
def rIndexS : V → List V → Hp → VK → Prop := fun x vs H Q => ∃ (l : Addr) (ts : List (List Nat)) (t : List Nat) (j : Nat), x = .ref l ∧ vs = [.str (tx t)] ∧ H l = some (.lst (ts.map fun t => V.str (tx t))) ∧ ts[j]? = some t ∧ (∀ m, m < j → ts[m]? ≠ some t) ∧ Q (.int (j : Nat)) H
end
end L2
namespace Mr
open PySem L2
/-- a list of objects that stand for es, each by f -/
def ReV {α : Type} (f : α → HO) (H : Hp) (xs : List V) (es : List α) : Prop := xs.length = es.length ∧ ∀ (j : Nat) (x : V) (e : α), xs[j]? = some x → es[j]? = some e → ∃ p : Addr, x = .ref p ∧ H p = some (f e)
def optV : Option Nat → V
  | none => .non
  | some i => .int (i : Int)
def entV (e : Ent) : HO := .tup [.str (tx e.1), optV e.2.1, optV e.2.2]
abbrev TreeV := ReV entV
def spTree : Sp := fun vs H Q _ => ∃ l : List Nat, vs = [.str (tx l)] ∧ rowL l = true ∧ ∀ (p : Addr) (xs : List V) (H' : Hp), H p = none → H' p = some (.lst xs) → TreeV H' xs (treeN l) → Same H H' → Q (.ref p) H'
def txV (ms : List (List Nat)) : List V := ms.map fun t => V.str (tx t)
/-- _law_mirrors -/
def spMirs : Sp := fun vs H Q _ => ∃ l : List Nat, vs = [.str (tx l)] ∧ rowL l = true ∧ ∀ (p : Addr) (H' : Hp), H p = none → H' p = some (.lst (txV (mirs l l.length))) → Same H H' → Q (.ref p) H'
/-- the dict of the numbers -/
def NumD (H : Hp) (p : Addr) (ms : List (List Nat)) : Prop := ∃ kvs : List (Key × V), H p = some (.dK kvs) ∧ kvs.length ≤ 1000 + ms.length ∧ ∀ x, valV kvs (Sum.inr (tx x)) = (idxO ms x).map fun i => V.int (i : Int)
theorem inV_tx (t : List Nat) : ∀ ms : List (List Nat), inV (.str (tx t)) (txV ms) = decide (t ∈ ms)
  | [] => rfl
  | m :: r => by
    have ih := inV_tx t r
    show inV (.str (tx t)) (.str (tx m) :: txV r) = _
    unfold inV at ih ⊢
    rw [List.any_cons, ih]
    have e : eqV (.str (tx t)) (.str (tx m)) = decide (t = m) := by
      show (tx t == tx m) = _
      rw [Bool.eq_iff_iff, decide_eq_true_iff]
      constructor
      · intro z; exact tx_inj (eq_of_beq z)
      · intro z; rw [z]; simp
    have e' : eqV (.str (tx m)) (.str (tx t)) = decide (t = m) := by
      show (tx m == tx t) = _
      rw [Bool.eq_iff_iff, decide_eq_true_iff]
      constructor
      · intro z; exact (tx_inj (eq_of_beq z)).symm
      · intro z; rw [z]; simp
    rw [e', List.decide_mem_cons]
    congr 1
    rw [Bool.eq_iff_iff]
    simp
/-- the tree as data -/
def entD (e : Ent) : PyData := .tuple [.str (tx e.1), (match e.2.1 with | none => .none | some i => .int (i : Int)), (match e.2.2 with | none => .none | some i => .int (i : Int))]
end Mr

namespace Mr
open PySem L2
/-! the tree's data: it may be shown, and is not too long -/
def optD (o : Option Nat) : PyData := match o with | none => .none | some i => .int (i : Int)
/-- may be shown: n deep at most, of weight w at most -/
def ShOk (d : PyData) (n w : Nat) : Prop := d.showable = true ∧ d.depth ≤ n ∧ d.leavesShort 13 = true ∧ d.weight ≤ w
def ShAll (ds : List PyData) (n w : Nat) : Prop := PyData.showableAll ds = true ∧ PyData.depthAll ds ≤ n ∧ PyData.leavesShortAll 13 ds = true ∧ PyData.weightAll ds ≤ w
end Mr

namespace L2
open PySem PySem.Spec PyProof.Rows
section
variable {X : Cx} {K : PySem.W.Frag} {o e : Expr} {es : List Expr} {to : TE} {t : TA} {name : Str} {apos cpos : Pos} {T id : String} {r : V → List V → Hp → VK → Prop}
/-- a method of Python's own within a comprehension: the context's K said plainly -/
theorem pe_bmK (hK : X.K = K) (pa : PlainAttrs T) (slot : Slot T name id) (hty : typeOf (.builtin id) = pure (.type "method_descriptor")) (hm : MtR X id r) (ho : PE X o to) (ha : PA X (e :: es) t)
    (hbase : attributeBase o name X.env (eval o X.env) = eval o X.env := by rfl)
    (hfew : ((backTo cpos (starEach (e :: es) X.env)).all (fun x => !x.1) && (backToKw cpos (keywordEach [] X.env)).all (fun x => x.1.isSome)
      && decide ((e :: es).length + ([] : List Keyword).length + (if ([] : List Keyword).isEmpty then 0 else 1) < 30)) = true := by rfl)
    (hline : (apos.endLine == cpos.line) = true := by rfl) (hs : starEach (e :: es) X.env = (false, eval e X.env) :: starEach es X.env := by rfl) (hplain : (backTo cpos (starEach es X.env)).any (·.1) = false := by rfl) :
    PE X (.Call (.Attribute o name apos) (e :: es) [] cpos) (tBM K T r to t) := hK ▸ pe_bm pa slot hty hm ho ha hbase hfew hline hs hplain
end
end L2
namespace Mr
open PySem L2
/-! the way of a mirror: its ends, by their numbers -/
def dueW (ms : List (List Nat)) (t : List Nat) : List Nat := (endsN t).map fun k => ms.idxOf (t.take k)
/-- the step behind number i of the way -/
def stepW (ms : List (List Nat)) (t : List Nat) (i : Nat) : Option Nat := ((endsN t)[i]?).map fun k => ms.idxOf (t.take k)
/-! number_of and way -/
def spNumX (K : PySem.W.Frag) (C : Addr) : Sp := fun vs H Q E => ∃ (l : List Nat) (x : V), vs = [.str (tx l), x] ∧ rowL l = true ∧
  ((∃ t : List Nat, x = .str (tx t) ∧ mirV x = true ∧ t.length ≤ 100000 ∧ ∀ H', Same H H' → Q (optV (idxO (mirs l l.length) t)) H') ∨ (Thing K H x ∧ mirV x = false ∧ ∀ H', Same H H' → E (.ref C) none H'))
def NoNum (K : PySem.W.Frag) (l : List Nat) (H : Hp) (x : V) : Prop := (Scal x ∨ NoInt K H x) ∧ ∀ m : Nat, x = .int (m : Int) → ¬ m < (mirs l l.length).length
def spWayX (K : PySem.W.Frag) (C : Addr) : Sp := fun vs H Q E => ∃ (l : List Nat) (x : V), vs = [.str (tx l), x] ∧ rowL l = true ∧
  ((∃ (j : Nat) (t : List Nat), x = .int (j : Int) ∧ (mirs l l.length)[j]? = some t ∧ ∀ (p : Addr) (H' : Hp), H p = none → H' p = some (.lst (lensV (dueW (mirs l l.length) t))) → Same H H' → Q (.ref p) H') ∨ (NoNum K l H x ∧ ∀ H', Same H H' → E (.ref C) none H'))
def spTold17 (K : PySem.W.Frag) : Sp := fun vs H Q _ => ∃ (k : Int) (l : List Nat) (x : V), vs = [.int k, .str (tx l), x] ∧ rowL l = true ∧
  ((k = 0 ∧ ((∃ t : List Nat, x = .str (tx t) ∧ mirV x = true ∧ t.length ≤ 100000 ∧ ∀ H', Same H H' → Q (optV (idxO (mirs l l.length) t)) H') ∨ (Thing K H x ∧ mirV x = false ∧ ∀ H', Same H H' → Q (.str "mirror") H'))) ∨
   (k = 1 ∧ ((∃ (j : Nat) (t : List Nat), x = .int (j : Int) ∧ (mirs l l.length)[j]? = some t ∧ ∀ (p : Addr) (H' : Hp), H p = none → H' p = some (.lst (lensV (dueW (mirs l l.length) t))) → Same H H' → Q (.ref p) H') ∨ (NoNum K l H x ∧ ∀ H', Same H H' → Q (.str "number") H'))))
/-! rows of a, b, z; texts made mirrors -/
def Abz (l : List Nat) : Prop := ∀ c ∈ l, c = 97 ∨ c = 98 ∨ c = 122
def spClosedP : Sp := fun vs H Q _ => ∃ (l : List Nat), vs = [.str (tx l)] ∧ l.length ≤ 10000 ∧ ∀ (m : List Nat) (H' : Hp), (∀ c ∈ m, c ∈ l) → m.length ≤ 2 * l.length → m = m.reverse → (l ≠ [] → m ≠ []) → Same H H' → Q (.str (tx m)) H'
def spClosedZ : Sp := fun vs H Q _ => ∃ (l : List Nat), vs = [.str (tx l)] ∧ Abz l ∧ l.length ≤ 10000 ∧ ∀ (m : List Nat) (H' : Hp), Abz m → m.length ≤ 2 * l.length → Same H H' → Q (.str (tx m)) H'
def spRowZ : Sp := fun vs H Q _ => ∃ (b : Addr) (n most : Int), vs = [.ref b, .int most] ∧ H b = some (.lst [.int n]) ∧ 0 ≤ n ∧ 0 ≤ most ∧ most ≤ 1000 ∧
  ∀ (m : List Nat) (n' : Int) (H' : Hp), Abz m → (m.length : Int) ≤ most → 0 ≤ n' → H' b = some (.lst [.int n']) → But b H H' → Q (.str (tx m)) H'
/-! lists of numbers, shown -/
def lensD (ks : List Nat) : PyData := .list (ks.map fun (k : Nat) => PyData.int (k : Int))
end Mr

namespace L2
open PySem PySem.Spec PyProof.Rows PySem.SeqAt PySem.MeetsSeq
/-! ### sorted of texts, endswith, == of lists that are the same or of unlike length -/
section
variable {X : Cx}
theorem bt_sorted : bootBuiltins "sorted" = some (.builtin "sorted") := by decide +kernel
def rEndsS : V → List V → Hp → VK → Prop := fun x vs H Q => ∃ t u : List Nat, x = .str (tx t) ∧ vs = [.str (tx u)] ∧ u.length ≤ t.length ∧ u = t.drop (t.length - u.length) ∧ Q (.bl true) H
/-- == of two lists that are the same, n deep below them, or of unlike length -/
def rEqDL (n : Nat) : R2 := fun x y H Q => ∃ p q xs ys, x = .ref p ∧ y = .ref q ∧ H p = some (.lst xs) ∧ H q = some (.lst ys) ∧ ((xs.length = ys.length ∧ (∀ (j : Nat) (u v : V), xs[j]? = some u → ys[j]? = some v → DSame H n u v) ∧ Q (.bl true) H) ∨ (xs.length ≠ ys.length ∧ Q (.bl false) H))
end
/-! what is sorted is one list -/
end L2

namespace Mr
open PySem L2
/-! the tree of a beginning; elder ones; the row turned about -/
/-! the row turned about has the same mirrors -/
end Mr

namespace Mr
open PySem L2
/-! trees looked at, entries looked at -/
def spElder : Sp := fun vs H Q _ => ∃ o : Option Nat, vs = [optV o, optV o] ∧ Q (.bl true) H
def spEntry : Sp := fun vs H Q _ => ∃ (p q : Addr) (e : Ent), vs = [.ref p, .ref q] ∧ H p = some (entV e) ∧ H q = some (entV e) ∧ Q (.bl true) H
def spIsTree : Sp := fun vs H Q _ => ∃ (p : Addr) (xs : List V) (l : List Nat), vs = [.ref p, .str (tx l)] ∧ rowL l = true ∧ H p = some (.lst xs) ∧
  ((TreeV H xs (treeN l) ∧ ∀ H', Same H H' → Q (.bl true) H') ∨ (xs.length ≠ (treeN l).length ∧ ∀ H', Same H H' → Q (.bl false) H'))
def spEntryR : Sp := fun vs H Q _ => ∃ (p : Addr) (xs : List V) (l : List Nat) (j : Nat), vs = [.ref p, .int (j : Int)] ∧ rowL l = true ∧ H p = some (.lst xs) ∧ TreeV H xs (treeN l) ∧ j < (mirs l l.length).length ∧ ∀ H', Same H H' → Q (.bl true) H'
def spNum1 : Sp := fun vs H Q _ => ∃ (l t : List Nat), vs = [.str (tx l), .str (tx t)] ∧ rowL l = true ∧ mirV (.str (tx t)) = true ∧ t.length ≤ 100000 ∧ ∀ H', Same H H' → Q (optV (idxO (mirs l l.length) t)) H'
def spWay1 : Sp := fun vs H Q _ => ∃ (l : List Nat) (j : Nat) (t : List Nat), vs = [.str (tx l), .int (j : Int)] ∧ rowL l = true ∧ (mirs l l.length)[j]? = some t ∧ ∀ (p : Addr) (H' : Hp), H p = none → H' p = some (.lst (lensV (dueW (mirs l l.length) t))) → Same H H' → Q (.ref p) H'
end Mr

namespace L2
open PySem PySem.Spec PyProof.Rows
/-! ### sorted(xs, reverse=True) of ints, set(xs) of ints, len of it -/
section
variable {X : Cx} {x : Str} {p pos : Pos} {e : Expr} {es : List Expr} {kws : List Keyword} {t tk : TA} {id : String} {ks : List Str} {r : List V → List V → Hp → VK → Prop}
/-- a call of a built-in with keywords -/
def CallKR (X : Cx) (f : Value) (ks : List Str) (r : List V → List V → Hp → VK → Prop) : Prop :=
  ∀ (pins : List (Addr × Obj)) (s : Shared) (σ : St) (H : Hp) (xs zs : List V) (us ws : List Value) (Q : VK), Inv X pins σ H s → Vals xs us → Vals zs ws → r xs zs H Q → wpAny (model X.prog X.w) X.A (call f us (ks.zip ws)) (EP X pins σ Q) X.xe s
def tCBK (r : List V → List V → Hp → VK → Prop) (t tk : TA) : TE := fun σ H Q => t σ H fun vs H1 => tk σ H1 fun zs H2 => r vs zs H2 Q
def setOfI (ns : List Int) : List Int := firstMet (fun i => ns.getD i 0) ns.length
end
end L2

namespace L2
open PySem PySem.Spec PyProof.Rows
section
variable {X : Cx} {scope : Scope} {cl : List (Str × Addr)} {xs ys : List Str} {ix : List Nat}
/-- a comprehension's block with a target of several names, whatever is done with the list behind it -/
theorem comp_blockL {elt iter : Expr} {elts ifs : List Expr} {kt : Nat} {px pos : Pos} {gs : TGs} {tt : TT} {te : TE} {pins : List (Addr × Obj)} {σ : St} {H2 : Hp} {s2 : Shared} {it : Addr} {fp : List Addr} {tn : Nat → Heap → Prop} {J : It} {W : Nat → Nat → List V → Hp → Prop} {m0 : Nat} {Z : List V → Hp → Prop} {RR : Value → Addr → Result → Shared → Prop}
    {E : Value → Shared → Prop} (n : CompNamesL X scope cl xs ys ix) (hc : X.calm = true)
    (hg : ∀ C fp s H, PG (cmpCx X (xs ++ ys) scope cl C fp s H) (.Tuple elts kt px) (gTup X.K xs.length gs)) (hgs : ∀ (vs : List V) (cs : St) (H : Hp) (Q : St → Hp → Prop), vs.length = xs.length → Q (vs.map some ++ cs) H → gs vs (List.replicate xs.length none ++ cs) H Q)
    (ht : ∀ C fp s H, PTs (cmpCx X (xs ++ ys) scope cl C fp s H) ifs tt) (he : ∀ C fp s H, PE (cmpCx X (xs ++ ys) scope cl C fp s H) elt te)
    (I2 : Inv X pins σ H2 s2) (T : Turn X.prog X.w X.K (.Tuple elts kt px) J fp it tn) (st2 : tn 0 s2.heap) (f2 : ∀ b ∈ fp, FpOk X pins H2 b) (w0 : W 0 m0 [] H2)
    (turn : ∀ i m ys H2, W i m ys H2 → (J.stop i H2 ∧ ys.length ≤ sizeLine ∧ Z ys H2) ∨ (J.go i H2 ∧ ys.length ≤ sizeLine ∧ ∀ x H3, J.yld i H2 x H3 → ∃ (a : Addr) (vs : List V), x = .ref a ∧ SqT X.K H3 a vs ∧ vs.length = xs.length ∧ tt (cstV vs ix σ) H3 fun b H4 =>
      if b = true then te (cstV vs ix σ) H4 fun v H5 => ∃ m', m' < m ∧ W (i + 1) m' (ys ++ [v]) H5 else ∃ m', m' < m ∧ W (i + 1) m' ys H4))
    (hRR : ∀ (D C : Addr) (s4 : Shared) (H3 : Hp) (zs : List V) (m : Str → Option Value), Inv X pins σ (upd H3 D (.lst zs)) s4 → s4.heap.Ns C m → FpOk X pins (upd H3 D (.lst zs)) C → H3 D = none → Z zs H3 → RR (.ref D) C (.ok .next) s4) :
    wpAny (model X.prog X.w) X.A (newList []) (fun acc s₃ => wpAny (model X.prog X.w) X.A (newFunctionEnv scope X.env.globals cl [] X.env.qual none .none (some X.env)) (fun cenv s₄ =>
      codeAny (model X.prog X.w) X.A (.compStart (.ListComp elt [⟨.Tuple elts kt px, iter, ifs, 0⟩] scope pos) 0 (.ref it) acc { cenv with scope := relabel scope X.env }) (RR acc cenv.locals) s₄) E s₃) E s2 := by
  have fo : ∀ b ∈ fp, b < s2.heap.objs.size := fun b hb => let ⟨_, e, _⟩ := T.obj _ _ st2 b hb; Heap.lt_size e
  refine wpAny_newObj_type (wpAny_newFunctionEnv n.cell' (by intro y hy; simp at hy) (fun h₁ hns₁ hsb₁ => ?_) n.kind)
  dsimp only at hns₁ hsb₁ ⊢
  generalize hH3 : s2.heap.push { cls := .type "list", dict := none, data := .seq ([] : List Value).toArray } = G at hns₁ hsb₁ ⊢
  have hC : G.objs.size = s2.heap.objs.size + 1 := by rw [← hH3, Heap.size_push]
  have hDC : s2.heap.objs.size ≠ G.objs.size := by rw [hC]; exact Nat.ne_of_lt (Nat.lt_succ_self _)
  have hCle : s2.heap.objs.size ≤ G.objs.size := by rw [hC]; exact Nat.le_succ _
  have below : ∀ b, b < s2.heap.objs.size → b ≠ G.objs.size ∧ b ≠ s2.heap.objs.size := fun b hb => ⟨by rw [hC]; exact Nat.ne_of_lt (Nat.lt_succ_of_lt hb), Nat.ne_of_lt hb⟩
  have old : ∀ b o, s2.heap.get? b = some o → h₁.get? b = some o := fun b o e => hsb₁.extBut b o (below b (Heap.lt_size e)).1 (Heap.get?_push_of_some _ (hH3 ▸ Heap.get?_push_of_some _ e))
  have hacc : h₁.get? s2.heap.objs.size = some { cls := .type "list", data := .seq ([] : List Value).toArray 0 } := hsb₁.extBut _ _ hDC (Heap.get?_push_of_some _ (hH3 ▸ Heap.get?_push_size _ rfl))
  have st1 : tn 0 h₁ := T.keep _ _ _ st2 fun b _ o e => old b o e
  have stat : ∀ {H' : Hp} {ob : Obj}, (∀ b ∈ fp, H' b = none) → ∀ b ∈ fp, FpOk (cmpCx X (xs ++ ys) scope cl G.objs.size fp s2 H2) [(s2.heap.objs.size, ob)] H' b := fun {H' ob} hn b hb =>
    ⟨hn b hb, (below b (fo b hb)).1, fun z => by
      rcases List.mem_cons.mp (I2.stkSub b z) with e | e
      · exact (f2 b hb).2.1 e
      · exact (f2 b hb).2.2.1 e, .inl hb, fun y c e => (f2 b hb).2.2.2.2.1 y c (n.sub' y c e), fun p hp => by
      have hp' : p ∈ [(s2.heap.objs.size, ob)] := hp
      have e := List.mem_singleton.mp hp'
      subst e
      exact Ne.symm (below b (fo b hb)).2⟩
  have hfin : ∀ (s4 : Shared) (H3 : Hp) (zs : List V) (its : List Value) (k : Nat) (m' : Str → Option Value), Inv (cmpCx X (xs ++ ys) scope cl G.objs.size fp s2 H2) [(s2.heap.objs.size, { cls := .type "list", data := .seq its.toArray k })] (cstL xs.length ix σ) H3 s4 → Vals zs its →
      zs.length ≤ sizeLine → Z zs H3 → RR (.ref s2.heap.objs.size) G.objs.size (.ok .next) s4 := by
    intro s4 H3 zs its k m' I4 rv hz q
    obtain ⟨m4, hn4, _⟩ := I4.loc
    obtain ⟨eD, nD, _, _, _⟩ := I4.pin (s2.heap.objs.size, { cls := .type "list", data := .seq its.toArray k }) (by show _ ∈ [] ++ [_]; simp)
    have nC : H3 G.objs.size = none := I4.free
    have hok : HOk X.prog X.w (upd H3 s2.heap.objs.size (.lst zs)) s4.heap := fun b u e => by
      by_cases hb : b = s2.heap.objs.size
      · subst hb
        rw [upd_same] at e
        cases e
        exact ⟨hz, its, k, rv, eD⟩
      · rw [upd_ne hb] at e
        exact (I4.hok b u e).stay (fun c w hc qq => qq) (fun c qq => by rw [upd_ne (ne_of_none qq nD)]; exact qq) fun c xs qq => by rw [upd_ne (ne_of_none qq nD)]; exact qq
    have un : Un (frs X.stack) fp H2 (upd H3 s2.heap.objs.size (.lst zs)) s2.heap s4.heap := by
      have u4 : Un (frs X.stack) fp H2 H3 s2.heap s4.heap := I4.base
      refine ⟨u4.keep, u4.slot, fun b o e nn hx => ?_, u4.there, fun b xs e => ?_, fun b o u e => ?_, fun b ps e => ?_⟩
      · rw [upd_ne (below b (Heap.lt_size e)).2]
        exact u4.free b o e nn hx
      · have z := u4.tups b xs e
        rw [upd_ne (ne_of_none z nD)]
        exact z
      · have z := u4.frzs b o u e
        rw [upd_ne (ne_of_none z nD)]
        exact z
      · obtain ⟨more, z⟩ := u4.tbls b ps e
        exact ⟨more, by rw [upd_ne (ne_of_none z nD)]; exact z⟩
    have I5 : Inv X pins σ (upd H3 s2.heap.objs.size (.lst zs)) s4 := I2.call' (ch := fp) I4.os un hok I4.bare (fun b hb => ⟨(f2 b hb).2.2.2.1, (f2 b hb).2.1, (f2 b hb).2.2.2.2.1, (f2 b hb).2.2.2.2.2⟩)
    exact hRR _ _ s4 H3 zs m4 I5 hn4 (I2.fpOk hCle (by rw [upd_ne (Ne.symm hDC)]; exact nC)) nD q
  have loop : ∀ s₃ : Shared, s₃ = { s2 with heap := h₁, toks := s2.toks + ([] : List (Str × Value)).length } →
      codeAny (model X.prog X.w) X.A (.compLoop (.ListComp elt [⟨.Tuple elts kt px, iter, ifs, 0⟩] scope pos) 0 (.ref it) (.ref s2.heap.objs.size) (compEnvC scope cl G.objs.size X.env))
        (RR (.ref s2.heap.objs.size) G.objs.size) s₃ := by
    rintro s₃ rfl
    refine turns_go (fun m s' => ∃ (i : Nat) (zs : List V) (its : List Value) (k : Nat) (H' : Hp),
        Inv (cmpCx X (xs ++ ys) scope cl G.objs.size fp s2 H2) [(s2.heap.objs.size, { cls := .type "list", data := .seq its.toArray k })] (cstL xs.length ix σ) H' s' ∧ Vals zs its ∧ tn i s'.heap ∧ (∀ b ∈ fp, H' b = none) ∧ W i m zs H') ?_ m0
      ⟨0, [], [], 0, H2, cmp_startL n I2 f2 fo (Nat.le_refl _) hCle hDC old hns₁ hacc (fun v z => by cases z), .nil, st1, fun b hb => (f2 b hb).1, w0⟩
    rintro m s3 ⟨i, zs, its, k, H3, I3, rv, st3, fr3, w3⟩
    rcases turn i m zs H3 w3 with ⟨stop, hz, qn⟩ | ⟨go, hz, step⟩
    · refine nof (thn (T.done (cmpCx X (xs ++ ys) scope cl G.objs.size fp s2 H2) rfl rfl rfl hc i _ s3 _ H3 _ I3 (stat fr3) st3 stop) fun r s4 ⟨hr, I4⟩ => ?_)
      subst hr
      exact hfin s4 H3 zs its k (fun _ => none) I4 rv hz qn
    · refine nof (thn (T.item (cmpCx X (xs ++ ys) scope cl G.objs.size fp s2 H2) rfl rfl rfl hc i _ s3 _ H3 _ I3 (stat fr3) st3 go) fun r s4 ⟨u, hr, h4⟩ => ?_)
      subst hr
      have go_on : ∀ {s5 s7 : Shared} {vs : List V} {H5 H7 : Hp}, vs.length = xs.length → (∀ b ∈ fp, H5 b = none) → tn (i + 1) s5.heap → Inv (cmpCx X (xs ++ ys) scope cl G.objs.size fp s2 H2) ([(s2.heap.objs.size, { cls := .type "list", data := .seq its.toArray k })] ++ pinsAt fp s5.heap) (cstV vs ix σ) H7 s7 →
          Inv (cmpCx X (xs ++ ys) scope cl G.objs.size fp s2 H2) [(s2.heap.objs.size, { cls := .type "list", data := .seq its.toArray k })] (cstL xs.length ix σ) H7 s7 ∧ tn (i + 1) s7.heap ∧ (∀ b ∈ fp, H7 b = none) := by
        intro s5 s7 vs H5 H7 hvl fr5 st5 I7
        have pn : ∀ b o, b ∈ fp → s5.heap.get? b = some o → s7.heap.get? b = some o ∧ H7 b = none := fun b o hb e => by
          have z := I7.pin (b, o) (List.mem_append_right _ (List.mem_append_right _ (mem_pinsAt hb e)))
          exact ⟨z.1, z.2.1⟩
        refine ⟨(I7.weak (σ' := cstL xs.length ix σ) (by simp [cstL, cstV, hvl]) fun j v e => ?_).unpinned, T.keep _ _ _ st5 fun b hb o e => (pn b o hb e).1, fun b hb => ?_⟩
        · unfold cstL at e
          unfold cstV
          by_cases hj : j < xs.length
          · rw [List.getElem?_append_left (by simpa using hj), List.getElem?_replicate, if_pos hj] at e
            cases Option.some.inj e
          · rw [List.getElem?_append_right (by simp; omega)] at e ⊢
            simpa [hvl] using e
        · obtain ⟨o, e, _⟩ := T.obj _ _ st5 b hb
          exact (pn b o hb e).2
      refine nof (thn h4 fun _ s5 ⟨y, H5, I5, r5, y5, st5, fr5⟩ => ?_)
      have I5' := I5.pinned (stat fr5) (T.obj _ _ st5)
      obtain ⟨a, vs, e1, hq, hvl, q5⟩ := step y _ y5
      subst e1
      refine nof (thn (hg _ _ _ _ _ s5 _ H5 (.ref a) u (fun σ' H' => σ' = cstV vs ix σ ∧ H' = H5) I5' r5 ⟨a, vs, rfl, hq, hvl, hgs vs _ _ _ hvl ⟨rfl, rfl⟩⟩) fun _ s6 ⟨σ6, H6, I6, e6, e6'⟩ => ?_)
      subst e6 e6'
      refine nof (thn (ht _ _ _ _ _ s6 _ _ _ I6 q5) fun b s7 ⟨H7, I7, q7⟩ => ?_)
      cases b with
      | false =>
        rw [if_neg (by decide)] at q7 ⊢
        obtain ⟨m', hm, w7⟩ := q7
        obtain ⟨I8, st8, fr8⟩ := go_on hvl fr5 st5 I7
        exact ⟨m', hm, i + 1, zs, its, k, H7, I8, rv, st8, fr8, w7⟩
      | true =>
        rw [if_pos rfl] at q7 ⊢
        refine nof (thn (he _ _ _ _ _ s7 _ _ _ I7 q7) fun v8 s8 ⟨z8, H8, I8, r8, m', hm, w8⟩ => ?_)
        obtain ⟨I9, st9, fr9⟩ := go_on hvl fr5 st5 I8
        obtain ⟨eD, nD, neL, _, _⟩ := I9.pin (s2.heap.objs.size, { cls := .type "list", data := .seq its.toArray k }) (by show _ ∈ [] ++ [_]; simp)
        refine append_at eD (fun h' hs' hD' => ?_) (by rw [List.size_toArray, ← rv.length]; exact hz)
        have kp : ∀ b o, b ≠ s2.heap.objs.size → s8.heap.get? b = some o → h'.get? b = some o := fun b o hb e => hs'.extBut b o hb e
        have lt_cell : ∀ y c, cl.lookup y = some c → c ≠ s2.heap.objs.size := fun y c e => by
          obtain ⟨v, q⟩ := I2.cell y c (n.sub' y c e)
          exact Nat.ne_of_lt q.lt
        have nst : s2.heap.objs.size ∉ frs X.stack := fun z => by
          rcases List.mem_cons.mp (I2.stkSub _ z) with e | e
          · exact absurd (Nat.lt_of_lt_of_le I2.lt (by rw [← e]; exact Nat.le_refl _)) (Nat.lt_irrefl _)
          · exact I2.nofs (Nat.le_refl _) e
        have I10 : Inv (cmpCx X (xs ++ ys) scope cl G.objs.size fp s2 H2) [] (cstL xs.length ix σ) H8 { s8 with heap := h', toks := s8.toks } :=
          (I9.pins_of (pins' := []) fun p hp => absurd hp (by simp)).turned (it := s2.heap.objs.size) kp nD neL (.inr (Nat.le_refl _)) lt_cell fun p hp => absurd (show p ∈ ([] : List (Addr × Obj)) from hp) (by simp)
        refine ⟨m', hm, i + 1, zs ++ [z8], its ++ [v8], k + 1, H8, I10.pins_of fun p hp => ?_, rv.append (.cons r8 .nil), T.keep _ _ _ st9 fun b hb o e => kp b o (below b (fo b hb)).2 e, fr9, w8⟩
        have e := List.mem_singleton.mp hp
        subst e
        refine ⟨?_, nD, hDC, nst, fun v z => by cases z⟩
        rw [← List.push_toArray]
        exact hD'
  exact codeAny_compStart_list (loop _ rfl) (T.self X.A 0 _ _ _ st1 (loop _ rfl))
theorem ps_setcL {elt iter : Expr} {elts ifs : List Expr} {kt : Nat} {px pos py spos : Pos} {wi : TI} {gs : TGs} {tt : TT} {te : TE} {i : Nat} {y : Str} (n : CompNamesL X scope cl xs ys ix) (hc : X.calm = true) (hi : PI X (.Tuple elts kt px) iter wi)
    (hg : ∀ C fp s H, PG (cmpCx X (xs ++ ys) scope cl C fp s H) (.Tuple elts kt px) (gTup X.K xs.length gs)) (hgs : ∀ (vs : List V) (cs : St) (H : Hp) (Q : St → Hp → Prop), vs.length = xs.length → Q (vs.map some ++ cs) H → gs vs (List.replicate xs.length none ++ cs) H Q)
    (ht : ∀ C fp s H, PTs (cmpCx X (xs ++ ys) scope cl C fp s H) ifs tt) (he : ∀ C fp s H, PE (cmpCx X (xs ++ ys) scope cl C fp s H) elt te) (hN : X.N.Nodup) (hy : X.N[i]? = some y) (hL : Loc X.env.scope y)
    (hsw : swapsWith (.ListComp elt [⟨.Tuple elts kt px, iter, ifs, 0⟩] scope pos) (some (.Name y py)) spos.line X.env = pure true := by rfl) (hs : ∀ x, foldedSetIterable iter X.env x = pure x := by intro _; rfl)
    (hf : X.fn y = true ∨ X.env.scope.names.lookup y = some .local := by first | exact .inl rfl | exact .inr rfl | assumption) :
    PS X (.Assign [.Name y py] (.ListComp elt [⟨.Tuple elts kt px, iter, ifs, 0⟩] scope pos) spos) (tAsg (tCompL X.K xs.length wi ix tt te) (gName i)) := by
  intro pins s σ H D I h
  rw [exec_Assign_Name_used _ _ _ _ hsw]
  refine wpAny_bind (wpAny_standAt (wpAny_bind ?_))
  show wpAny _ X.A (do let _ ← comprehension (.ListComp elt [⟨.Tuple elts kt px, iter, ifs, 0⟩] scope pos) scope X.env _ (newList []) false (eval iter X.env) (some (assign (.Name y py) X.env))) _ _ s
  refine wpAny_bind (wpAny_mono (wpAny_comprehension_free (use := some (assign (.Name y py) X.env)) (Q := fun _ s' => SP X pins D .next s') rfl hs n.clos n.kind n.names'
    (thn (hi pins s σ H _ I h) fun v s1 h1 => thn h1 fun itv s2 h2 => ?_)) (fun _ s' hq => wpAny_pure (wpAny_pure hq)) fun _ _ e => e)
  obtain ⟨it, fp, tn, J, H2, e, I2, T, st2, f2, W, ⟨m0, w0⟩, turn⟩ := h2
  subst e
  refine comp_blockL (RR := fun acc C => compPost (model X.prog X.w) X.A X.xe (some (assign (.Name y py) X.env)) (fun _ s' => SP X pins D .next s') acc C) n hc hg hgs ht he I2 T st2 f2 w0 turn ?_
  intro D' C s4 H3 zs m I4 hn4 fC nD q
  show wpAny _ X.A (assign (.Name y py) X.env (.ref D')) _ _ s4
  refine wpAny_assign_Name (store_ok2 (v := .ref D') I4 hN hy hL rfl (fun s5 I5 ⟨a, sb, ha⟩ => ?_) hf)
  have hCa : C ≠ a := by
    rcases ha with e | e
    · rw [e]; exact fC.2.1
    · exact Ne.symm (fC.2.2.2.2.1 _ _ e)
  refine ⟨m, hn4.sameBut sb hCa, fun h' hs' => ?_⟩
  exact ⟨_, _, I5.turned (t' := s5.toks) (fun b o hb e => hs'.extBut b o hb e) fC.1 fC.2.1 fC.2.2.2.1 fC.2.2.2.2.1 fC.2.2.2.2.2, q D' nD⟩
end
end L2

namespace Mr
open PySem L2
/-! the steps of the ends: they never rise, and where they fall the length is more than the next two together -/
/-- lengths whose steps never rise, with what is promised where they fall -/
def Good : List Int → Prop
  | [] => True
  | a :: r => 0 < a ∧ hd0 r < a ∧ (r ≠ [] → hd0 r - hd0 r.tail ≤ a - hd0 r ∧ (hd0 r - hd0 r.tail < a - hd0 r → hd0 r + hd0 r.tail < a)) ∧ Good r
def castI (l : List Nat) : List Int := l.map fun k : Nat => (k : Int)
/-! groups told apart -/
def lenG (g : Gp) : List Int := (List.range g.2.2.toNat).map fun k : Nat => g.1 - g.2.1 * (k : Int)
def lensG (gs : List Gp) : List Int := (gs.map lenG).flatten
def HdG (r : List Int) (D : List Gp) : Prop := match D with
  | [] => r = []
  | y :: _ => r ≠ [] ∧ y.1 = hd0 r ∧ y.2.1 = hd0 r - hd0 r.tail ∧ 1 ≤ y.2.2
def stepG (D : List Gp) : List Int := D.map (·.2.1)
def leastI : Nat → Int
  | 0 => 1
  | 1 => 3
  | n + 2 => leastI (n + 1) + leastI n + 1
end Mr

namespace L2
open PySem PySem.Spec PyProof.Rows
/-- a comprehension over a list of tuples -/
theorem comp_listL {K : PySem.W.Frag} {a : Addr} {xs : List V} {σ : St} {ix : List Nat} {kt : Nat} {tt : TT} {te : TE} {H : Hp} {Z : List V → Hp → Prop} (hl : xs.length ≤ sizeLine) (Pv : Nat → List V → Hp → Prop) (h0 : Pv 0 [] H) (hk : ∀ i ys H, Pv i ys H → SqL K H a xs)
    (hs : ∀ i x ys H (N : List V → Hp → Prop), xs[i]? = some x → ys.length ≤ i → Pv i ys H → (∀ ys' H', ys'.length ≤ i + 1 → Pv (i + 1) ys' H' → N ys' H') →
      ∃ (b : Addr) (vs : List V), x = .ref b ∧ SqT K H b vs ∧ vs.length = kt ∧ tt (cstV vs ix σ) H fun b H4 => if b = true then te (cstV vs ix σ) H4 fun v H5 => N (ys ++ [v]) H5 else N ys H4)
    (hd : ∀ ys H, ys.length ≤ xs.length → Pv xs.length ys H → Z ys H) :
    ∃ W : Nat → Nat → List V → Hp → Prop, (∃ m, W 0 m [] H) ∧ ∀ i m ys H2, W i m ys H2 →
      ((Itl K a).stop i H2 ∧ ys.length ≤ sizeLine ∧ Z ys H2) ∨
      ((Itl K a).go i H2 ∧ ys.length ≤ sizeLine ∧ ∀ x H3, (Itl K a).yld i H2 x H3 → ∃ (a : Addr) (vs : List V), x = .ref a ∧ SqT K H3 a vs ∧ vs.length = kt ∧ tt (cstV vs ix σ) H3 fun b H4 =>
        if b = true then te (cstV vs ix σ) H4 fun v H5 => ∃ m', m' < m ∧ W (i + 1) m' (ys ++ [v]) H5 else ∃ m', m' < m ∧ W (i + 1) m' ys H4) := by
  refine ⟨fun i m ys H => m = xs.length - i ∧ i ≤ xs.length ∧ ys.length ≤ i ∧ Pv i ys H, ⟨xs.length, by simp, Nat.zero_le _, Nat.le_refl _, h0⟩, ?_⟩
  rintro i m ys H ⟨rfl, hi, hy, p⟩
  have q := hk i ys H p
  by_cases hlt : i < xs.length
  · refine .inr ⟨⟨xs, xs[i], q, by simp [hlt]⟩, by omega, fun x H' y => ?_⟩
    obtain ⟨e, y⟩ := y
    subst e
    exact hs i x ys _ (fun ys' H5 => ∃ m', m' < xs.length - i ∧ m' = xs.length - (i + 1) ∧ i + 1 ≤ xs.length ∧ ys'.length ≤ i + 1 ∧ Pv (i + 1) ys' H5) (y xs q) hy p fun ys' H' h1 h2 => ⟨xs.length - (i + 1), by omega, rfl, hlt, h1, h2⟩
  · have e : i = xs.length := by omega
    subst e
    exact .inl ⟨⟨xs, q, Nat.le_refl _⟩, by omega, hd ys H hy p⟩
end L2
namespace Mr
open PySem L2
/-- the lengths of the groups -/
def spLenG : Sp := fun vs H Q _ => ∃ (p : Addr) (xs : List V) (gs : List Gp), vs = [.ref p] ∧ H p = some (.lst xs) ∧ GrpsV H xs gs ∧ (lensG gs).length ≤ 1000 ∧ (∀ g ∈ gs, 1 ≤ g.2.2) ∧
  ∀ (p' : Addr) (H' : Hp), H p' = none → H' p' = some (.lst ((lensG gs).map V.int)) → Same H H' → Q (.ref p') H'
def leasts (k : Nat) : List V := ((List.range k).map leastI).map V.int
def spRight : Sp := fun vs H Q _ => ∃ (p : Addr) (ls : List Int), vs = [.ref p] ∧ H p = some (.lst (ls.map V.int)) ∧ Good ls ∧ ls.length ≤ 60 ∧ ∀ H', Same H H' → Q (.bl true) H'
end Mr

namespace L2
open PySem PySem.Spec PyProof.Rows PySem.SeqAt PySem.MeetsSeq
open PySem.AutoSeq1 (wpAny_loadPart')
/-! ### a dict against a number; a list of whatever against a list of numbers -/
/-- x == n, x whatever of the odd things -/
def eqN : V → Int → Bool
  | .int i, n => i == n
  | .bl b, n => (if b then 1 else 0) == n
  | _, _ => false
/-- what may stand against a number -/
def Vs (H : Hp) (x : V) : Prop := match x with
  | .non => True
  | .bl _ => True
  | .int _ => True
  | .str _ => True
  | .ref p => (∃ xs, H p = some (.lst xs)) ∨ (∃ xs, H p = some (.tup xs)) ∨ ∃ kvs, H p = some (.dK kvs)
  | _ => False
section
variable {X : Cx} {pins : List (Addr × Obj)} {σ : St} {H : Hp} {s : Shared}
def eqNs (xs : List V) (ns : List Int) : Bool := decide (xs.length = ns.length) && (List.range xs.length).all fun j => eqN (xs.getD j .non) (ns.getD j 0)
def rEqN : R2 := fun x y H Q => ∃ p q xs ns, x = .ref p ∧ y = .ref q ∧ H p = some (.lst xs) ∧ H q = some (.lst (ns.map V.int)) ∧ (∀ x ∈ xs, Vs H x) ∧ Q (.bl (eqNs xs ns)) H
end
/-! ### repr of made data with small dicts -/
mutual
inductive RdW (H : Hp) : V → PyData → Prop
  | non : RdW H .non .none
  | bl (b : Bool) : RdW H (.bl b) (.bool b)
  | int (i : Int) : RdW H (.int i) (.int i)
  | str (z : Str) : RdW H (.str z) (.str z)
  | lst {p : Addr} {xs : List V} {ds : List PyData} : H p = some (.lst xs) → RdWs H xs ds → RdW H (.ref p) (.list ds)
  | tup {p : Addr} {xs : List V} {ds : List PyData} : H p = some (.tup xs) → RdWs H xs ds → RdW H (.ref p) (.tuple ds)
  | dic {p : Addr} {z : Str} {i : Int} : H p = some (.dK [(Sum.inr z, .int i)]) → RdW H (.ref p) (.dict [(.str z, .int i)])
inductive RdWs (H : Hp) : List V → List PyData → Prop
  | nil : RdWs H [] []
  | cons {x : V} {d : PyData} {xs : List V} {ds : List PyData} : RdW H x d → RdWs H xs ds → RdWs H (x :: xs) (d :: ds)
end
mutual
theorem RdW.mono {H H' : Hp} (s : Same H H') : ∀ {x : V} {d : PyData}, RdW H x d → RdW H' x d
  | _, _, .non => .non
  | _, _, .bl b => .bl b
  | _, _, .int i => .int i
  | _, _, .str z => .str z
  | _, _, .lst h r => .lst (s _ _ h) (RdWs.mono s r)
  | _, _, .tup h r => .tup (s _ _ h) (RdWs.mono s r)
  | _, _, .dic h => .dic (s _ _ h)
theorem RdWs.mono {H H' : Hp} (s : Same H H') : ∀ {xs : List V} {ds : List PyData}, RdWs H xs ds → RdWs H' xs ds
  | _, _, .nil => .nil
  | _, _, .cons a b => .cons (RdW.mono s a) (RdWs.mono s b)
end
section
variable {X : Cx} {pins : List (Addr × Obj)} {σ : St} {H : Hp} {s : Shared}
mutual
theorem RdW.reads (I : Inv X pins σ H s) : ∀ {x : V} {d : PyData} {u : Value}, RdW H x d → RelV x u → ∃ as, Reads s.heap u d as ∧ ∀ a ∈ as, H a ≠ none
  | _, _, _, .non, r => by cases r; exact ⟨_, .none, fun a h => by cases h⟩
  | _, _, _, .bl b, r => by cases r; exact ⟨_, .bool b, fun a h => by cases h⟩
  | _, _, _, .int i, r => by obtain ⟨t, rfl⟩ := r; exact ⟨_, .int i t, fun a h => by cases h⟩
  | _, _, _, .str z, r => by obtain ⟨t, rfl⟩ := r; exact ⟨_, .str z t, fun a h => by cases h⟩
  | _, _, _, .lst (p := p) h q, r => by
    cases r
    obtain ⟨_, its, n, rv, e⟩ := (show ObjOk X.prog X.w H s.heap _ (.lst _) from I.hok _ _ h)
    obtain ⟨as, ra, ha⟩ := RdWs.reads I q rv
    refine ⟨_, .list e rfl rfl (by simpa using ra), fun a hm => ?_⟩
    rcases List.mem_cons.mp hm with rfl | hm
    · rw [h]; simp
    · exact ha a hm
  | _, _, _, .tup h q, r => by
    cases r
    obtain ⟨_, its, rv, o, e, c, n, d⟩ := (show ObjOk X.prog X.w H s.heap _ (.tup _) from I.hok _ _ h)
    obtain ⟨as, ra, ha⟩ := RdWs.reads I q rv
    exact ⟨_, .tuple e c d (by simpa using ra), ha⟩
  | _, _, _, .dic (p := p) (z := z0) (i := i0) h, r => by
    cases r
    obtain ⟨_, _, vs, kv, o, es, ep, h1, h2, h3, _, h5, _⟩ := (show ObjOk X.prog X.w H s.heap _ (.dK _) from I.hok _ _ h)
    cases kv with
    | cons e1 e2 =>
      cases e2
      obtain ⟨e1, rv⟩ := e1
      cases hes : es.toList with
      | nil => rw [hes] at h5; cases h5
      | cons e0 er =>
        rw [hes] at h5
        cases h5 with
        | cons k1 k2 k3 =>
          cases k3
          obtain ⟨t2, e3⟩ := rv
          have k1' : keyIs (Sum.inr z0) e0.key = true := by rw [mixKind_is, ← e1] at k1; exact k1
          rcases keyIs_shape k1' with ⟨i, t, a, b⟩ | ⟨x, t, a, b⟩
          · cases a
          · cases a
            refine ⟨_, .dict (kvs := [(.str _, .int _)]) h1 h2.1 h3 (as := []) (bs := []) ?_ ?_, fun a hm => ?_⟩
            · rw [hes]
              show ReadsAll s.heap [e0.key] [.str _] []
              rw [b]
              exact .cons (as := []) (bs := []) (.str _ _) .nil
            · rw [hes]
              show ReadsAll s.heap [e0.val] [.int _] []
              rw [k2, e3]
              exact .cons (as := []) (bs := []) (.int _ _) .nil
            · have : a = p := by simpa using hm
              rw [this, h]; simp
theorem RdWs.reads (I : Inv X pins σ H s) : ∀ {xs : List V} {ds : List PyData} {us : List Value}, RdWs H xs ds → Vals xs us → ∃ as, ReadsAll s.heap us ds as ∧ ∀ a ∈ as, H a ≠ none
  | _, _, _, .nil, r => by cases r; exact ⟨_, .nil, fun a h => by cases h⟩
  | _, _, _, .cons a b, r => by
    cases r with
    | cons r1 r2 =>
      obtain ⟨as, ra, h1⟩ := RdW.reads I a r1
      obtain ⟨bs, rb, h2⟩ := RdWs.reads I b r2
      refine ⟨_, .cons ra rb, fun a hm => ?_⟩
      rcases List.mem_append.mp hm with hm | hm
      · exact h1 a hm
      · exact h2 a hm
end
end
end L2

namespace L2
open PySem PySem.Spec PyProof.Rows
end L2

namespace Mr
open PySem L2
/-! things of whatever kind: what may stand in a list, what may be handed in -/
inductive Elt (H : Hp) : V → Prop
  | bl (b : Bool) : Elt H (.bl b)
  | int (i : Int) (h : i.natAbs < 10 ^ 40) : Elt H (.int i)
  | str (z : Str) (h : z.cps.size ≤ 300) (hc : (z.cps.toList.all fun c => decide (c < 16 ^ 8)) = true) : Elt H (.str z)
  | odd (x : V) (h : Odd H x) : Elt H x
/-- a thing that is handed in -/
inductive Thg (b : Addr) (H : Hp) : V → Prop
  | elt (x : V) (h : Elt H x) : Thg b H x
  | lst (p : Addr) (xs : List V) (hp : H p = some (.lst xs)) (hb : p ≠ b) (hl : xs.length ≤ 60) (he : ∀ x ∈ xs, Elt H x) : Thg b H (.ref p)
  | tup (p : Addr) (xs : List V) (hp : H p = some (.tup xs)) (hl : xs.length ≤ 60) (he : ∀ x ∈ xs, Elt H x) : Thg b H (.ref p)
/-- may be shown: n deep at most, of weight w at most -/
def Sh2 (d : PyData) (n w : Nat) : Prop := d.showable = true ∧ d.depth ≤ n ∧ d.leavesShort 50 = true ∧ d.weight ≤ w
def Sh2s (ds : List PyData) (n w : Nat) : Prop := PyData.showableAll ds = true ∧ PyData.depthAll ds ≤ n ∧ PyData.leavesShortAll 50 ds = true ∧ PyData.weightAll ds ≤ w
section
variable {K : PySem.W.Frag}
end
def spSameG (K : PySem.W.Frag) : Sp := fun vs H Q _ => ∃ (x : V) (n : Int), vs = [x, .int n] ∧ (Scal x ∨ NoInt K H x) ∧ Q (.bl (decide (x = .int n))) H
def spAreG (K : PySem.W.Frag) : Sp := fun vs H Q _ => ∃ (x : V) (l : List Nat), vs = [x, .str (tx l)] ∧ rowL l = true ∧
  ((∃ (p : Addr) (xs : List V), x = .ref p ∧ H p = some (.lst xs) ∧ (∀ x ∈ xs, Scal x ∨ NoInt K H x) ∧ ∀ H', Same H H' → Q (.bl (decide (xs = lensV (reachesN l)))) H') ∨
   ((∃ t, TyOf K H x t ∧ PySem.W.kitOne K t (.type "list") = some false) ∧ ∀ H', Same H H' → Q (.bl false) H'))
def spBent04 : Sp := fun vs H Q _ => ∃ (b pd : Addr) (n : Int) (ks : List Nat) (x : V), vs = [.ref b, .ref pd, x] ∧ H b = some (.lst [.int n]) ∧ 0 ≤ n ∧ b ≠ pd ∧ H pd = some (.lst (lensV ks)) ∧ ks.length ≤ 29 ∧ (∀ k ∈ ks, k < 100) ∧ Odd H x ∧
  ∀ (y : V) (n' : Int) (H' : Hp), Thg b H' y → (∀ p, y = .ref p → H p = none) → 0 ≤ n' → H' b = some (.lst [.int n']) → But b H H' → Q y H'
end Mr

namespace L2
open PySem PySem.Spec PyProof.Rows PySem.SeqAt PySem.MeetsSeq
open PySem.AutoSeq1 (wpAny_loadPart')
/-! ### != of whatever thing and a text -/
section
variable {X : Cx}
def rNeS : R2 := fun x y H Q => ∃ z : Str, y = .str z ∧ Vs H x ∧ Q (.bl (!decide (x = .str z))) H
end
end L2

namespace Mr
open PySem L2
/-! things that are shown alike are alike: the tree's side is known -/
def cp (z : Str) : List Nat := z.cps.toList
def joinC : List (List Nat) → List Nat
  | [] => []
  | [x] => x
  | x :: y :: r => x ++ 44 :: 32 :: joinC (y :: r)
/-- the signs of what is shown -/
def shC (d : PyData) : List Nat := cp d.shown
/-- numbers that may stand there -/
def NiceI (i : Int) : Prop := i = 10 ^ 39 ∨ i = -1 ∨ ∃ n : Nat, n < 40 ∧ i = (n : Int)
def dig (n : Nat) : List Nat := cp ((toString (n : Int) : String) : Str)
/-! texts -/
def inn (l : List Nat) : List Nat := (l.map (Builtin.Str.reprChar 39)).flatten
def NiceS (l : List Nat) : Prop := Let l ∨ l = [65] ∨ l = [97, 32, 98] ∨ l = [97, 10] ∨ l = [49]
/-- what may stand anywhere: its numbers and texts are nice -/
def Leaf (d : PyData) : Prop := match d with
  | .int i => NiceI i
  | .str z => ∃ l, z = tx l ∧ NiceS l
  | _ => True
def dgB (c : Nat) : Bool := decide (48 ≤ c ∧ c ≤ 57)
/-- the first sign -/
def FirstC (d : PyData) (c : Nat) : Prop := match d with
  | .none => c = 78
  | .bool _ => c = 84 ∨ c = 70
  | .int _ => dgB c = true ∨ c = 45
  | .str _ => c = 39
  | .list _ => c = 91
  | .tuple _ => c = 40
  | .dict _ => c = 123
/-! entries and trees -/
def Ent2 (d : PyData) : Prop := Leaf d ∧ ∀ ds, d = .tuple ds → ∀ x ∈ ds, Leaf x
def Top2 (d : PyData) : Prop := Leaf d ∧ ∀ ds, d = .list ds → ∀ x ∈ ds, Ent2 x
/-- an entry of letters and small numbers -/
def SmallE (e : Ent) : Prop := Let e.1 ∧ (∀ i, e.2.1 = some i → i < 40) ∧ ∀ i, e.2.2 = some i → i < 40
end Mr

namespace Mr
open PySem L2
/-! things that are handed in where trees are asked for -/
def NiceV (x : V) : Prop := match x with
  | .int i => NiceI i
  | .str z => ∃ l, z = tx l ∧ NiceS l
  | _ => True
mutual
theorem rdw_one {H : Hp} : ∀ {x : V} {d d' : PyData}, RdW H x d → RdW H x d' → d = d'
  | _, _, _, .non, .non => rfl
  | _, _, _, .bl b, .bl _ => rfl
  | _, _, _, .int i, .int _ => rfl
  | _, _, _, .str z, .str _ => rfl
  | _, _, _, .lst h q, .lst h' q' => by rw [h] at h'; cases h'; rw [rdws_one q q']
  | _, _, _, .lst h q, .tup h' q' => by rw [h] at h'; cases h'
  | _, _, _, .lst h q, .dic h' => by rw [h] at h'; cases h'
  | _, _, _, .tup h q, .tup h' q' => by rw [h] at h'; cases h'; rw [rdws_one q q']
  | _, _, _, .tup h q, .lst h' q' => by rw [h] at h'; cases h'
  | _, _, _, .tup h q, .dic h' => by rw [h] at h'; cases h'
  | _, _, _, .dic h, .dic h' => by rw [h] at h'; cases h'; rfl
  | _, _, _, .dic h, .lst h' q' => by rw [h] at h'; cases h'
  | _, _, _, .dic h, .tup h' q' => by rw [h] at h'; cases h'
theorem rdws_one {H : Hp} : ∀ {xs : List V} {ds ds' : List PyData}, RdWs H xs ds → RdWs H xs ds' → ds = ds'
  | _, _, _, .nil, .nil => rfl
  | _, _, _, .cons a b, .cons a' b' => by rw [rdw_one a a', rdws_one b b']
end
/-- what stands in a list of entries -/
inductive En (b : Addr) (H : Hp) : V → Prop
  | lf (x : V) (h : Elt H x) (n : NiceV x) : En b H x
  | tup (p : Addr) (xs : List V) (hp : H p = some (.tup xs)) (hl : xs.length ≤ 5) (he : ∀ x ∈ xs, Elt H x ∧ NiceV x) : En b H (.ref p)
  | lst (p : Addr) (xs : List V) (hp : H p = some (.lst xs)) (hb : p ≠ b) (hl : xs.length ≤ 3) (he : ∀ x ∈ xs, Elt H x ∧ NiceV x) : En b H (.ref p)
inductive Tg (b : Addr) (H : Hp) : V → Prop
  | en (x : V) (h : En b H x) : Tg b H x
  | lst (p : Addr) (xs : List V) (hp : H p = some (.lst xs)) (hb : p ≠ b) (hl : xs.length ≤ 60) (he : ∀ x ∈ xs, En b H x) : Tg b H (.ref p)
  | tup (p : Addr) (xs : List V) (hp : H p = some (.tup xs)) (hl : xs.length ≤ 60) (he : ∀ x ∈ xs, En b H x) : Tg b H (.ref p)
section
variable {K : PySem.W.Frag}
end
/-- small entries -/
def SmE (e : Ent) : Prop := SmallE e ∧ e.1.length ≤ 100
def spElderG (K : PySem.W.Frag) : Sp := fun vs H Q _ => ∃ (x : V) (o : Option Nat) (d : PyData), vs = [x, optV o] ∧ (Scal x ∨ NoInt K H x) ∧ RdW H x d ∧ ∀ r : Bool, (r = true ↔ d = optD o) → Q (.bl r) H
def spEntryG : Sp := fun vs H Q _ => ∃ (b : Addr) (x : V) (q : Addr) (d : PyData) (e : Ent), vs = [x, .ref q] ∧ En b H x ∧ RdW H x d ∧ H q = some (entV e) ∧ ∀ r : Bool, (r = true ↔ d = entD e) → Q (.bl r) H
def spIsTreeG : Sp := fun vs H Q _ => ∃ (b : Addr) (x : V) (l : List Nat) (d : PyData), vs = [x, .str (tx l)] ∧ rowL l = true ∧ Tg b H x ∧ RdW H x d ∧ ∀ (r : Bool) (H' : Hp), (r = true ↔ d = .list ((treeN l).map entD)) → Same H H' → Q (.bl r) H'
def spBent16 : Sp := fun vs H Q _ => ∃ (b pd : Addr) (n : Int) (xs : List V) (es : List Ent) (x : V), vs = [.ref b, .ref pd, x] ∧ H b = some (.lst [.int n]) ∧ 0 ≤ n ∧ b ≠ pd ∧ H pd = some (.lst xs) ∧ TreeV H xs es ∧ es.length ≤ 20 ∧ (∀ e ∈ es, SmE e) ∧ Odd H x ∧
  ∀ (y : V) (n' : Int) (H' : Hp), Tg b H' y → (∀ p, y = .ref p → H p = none) → 0 ≤ n' → H' b = some (.lst [.int n']) → But b H H' → Q y H'
end Mr

namespace Mr
open PySem L2
/-! boxes of the later laws: the number in a box may be below nought -/
def Abcz (l : List Nat) : Prop := ∀ c ∈ l, c = 97 ∨ c = 98 ∨ c = 99 ∨ c = 122
theorem Abcz.app {l m : List Nat} (a : Abcz l) (b : Abcz m) : Abcz (l ++ m) := fun c h => (List.mem_append.mp h).elim (a c) (b c)
theorem Abcz.rev {l : List Nat} (a : Abcz l) : Abcz l.reverse := fun c h => a c (List.mem_reverse.mp h)
theorem Abcz.sub {l m : List Nat} (a : Abcz l) (h : ∀ c ∈ m, c ∈ l) : Abcz m := fun c q => a c (h c q)
theorem Abcz.nil : Abcz [] := fun _ h => absurd h (by simp)
theorem Abcz.take {l : List Nat} (a : Abcz l) (n : Nat) : Abcz (l.take n) := a.sub fun _ h => List.mem_of_mem_take h
theorem Abcz.drop {l : List Nat} (a : Abcz l) (n : Nat) : Abcz (l.drop n) := a.sub fun _ h => List.mem_of_mem_drop h
theorem Abcz.cut {l : List Nat} (a : Abcz l) (lo hi : Option Int) : Abcz (cutL l lo hi) := (a.drop _).take _
theorem Abcz.lets {l : List Nat} (a : Abcz l) : Let l := fun c h => by have := a c h; omega
theorem e_abcz : ("abcz" : Str) = tx [97, 98, 99, 122] := by decide +kernel
section
variable (K : PySem.W.Frag)
def spBoxI : Sp := fun vs H Q _ => ∃ (a : Addr) (ns : List Int) (k : Int), vs = [.ref a, .int k] ∧ SqL K H a (ns.map V.int) ∧ 0 ≤ k ∧ ∀ (b : Addr) (n : Int) (H' : Hp), H b = none → H' b = some (.lst [.int n]) → Same H H' → Q (.ref b) H'
end
def spTakeI : Sp := fun vs H Q _ => ∃ (b : Addr) (n m : Int), vs = [.ref b, .int m] ∧ H b = some (.lst [.int n]) ∧ 0 < m ∧ m < 1000000 ∧
  ∀ (d n' : Int) (H' : Hp), 0 ≤ d → d < m → H' b = some (.lst [.int n']) → But b H H' → Q (.int d) H'
def spRowI : Sp := fun vs H Q _ => ∃ (b : Addr) (n most : Int), vs = [.ref b, .int most] ∧ H b = some (.lst [.int n]) ∧ 0 ≤ most ∧ most ≤ 1000 ∧
  ∀ (m : List Nat) (n' : Int) (H' : Hp), Abcz m → (m.length : Int) ≤ most → H' b = some (.lst [.int n']) → But b H H' → Q (.str (tx m)) H'
/-- _law_mirror -/
def spMirI : Sp := fun vs H Q _ => ∃ l : List Nat, vs = [.str (tx l)] ∧ l.length ≤ sizeLine ∧ Q (.bl (!decide (l = []) && decide (l = l.reverse))) H
/-! the ends by place -/
def lstV (ls : List Nat) : HO := .lst (lensV ls)
abbrev LenV := ReV lstV
def endsAt (l : List Nat) : List (List Nat) := (List.range (l.length + 1)).map fun b => endsN (l.take b)
def spEBP : Sp := fun vs H Q _ => ∃ l : List Nat, vs = [.str (tx l)] ∧ rowL l = true ∧ ∀ (p : Addr) (xs : List V) (H' : Hp), H p = none → H' p = some (.lst xs) → LenV H' xs (endsAt l) → Same H H' → Q (.ref p) H'
/-- longest_entry: of a row with its ends, and numbers -/
def spLE : Sp := fun vs H Q _ => ∃ (l : List Nat) (pl pn : Addr) (ms : List (List Nat)), vs = [.str (tx l), .ref pl, .ref pn] ∧ 1 ≤ l.length ∧ l.length ≤ 200 ∧ H pl = some (.lst (lensV (endsN l))) ∧ NumD H pn ms ∧
  ∀ (p : Addr) (H' : Hp), H p = none → H' p = some (entV (entT ms (topT l l.length))) → Same H H' → Q (.ref p) H'
end Mr
namespace Mr
open PySem L2
/-- need_mirror -/
def spNM (K : PySem.W.Frag) (C : Addr) : Sp := fun vs H Q E => ∃ x : V, vs = [x] ∧
  ((∃ t : List Nat, x = .str (tx t) ∧ mirV x = true ∧ t.length ≤ 100000 ∧ ∀ H', Same H H' → Q .non H') ∨ (Thing K H x ∧ mirV x = false ∧ ∀ H', Same H H' → E (.ref C) none H'))
end Mr

namespace L2
open PySem PySem.Spec PyProof.Rows PySem.SeqAt PySem.MeetsSeq
/-! ### min of a list of ints; len of a dict -/
section
variable {X : Cx}
/-- where the ways of a statement meet again: J is what holds there -/
def tJoin (t : TS) : TS := fun D σ H => ∃ J : St → Hp → Prop, (∀ σ' H', J σ' H' → D.nx σ' H') ∧ t { D with nx := J } σ H
end
end L2

namespace Mr
/-! the fewest stretches by place, of which the lengths are told that may end there -/
def minL : List Nat → Nat
  | [] => 0
  | x :: r => if r = [] then x else min x (minL r)
/-- the numbers that are known, of the places that one stretch leads from -/
def knownN (told : List (Option Nat)) (b : Nat) (L : List Nat) : List Nat := L.filterMap fun k => (told[b - k]?).getD none
def nextF (told : List (Option Nat)) (b : Nat) (L : List Nat) : Option Nat := if knownN told b L = [] then none else some (minL (knownN told b L) + 1)
def fewAt (L : Nat → List Nat) : Nat → List (Option Nat)
  | 0 => [some 0]
  | n + 1 => fewAt L n ++ [nextF (fewAt L n) (n + 1) (L (n + 1))]
def few (L : Nat → List Nat) (b : Nat) : Option Nat := ((fewAt L b)[b]?).getD none
/-- lengths that may end at the place b -/
def Fits (L : Nat → List Nat) : Prop := ∀ b k, k ∈ L b → 1 ≤ k ∧ k ≤ b
end Mr

namespace Mr
open PySem L2
/-! cuts: the fewest stretches by place -/
def lenOf (Ls : List (List Nat)) (b : Nat) : List Nat := (Ls[b]?).getD []
def fewV (os : List (Option Nat)) : List V := os.map optV
def spFBP : Sp := fun vs H Q _ => ∃ (p : Addr) (xs : List V) (Ls : List (List Nat)), vs = [.ref p] ∧ H p = some (.lst xs) ∧ LenV H xs Ls ∧ 1 ≤ Ls.length ∧ Ls.length ≤ 1000 ∧ Fits (lenOf Ls) ∧ (∀ b, (lenOf Ls b).length ≤ 1000) ∧
  ∀ (p' : Addr) (H' : Hp), H p' = none → H' p' = some (.lst (fewV (fewAt (lenOf Ls) (Ls.length - 1)))) → Same H H' → Q (.ref p') H'
def fewI (l : List Nat) (b : Nat) : Nat := (few (lenOf (endsAt l)) b).getD 0
def boundsN (l : List Nat) : List Nat := (List.range (l.length + 1)).map (fewI l)
/-- where a stretch of a length may begin -/
def begN (l : List Nat) (b : Nat) : List Nat := (endsN (l.take b)).map (b - ·)
/-- _law_begins -/
def spBeg : Sp := fun vs H Q _ => ∃ (l : List Nat) (b : Nat), vs = [.str (tx l), .int (b : Int)] ∧ b ≤ l.length ∧ l.length ≤ 1000 ∧ ∀ (p : Addr) (H' : Hp), H p = none → H' p = some (.lst (lensV (begN l b))) → Same H H' → Q (.ref p) H'
/-- bounds, and _law_bounds, are spLens boundsN -/
def keepsB (ns : List Int) (b : Nat) (L : List Nat) : Bool := L.all fun k => decide (ns.getD b 0 ≤ ns.getD (b - k) 0 + 1)
def spKeeps : Sp := fun vs H Q _ => ∃ (p pl : Addr) (ns : List Int) (b : Nat) (L : List Nat), vs = [.ref p, .int (b : Int), .ref pl] ∧ H p = some (.lst (ns.map V.int)) ∧ b < ns.length ∧ H pl = some (.lst (lensV L)) ∧ L.length ≤ 1000 ∧ (∀ k ∈ L, k ≤ b) ∧
  ∀ H', Same H H' → Q (.bl (keepsB ns b L)) H'
def areB (l : List Nat) (ns : List Int) : Bool := decide (ns.length = l.length + 1) && (decide (ns.getD 0 0 = 0) && (List.range (l.length + 1)).all fun b => keepsB ns b (endsN (l.take b)))
def spAreB : Sp := fun vs H Q _ => ∃ (p : Addr) (ns : List Int) (l : List Nat), vs = [.ref p, .str (tx l)] ∧ rowL l = true ∧ H p = some (.lst (ns.map V.int)) ∧ ns.length ≤ 1000 ∧ ∀ H', Same H H' → Q (.bl (areB l ns)) H'
end Mr

namespace Mr
open PySem L2
/-! how many unlike mirrors -/
def kindsN (l : List Nat) : Nat := (mirs l l.length).length
def spKinds : Sp := fun vs H Q _ => ∃ l : List Nat, vs = [.str (tx l)] ∧ rowL l = true ∧ ∀ H', Same H H' → Q (.int (kindsN l : Nat)) H'
def spFull : Sp := fun vs H Q _ => ∃ l : List Nat, vs = [.str (tx l)] ∧ rowL l = true ∧ ∀ H', Same H H' → Q (.bl (decide (kindsN l = l.length))) H'
/-- a dict of which the keys are the texts of S -/
def SetL (kvs : List (Key × V)) (S : List Nat → Prop) (B : Nat) : Prop := ∃ ts : List (List Nat), ts.Nodup ∧ ts.length ≤ B ∧ kvs.length = ts.length ∧ (∀ x, (valV kvs (Sum.inr (tx x))).isSome = decide (x ∈ ts)) ∧ ∀ t, t ∈ ts ↔ S t
/-- the mirror stretches that end up to a place -/
def MirTo (l : List Nat) (i j : Nat) (t : List Nat) : Prop := ∃ f c, f < c ∧ c ≤ l.length ∧ (c ≤ i ∨ (c = i + 1 ∧ f < j)) ∧ t = sub l f c ∧ PalI l f c
end Mr

namespace Mr
open PySem L2
/-! cuts told: lists of pairs -/
def pairV (c : Nat × Nat) : HO := .tup [.int (c.1 : Int), .int (c.2 : Int)]
abbrev PairV := ReV pairV
/-- a cut from a place on -/
def CutFrom (l : List Nat) : Nat → List (Nat × Nat) → Prop
  | a, [] => a = l.length
  | a, c :: r => c.1 = a ∧ a < c.2 ∧ c.2 ≤ l.length ∧ PalI l a c.2 ∧ CutFrom l c.2 r
def firstsN (l : List Nat) (b : Nat) : List Nat := (begN l b).filter fun f => decide (fewI l f < fewI l b)
def nextB (l : List Nat) (b : Nat) : Nat := ((firstsN l b)[0]?).getD 0
def cutAcc (l : List Nat) : Nat → Nat → List (Nat × Nat) → List (Nat × Nat)
  | 0, _, acc => acc
  | n + 1, b, acc => if b = 0 then acc else cutAcc l n (nextB l b) ((nextB l b, b) :: acc)
def cutN (l : List Nat) : List (Nat × Nat) := cutAcc l l.length l.length []
def spFewest : Sp := fun vs H Q _ => ∃ l : List Nat, vs = [.str (tx l)] ∧ rowL l = true ∧ ∀ H', Same H H' → Q (.int (fewI l l.length : Nat)) H'
def spCut : Sp := fun vs H Q _ => ∃ l : List Nat, vs = [.str (tx l)] ∧ rowL l = true ∧ ∀ (p : Addr) (xs : List V) (H' : Hp), H p = none → H' p = some (.lst xs) → PairV H' xs (cutN l) → Same H H' → Q (.ref p) H'
/-- _law_is_cut of a cut -/
def spLIC : Sp := fun vs H Q _ => ∃ (p : Addr) (xs : List V) (cs : List (Nat × Nat)) (l : List Nat), vs = [.ref p, .str (tx l)] ∧ H p = some (.lst xs) ∧ PairV H xs cs ∧ cs.length ≤ 1000 ∧ l.length ≤ 1000 ∧ CutFrom l 0 cs ∧ ∀ H', Same H H' → Q (.bl true) H'
end Mr

namespace Mr
open PySem L2
/-! where a text stands -/
def occF (l t : List Nat) : List Nat := (List.range l.length).filter fun f => decide ((l.drop f).take t.length = t)
def occN (l t : List Nat) : List (Nat × Nat) := (occF l t).map fun f => (f, f + t.length)
def occTo (l t : List Nat) (i : Nat) : List (Nat × Nat) := ((List.range i).filter fun f => decide ((l.drop f).take t.length = t)).map fun f => (f, f + t.length)
def spStrX (K : PySem.W.Frag) (C : Addr) : Sp := fun vs H Q E => ∃ (l : List Nat) (x : V), vs = [.str (tx l), x] ∧ rowL l = true ∧
  ((∃ t : List Nat, x = .str (tx t) ∧ mirV x = true ∧ t.length ≤ 1000 ∧ ∀ (p : Addr) (xs : List V) (H' : Hp), H p = none → H' p = some (.lst xs) → PairV H' xs (occN l t) → Same H H' → Q (.ref p) H') ∨ (Thing K H x ∧ mirV x = false ∧ ∀ H', Same H H' → E (.ref C) none H'))
def spTold32 (K : PySem.W.Frag) : Sp := fun vs H Q _ => ∃ (l : List Nat) (x : V), vs = [.str (tx l), x] ∧ rowL l = true ∧
  ((∃ t : List Nat, x = .str (tx t) ∧ mirV x = true ∧ t.length ≤ 1000 ∧ ∀ (p : Addr) (xs : List V) (H' : Hp), H p = none → H' p = some (.lst xs) → PairV H' xs (occN l t) → Same H H' → Q (.ref p) H') ∨ (Thing K H x ∧ mirV x = false ∧ ∀ H', Same H H' → Q (.str "mirror") H'))
def spStrL : Sp := fun vs H Q _ => ∃ (l t : List Nat), vs = [.str (tx l), .str (tx t)] ∧ l.length ≤ 1000 ∧ t.length ≤ 1000 ∧ ∀ (p : Addr) (xs : List V) (H' : Hp), H p = none → H' p = some (.lst xs) → PairV H' xs (occN l t) → Same H H' → Q (.ref p) H'
def pairD (c : Nat × Nat) : PyData := .tuple [.int (c.1 : Int), .int (c.2 : Int)]
end Mr

namespace L2
open PySem PySem.Spec PyProof.Rows
/-! ### methods of an own class, and making an instance -/
structure AtM (K : PySem.W.Frag) (C : Addr) (m qual : Str) (st : Stmt) (ps : List Str) : Prop where
  ex : ∃ (f : Addr) (fd : FuncData), Fun K m qual st f fd ∧ Meth K C m f ∧ Binds K fd ps []
section
variable {P : Program} {w : World} {K : PySem.W.Frag} {mg : Str → Option Value} {base : Heap}
structure Mt (P : Program) (w : World) (K : PySem.W.Frag) (mg : Str → Option Value) (base : Heap) (k : Nat) (C : Addr) (m : Str) (ps : List Str) (sp : Sp) : Prop where
  ex : ∃ (f : Addr) (fd : FuncData), FnOk P w K mg base CX0 k f fd ps sp ∧ Meth K C m f ∧ Binds K fd ps []
structure MtX (P : Program) (w : World) (K : PySem.W.Frag) (mg : Str → Option Value) (base : Heap) (k : Nat) (C : Addr) (m : Str) (ps : List Str) (sp : Sp) : Prop where
  ex : ∃ (f : Addr) (fd : FuncData), FnOk P w K mg base (CX1 P w) k f fd ps sp ∧ Meth K C m f ∧ Binds K fd ps []
/-- a class that may be made without arguments -/
structure MkC (P : Program) (w : World) (K : PySem.W.Frag) (mg : Str → Option Value) (base : Heap) (k : Nat) (C : Addr) (sp : Sp) : Prop where
  ex : ∃ (f : Addr) (fd : FuncData), FnOk P w K mg base CX0 k f fd ["self"] sp ∧ Mk K C f ∧ Binds K fd ["self"] []
end
section
variable {X : Cx} {k j : Nat} {C : Addr} {m x : Str} {ps : List Str} {sp : Sp} {e o : Expr} {es : List Expr} {p apos pos : Pos} {ta : TE} {t : TA} {pl : Sem Bool}
end
end L2
namespace L2
open PySem PySem.Spec PyProof.Rows
def tMethX (C : Addr) (m : Str) (sp : Sp) (Ex : XS) (ta : TE) (t : TA) : TE := fun σ H Q => ta σ H fun x H1 => ∃ a dx fs, x = .ref a ∧ H1 a = some (.ins C dx fs) ∧ fs.lookup m = none ∧ t σ H1 fun vs H2 => sp (x :: vs) H2 Q (Ex σ)
section
variable {X : Cx} {k j : Nat} {C : Addr} {m : Str} {ps : List Str} {sp : Sp} {o : Expr} {apos pos : Pos} {ta : TE} {pl : Sem Bool} {Ex : XS}
end
end L2

namespace Mr
open PySem L2
/-! how many unlike mirrors: a sign more, rows turned about, beginnings and ends -/
end Mr

namespace Mr
open PySem L2
/-! growers -/
structure GrA where
  g : Addr
  dx : Addr
  pe : Addr
  pb : Addr
  pt : Addr
  pn : Addr
def grF (A : GrA) (l : List Nat) : List (Str × V) := [("signs", .str (tx l)), ("endings", .ref A.pe), ("brought", .ref A.pb), ("entries", .ref A.pt), ("numbers", .ref A.pn)]
section
variable {A : GrA} {l : List Nat}
end
/-- the ends that the row had with each of its signs, and whether each brought a mirror -/
def grEnds (l : List Nat) : List (List Nat) := (List.range l.length).map fun i => endsN (l.take (i + 1))
def newsN (l : List Nat) : List Bool := (List.range l.length).map fun i => decide (topT l (i + 1) ∉ mirs l i)
def topL (l : List Nat) : List Nat := topT l l.length
/-- a grower at A with the row l; what it has made itself lies nowhere in B -/
structure GrV (B : Hp) (C : Addr) (H : Hp) (A : GrA) (l : List Nat) : Prop where
  dom : ∀ c, H c = none → B c = none
  row : rowL l = true
  ins : H A.g = some (.ins C A.dx (grF A l))
  ends : ∃ xs, H A.pe = some (.lst xs) ∧ LenV H xs (grEnds l) ∧ ∀ p, V.ref p ∈ xs → p ≠ A.pe ∧ p ≠ A.pb ∧ p ≠ A.pt ∧ B p = none
  news : H A.pb = some (.lst ((newsN l).map V.bl))
  tree : ∃ ts, H A.pt = some (.lst ts) ∧ TreeV H ts (treeN l)
  nums : NumD H A.pn (mirs l l.length)
  d1 : A.pe ≠ A.pb
  d2 : A.pe ≠ A.pt
  d3 : A.pb ≠ A.pt
/-- all but the grower's own things stays -/
def ButG (A : GrA) (H H' : Hp) : Prop := ∀ c o, H c = some o → c ≠ A.g → c ≠ A.pe → c ≠ A.pb → c ≠ A.pt → c ≠ A.pn → H' c = some o
/-- the things of a grower that was made behind H -/
def GrFree (A : GrA) (H : Hp) : Prop := H A.g = none ∧ H A.pe = none ∧ H A.pb = none ∧ H A.pt = none ∧ H A.pn = none
structure ClG (K : PySem.W.Frag) (mg : Str → Option Value) (C : Addr) : Prop where
  cl : Cls K C
  n1 : NoAttr K C "signs"
  n2 : NoAttr K C "endings"
  n3 : NoAttr K C "brought"
  n4 : NoAttr K C "entries"
  n5 : NoAttr K C "numbers"
  mgC : mg "Grower" = some (.ref C)
def spGInit (C : Addr) : Sp := fun vs H Q _ => ∃ (x dx : Addr) (B : Hp), vs = [.ref x] ∧ H x = some (.ins C dx []) ∧ (∀ c, H c = none → B c = none) ∧ ∀ (A : GrA) (H' : Hp), A.g = x → GrV B C H' A [] → H A.pe = none → H A.pb = none → H A.pt = none → H A.pn = none → (∀ c o, H c = some o → c ≠ x → H' c = some o) → Q .non H'
/-- what its ends want of a grower -/
structure GrE (C : Addr) (H : Hp) (A : GrA) (l : List Nat) : Prop where
  len : l.length ≤ 200
  ins : H A.g = some (.ins C A.dx (grF A l))
  ends : ∃ xs, H A.pe = some (.lst xs) ∧ LenV H xs (grEnds l)
def spGEnds (C : Addr) : Sp := fun vs H Q _ => ∃ (A : GrA) (l : List Nat), vs = [.ref A.g] ∧ GrE C H A l ∧ ∀ (p : Addr) (H' : Hp), H p = none → H' p = some (.lst (lensV (endsN l))) → Same H H' → Q (.ref p) H'
def spEW : Sp := fun vs H Q _ => ∃ (l : List Nat) (p : Addr) (c : Nat), vs = [.str (tx l), .ref p, .str (tx [c])] ∧ l.length ≤ 200 ∧ H p = some (.lst (lensV (endsN l))) ∧ ∀ (p' : Addr) (H' : Hp), H p' = none → H' p' = some (.lst (lensV (endsN (l ++ [c])))) → Same H H' → Q (.ref p') H'
def spAdd (C : Addr) : Sp := fun vs H Q _ => ∃ (B : Hp) (A : GrA) (l : List Nat) (c : Nat), vs = [.ref A.g, .str (tx [c])] ∧ GrV B C H A l ∧ 97 ≤ c ∧ c ≤ 122 ∧ l.length < 200 ∧
  ∀ (p : Addr) (H' : Hp), H p = none → H' p = some (.tup [.int (((mirs (l ++ [c]) (l ++ [c]).length).idxOf (topL (l ++ [c])) : Nat) : Int), .bl (decide (topL (l ++ [c]) ∉ mirs l l.length))]) → GrV B C H' A (l ++ [c]) → ButG A H H' → Q (.ref p) H'
end Mr

namespace Mr
open PySem L2
/-! how deep, and the tops -/
def topsN (l : List Nat) : List Nat := (List.range l.length).map fun i => (mirs l l.length).idxOf (topT l (i + 1))
def deepsN (l : List Nat) : List Nat := (List.range l.length).map fun i => (endsN (l.take (i + 1))).length
end Mr

namespace Mr
open PySem L2
/-! what growers tell -/
def spGRow (C : Addr) : Sp := fun vs H Q _ => ∃ (B : Hp) (A : GrA) (l : List Nat), vs = [.ref A.g] ∧ GrV B C H A l ∧ Q (.str (tx l)) H
def spGMany (C : Addr) : Sp := fun vs H Q _ => ∃ (B : Hp) (A : GrA) (l : List Nat), vs = [.ref A.g] ∧ GrV B C H A l ∧ Q (.int ((mirs l l.length).length : Nat)) H
def spGTree (C : Addr) : Sp := fun vs H Q _ => ∃ (B : Hp) (A : GrA) (l : List Nat), vs = [.ref A.g] ∧ GrV B C H A l ∧ ∀ (p : Addr) (xs : List V) (H' : Hp), H p = none → H' p = some (.lst xs) → TreeV H' xs (treeN l) → Same H H' → Q (.ref p) H'
def deepN (l : List Nat) : Nat := (deepsN l).sum
def spGMM (C : Addr) : Sp := fun vs H Q _ => ∃ (B : Hp) (A : GrA) (l : List Nat), vs = [.ref A.g] ∧ GrV B C H A l ∧ ∀ H', Same H H' → Q (.int (deepN l : Nat)) H'
def spAsked (C : Addr) : Sp := fun vs H Q _ => ∃ (B : Hp) (A : GrA) (l : List Nat) (kind : Int), vs = [.ref A.g, .str (tx l), .int kind] ∧ GrV B C H A l ∧ ∀ H', Same H H' → Q (.bl true) H'
end Mr
namespace Mr
open PySem L2
end Mr
namespace Mr
open PySem L2
def spTakeX (C c6 : Addr) : Sp := fun vs H Q E => ∃ (B : Hp) (A : GrA), vs = [.ref A.g] ∧
  ((∃ (l : List Nat) (c : Nat), GrV B C H A (l ++ [c]) ∧ ∀ H', GrV B C H' A l → ButG A H H' → Q (.str (tx [c])) H') ∨ (GrV B C H A [] ∧ ∀ H', Same H H' → E (.ref c6) none H'))
def spTakeG (C : Addr) : Sp := fun vs H Q _ => ∃ (B : Hp) (A : GrA) (l : List Nat) (c : Nat), vs = [.ref A.g] ∧ GrV B C H A (l ++ [c]) ∧ ∀ H', GrV B C H' A l → ButG A H H' → Q (.str (tx [c])) H'
end Mr

namespace L2
open PySem PySem.Spec PyProof.Rows
structure FnOkG (P : Program) (w : World) (K : PySem.W.Frag) (mg : Str → Option Value) (base : Heap) (CX : CXT) (k : Nat) (f : Addr) (fd : FuncData) (ps : List Str) (sp : Sp) : Prop where
  len : ∀ vs H Q E, sp vs H Q E → vs.length = ps.length
  run : ∀ (A : Around) (outer : List Env) (s : Shared) (H : Hp) (args : Args) (us : List Value) (vs : List V) (Q : VK) (E : XK), Room k A → A.guards = some [] → Env0 P w K mg base A outer s H → BindsTo s fd args (ps.zip us) → Vals vs us → sp vs H Q E →
    codeAny (model P w) A (.call (.ref f) args) (CR CX outer P w H s Q E) s
section
variable {P : Program} {w : World} {K : PySem.W.Frag} {mg : Str → Option Value} {base : Heap}
end
end L2

namespace L2
open PySem PySem.Spec PyProof.Rows
/-! ### defs that are called where no repr is under way -/
structure DfG (P : Program) (w : World) (K : PySem.W.Frag) (mg : Str → Option Value) (base : Heap) (k : Nat) (x : Str) (ps : List Str) (sp : Sp) : Prop where
  ex : ∃ (f : Addr) (fd : FuncData), FnOkG P w K mg base CX0 k f fd ps sp ∧ mg x = some (.ref f) ∧ PySem.W.keepIn K (.ref f) = true ∧ Binds K fd ps []
section
variable {X : Cx} {k j : Nat} {x : Str} {ps : List Str} {sp : Sp} {e : Expr} {es : List Expr} {p pos : Pos} {t : TA}
end
end L2

namespace Mr
open PySem L2
/-! two growers -/
/-- the things of one are none of the other's -/
def Apart (A A' : GrA) : Prop := ∀ c, (c = A.g ∨ c = A.pe ∨ c = A.pb ∨ c = A.pt ∨ c = A.pn) → c ≠ A'.g ∧ c ≠ A'.pe ∧ c ≠ A'.pb ∧ c ≠ A'.pt ∧ c ≠ A'.pn
def spRight25 (C : Addr) : Sp := fun vs H Q _ => ∃ (B : Hp) (A : GrA) (l : List Nat), vs = [.ref A.g, .str (tx l)] ∧ GrV B C H A l ∧ ∀ H', Same H H' → Q (.bl true) H'
end Mr
namespace Mr
open PySem L2
abbrev Not5 (c : Addr) (A : GrA) : Prop := c ≠ A.g ∧ c ≠ A.pe ∧ c ≠ A.pb ∧ c ≠ A.pt ∧ c ≠ A.pn
structure TwoS (B : Hp) (A1 A2 : GrA) (pg pr b : Addr) : Prop where
  ap : Apart A1 A2
  b1 : B A1.pe ≠ none ∧ B A1.pb ≠ none ∧ B A1.pt ≠ none
  b2 : B A2.pe ≠ none ∧ B A2.pb ≠ none ∧ B A2.pt ≠ none
  nb1 : Not5 b A1
  nb2 : Not5 b A2
  np1 : Not5 pr A1
  np2 : Not5 pr A2
  ng1 : Not5 pg A1
  ng2 : Not5 pg A2
  Bb : B b ≠ none
  Bp : B pr ≠ none
  bp : b ≠ pr
  bg : b ≠ pg
  pp : pg ≠ pr
structure Two (B : Hp) (C : Addr) (H : Hp) (A1 A2 : GrA) (pg pr b : Addr) (l1 l2 : List Nat) (n : Int) : Prop where
  g1 : GrV B C H A1 l1
  g2 : GrV B C H A2 l2
  hg : H pg = some (.lst [.ref A1.g, .ref A2.g])
  hr : H pr = some (.lst [.str (tx l1), .str (tx l2)])
  n0 : 0 ≤ n
  hb : H b = some (.lst [.int n])
section
variable {B H H' : Hp} {C : Addr} {A1 A2 : GrA} {pg pr b : Addr} {l1 l2 l1' l2' : List Nat} {n n' : Int}
end
end Mr

namespace Mr
open PySem L2
def spTaken (C : Addr) : Sp := fun vs H Q _ => ∃ (B : Hp) (A : GrA), vs = [.ref A.g] ∧
  ((∃ (l : List Nat) (c : Nat), GrV B C H A (l ++ [c]) ∧ ∀ H', GrV B C H' A l → ButG A H H' → Q (.str (tx [c])) H') ∨ (GrV B C H A [] ∧ ∀ H', Same H H' → Q (.str (tx [98, 97, 114, 101])) H'))
end Mr

namespace Mr
open PySem L2
/-! how many stretches are mirrors: place by place -/
def p01 (l : List Nat) (a b : Nat) : Nat := if palB l a b = true then 1 else 0
end Mr

namespace L2
open PySem
section
variable {X : Cx} {pos : Pos} {t u : TS}
/-- an if of which the test tells J: the ways through the test meet ahead of both branches -/
def tIfJ (c : TT) (t u : TS) : TS := fun D σ H => ∃ J : Bool → Hp → Prop, c σ H J ∧ ∀ b H1, J b H1 → if b = true then t D σ H1 else u D σ H1
end
end L2
namespace Mr
open PySem L2
/-! all that a grower tells, in a list -/
def toldV (l : List Nat) (pe pt : Addr) : List V := [.str (tx l), .int ((mirs l l.length).length : Nat), .ref pe, .ref pt, .int (deepN l : Nat)]
def spTold27 (C : Addr) : Sp := fun vs H Q _ => ∃ (B : Hp) (A : GrA) (l : List Nat), vs = [.ref A.g] ∧ GrV B C H A l ∧
  ∀ (p pe pt : Addr) (xs : List V) (H' : Hp), H p = none → H' p = some (.lst (toldV l pe pt)) → H' pe = some (.lst (lensV (endsN l))) → H' pt = some (.lst xs) → TreeV H' xs (treeN l) → Same H H' → Q (.ref p) H'
end Mr

namespace Mr
open PySem L2
/-! what is no row is refused -/
def spNR1 (K : PySem.W.Frag) (C : Addr) : Sp := fun vs H _ E => ∃ x : V, vs = [x] ∧ Thing K H x ∧ rowV x = false ∧ ∀ H', Same H H' → E (.ref C) none H'
def spNRa (K : PySem.W.Frag) (C : Addr) : Sp := fun vs H _ E => ∃ x y : V, vs = [x, y] ∧ Thing K H x ∧ rowV x = false ∧ ∀ H', Same H H' → E (.ref C) none H'
def spNRb (K : PySem.W.Frag) (C : Addr) : Sp := fun vs H _ E => ∃ x y : V, vs = [y, x] ∧ Thing K H x ∧ rowV x = false ∧ ∀ H', Same H H' → E (.ref C) none H'
def spWay07 (K : PySem.W.Frag) (C : Addr) (n : Nat) : Sp := fun vs H _ E => ∃ (x : V) (v : Nat), vs = [.int (v : Int), x] ∧ v < n ∧ Thing K H x ∧ rowV x = false ∧ ∀ H', Same H H' → E (.ref C) none H'
def spTold07 (K : PySem.W.Frag) : Sp := fun vs H Q _ => ∃ (x : V) (h v : Nat), vs = [.int (h : Int), .int (v : Int), x] ∧ ((h = 0 ∧ v < 10) ∨ (h = 1 ∧ v < 9)) ∧ Thing K H x ∧ rowV x = false ∧ ∀ H', Same H H' → Q (.str ("row" : Str)) H'
/-- need_row: nothing where it is a row, else NoRow -/
def spNeedX (K : PySem.W.Frag) (C : Addr) : Sp := fun vs H Q E => ∃ x, vs = [x] ∧ Thing K H x ∧ (rowV x = true → ∀ H', Same H H' → Q .non H') ∧ (rowV x = false → ∀ H', Same H H' → E (.ref C) none H')
end Mr

namespace L2
open PySem PySem.Spec PyProof.Rows
section
variable {X : Cx} {k j : Nat} {C : Addr} {m : Str} {ps : List Str} {sp : Sp} {o e : Expr} {es : List Expr} {apos pos : Pos} {ta : TE} {t : TA} {pl : Sem Bool} {Ex : XS}
end
end L2
namespace Mr
open PySem L2
/-! a grower that is handed whatever -/
def spAddX (K : PySem.W.Frag) (C c5 c7 : Addr) : Sp := fun vs H Q E => ∃ (B : Hp) (A : GrA) (x : V), vs = [.ref A.g, x] ∧
  ((∃ (l : List Nat) (c : Nat), x = .str (tx [c]) ∧ GrV B C H A l ∧ 97 ≤ c ∧ c ≤ 122 ∧ l.length < 200 ∧
      ∀ (p : Addr) (H' : Hp), H p = none → H' p = some (.tup [.int (((mirs (l ++ [c]) (l ++ [c]).length).idxOf (topL (l ++ [c])) : Nat) : Int), .bl (decide (topL (l ++ [c]) ∉ mirs l l.length))]) → GrV B C H' A (l ++ [c]) → ButG A H H' → Q (.ref p) H') ∨
   (∃ l : List Nat, GrV B C H A l ∧ Thing K H x ∧ (rowV x = false ∨ ∃ m : List Nat, x = .str (tx m) ∧ m.length ≤ 100000 ∧ m.length ≠ 1) ∧ ∀ H', Same H H' → E (.ref c5) none H') ∨
   (∃ (l : List Nat) (c : Nat), x = .str (tx [c]) ∧ GrV B C H A l ∧ 97 ≤ c ∧ c ≤ 122 ∧ l.length = 200 ∧ ∀ H', Same H H' → E (.ref c7) none H'))
def spState26 (C : Addr) : Sp := fun vs H Q _ => ∃ (B : Hp) (A : GrA) (l : List Nat), vs = [.ref A.g] ∧ GrV B C H A l ∧
  ∀ (p pe : Addr) (H' : Hp), H p = none → H pe = none → H' p = some (.tup [.str (tx l), .int ((mirs l l.length).length : Nat), .ref pe, .int ((mirs l l.length).length : Nat), .int (deepN l : Nat)]) → H' pe = some (.lst (lensV ((endsN l).take 3))) → Same H H' → Q (.ref p) H'
def spTold26 (K : PySem.W.Frag) (C : Addr) : Sp := fun vs H Q _ => ∃ (B : Hp) (A : GrA) (x : V), vs = [.ref A.g, x] ∧
  ((∃ l : List Nat, GrV B C H A l ∧ Thing K H x ∧ (rowV x = false ∨ ∃ m : List Nat, x = .str (tx m) ∧ m.length ≤ 100000 ∧ m.length ≠ 1) ∧ ∀ H', Same H H' → Q (.str ("sign" : Str)) H') ∨
   (∃ (l : List Nat) (c : Nat), x = .str (tx [c]) ∧ GrV B C H A l ∧ 97 ≤ c ∧ c ≤ 122 ∧ l.length = 200 ∧ ∀ H', Same H H' → Q (.str ("many" : Str)) H'))
end Mr

namespace L2
open PySem PySem.Spec PyProof.Rows PySem.SeqAt PySem.MeetsSeq
/-! ### xs.count(n) of ints; xs[i] op= e -/
section
variable {X : Cx}
def rCountI : V → List V → Hp → VK → Prop := fun x vs H Q => ∃ (l : Addr) (ns : List Int) (n : Int), x = .ref l ∧ vs = [.int n] ∧ H l = some (.lst (ns.map V.int)) ∧ Q (.int (ns.count n : Nat)) H
end
end L2

namespace L2
open PySem PySem.Spec PyProof.Rows PySem.SeqAt PySem.MeetsSeq
/-! ### a dict that stands at the top -/
def TopD (K : PySem.W.Frag) (a : Addr) (kvs : List (Key × V)) : Prop :=
  ∃ (o : Obj) (es : Array DictEntry) (ep : Nat) (vs : List (Key × Value)), K.lookup a = some o ∧ o.ExactDict ∧ o.data = .dict es ep ∧ (∀ (P : Program) (w : World), KeysOf (mixKind P w) es ∧ Pairs (mixKind P w) es.toList vs) ∧ (vs.map (·.1)).Nodup ∧ KV kvs vs ∧ (a == sysModules) = false
section
variable {X : Cx} {o i : Expr} {pos : Pos} {td ty : TE} {a : Addr} {kvs : List (Key × V)}
def tTGet (a : Addr) (kvs : List (Key × V)) (td ty : TE) : TE := fun σ H Q => td σ H fun x H1 => ty σ H1 fun y H2 => ∃ k v, x = .ref a ∧ y = kV k ∧ valV kvs k = some v ∧ Q v H2
end
end L2

namespace L2
open PySem PySem.Spec PyProof.Rows
/-! ### the end of a range while an exception is handled -/
/-- what is handled is an exception that is tracked -/
def Hand (A : Around) (H : Hp) : Prop := ∃ a cls, A.handled = some (.ref a) ∧ H a = some (excO a cls)
/-- what is walked while A stands around -/
structure TurnH (P : Program) (w : World) (K : PySem.W.Frag) (A : Around) (tg : Expr) (J : It) (fp : List Addr) (it : Addr) (tn : Nat → Heap → Prop) : Prop where
  obj : ∀ i h, tn i h → ∀ b ∈ fp, ∃ o, h.get? b = some o ∧ ∀ v, o.data ≠ .cell v
  keep : ∀ i h h', tn i h → (∀ b ∈ fp, ∀ o, h.get? b = some o → h'.get? b = some o) → tn i h'
  item : ∀ (X : Cx), X.prog = P → X.w = w → X.K = K → X.A = A → ∀ (i : Nat) (pins : List (Addr × Obj)) (s : Shared) (σ : St) (H : Hp) (E : Value → Shared → Prop), Inv X pins σ H s → (∀ b ∈ fp, FpOk X pins H b) → tn i s.heap → J.go i H →
    wpAny (model P w) X.A (pyNext (.ref it)) (fun r s1 => ∃ u, r = some u ∧ wpAny (model P w) X.A (letOwnedTupleGo tg (.ref it) u) (fun _ s2 => ∃ x H', Inv X pins σ H' s2 ∧ RelV x u ∧ J.yld i H x H' ∧ tn (i + 1) s2.heap ∧ ∀ b ∈ fp, H' b = none) E s1) E s
  done : ∀ (X : Cx), X.prog = P → X.w = w → X.K = K → X.A = A → ∀ (i : Nat) (pins : List (Addr × Obj)) (s : Shared) (σ : St) (H : Hp) (E : Value → Shared → Prop), Inv X pins σ H s → (∀ b ∈ fp, FpOk X pins H b) → tn i s.heap → J.stop i H →
    wpAny (model P w) X.A (pyNext (.ref it)) (fun r s1 => r = none ∧ Inv X pins σ H s1) E s
  self : ∀ (A : Around) (i : Nat) (s : Shared) (Q : Value → Shared → Prop) (E : Value → Shared → Prop), tn i s.heap → Q (.ref it) s → wpAny (model P w) A (pyIter (.ref it)) Q E s
/-- lo, lo + 1, .. while an exception is handled -/
def ItrH (A : Around) (lo : Int) (n : Nat) : It := ⟨fun i _ => i < n, fun i H x H' => H' = H ∧ x = .int (lo + i), fun i H => n ≤ i ∧ Hand A H⟩
def PIEH (X : Cx) (pins : List (Addr × Obj)) (σ : St) (tg : Expr) (R : It → Hp → Prop) (itv : Value) (s2 : Shared) : Prop :=
  ∃ (it : Addr) (fp : List Addr) (tn : Nat → Heap → Prop) (J : It) (H' : Hp), itv = .ref it ∧ Inv X pins σ H' s2 ∧ TurnH X.prog X.w X.K X.A tg J fp it tn ∧ tn 0 s2.heap ∧ (∀ b ∈ fp, FpOk X pins H' b) ∧ R J H'
def PIH (X : Cx) (tg iter : Expr) (wi : TI) : Prop :=
  ∀ (pins : List (Addr × Obj)) (s : Shared) (σ : St) (H : Hp) (R : It → Hp → Prop), Inv X pins σ H s → wi σ H R →
    wpAny (model X.prog X.w) X.A (eval iter X.env) (fun v s1 => wpAny (model X.prog X.w) X.A (pyIter v) (PIEH X pins σ tg R) X.xe s1) X.xe s
section
variable {X : Cx} {tg : Expr}
def iRngH (A : Around) (ta : TA) : TI := fun σ H R => ta σ H fun vs H1 => ∃ j : Int, vs = [.int j] ∧ -(2 ^ 62) ≤ j ∧ j < 2 ^ 62 ∧ R (ItrH A 0 j.toNat) H1
end
section
variable {X : Cx} {scope : Scope} {cl : List (Str × Addr)} {x : Str} {ys : List Str} {ix : List Nat}
end
/-! ### a def that is called while an exception is handled -/
structure FnOkH (P : Program) (w : World) (K : PySem.W.Frag) (mg : Str → Option Value) (base : Heap) (k : Nat) (f : Addr) (fd : FuncData) (ps : List Str) (sp : Sp) : Prop where
  len : ∀ vs H Q E, sp vs H Q E → vs.length = ps.length
  run : ∀ (A : Around) (outer : List Env) (s : Shared) (H : Hp) (args : Args) (us : List Value) (vs : List V) (Q : VK) (E : XK), RoomN k A → Hand A H → Env0 P w K mg base A outer s H → BindsTo s fd args (ps.zip us) → Vals vs us → sp vs H Q E →
    codeAny (model P w) A (.call (.ref f) args) (CR CX0 outer P w H s Q E) s
structure DfH (P : Program) (w : World) (K : PySem.W.Frag) (mg : Str → Option Value) (base : Heap) (k : Nat) (x : Str) (ps : List Str) (sp : Sp) : Prop where
  ex : ∃ (f : Addr) (fd : FuncData), FnOkH P w K mg base k f fd ps sp ∧ mg x = some (.ref f) ∧ PySem.W.keepIn K (.ref f) = true ∧ Binds K fd ps []
def tCallH (A : Around) (sp : Sp) (t : TA) : TE := fun σ H Q => t σ H fun vs H1 => Hand A H1 ∧ sp vs H1 Q E0
section
variable {P : Program} {w : World} {K : PySem.W.Frag} {mg : Str → Option Value} {base : Heap}
end
section
variable {X : Cx} {k j : Nat} {x : Str} {ps : List Str} {sp : Sp} {e : Expr} {es : List Expr} {p pos : Pos} {t : TA}
end
/-! ### the name of an exception, where a comprehension of the suite reads it: it lies in a cell -/
section
variable {X : Cx} {pins : List (Addr × Obj)} {σ : St} {H : Hp} {s : Shared}
end
/-! ### try: .. except C as n: .., the suite knows what is handled -/
def tTryE (tb : XS → TS) (K : PySem.W.Frag) (R : Value) (i : Nat) (ts : Value → TS) : TS := fun D σ H => ∃ Ex : XS, tb Ex D σ H ∧ ∀ σ' cls H', Ex σ' cls none H' → PySem.W.exmOne K cls R = some true ∧ ∀ a, H' a = none →
  ts (.ref a) { nx := fun σ2 H2 => D.nx (σ2.set i none) H2, rt := D.rt, bk := fun σ2 H2 => D.bk (σ2.set i none) H2, ct := fun σ2 H2 => D.ct (σ2.set i none) H2 } (σ'.set i (some (.ref a))) (upd H' a (excO a cls))
section
variable {X : Cx} {Ex : XS} {pins : List (Addr × Obj)} {tb : XS → TS} {ts : Value → TS} {c n : Str} {i : Nat} {R : Addr} {body suite : List Stmt} {b₀ : Stmt} {np hpos pos : Pos}
end
end L2

namespace L2
open PySem PySem.Spec PyProof.Rows
/-! ### a def with several promises -/
structure DfU (P : Program) (w : World) (K : PySem.W.Frag) (mg : Str → Option Value) (base : Heap) (k : Nat) (x : Str) (sp : Sp) : Prop where
  ex : ∃ f : Addr, mg x = some (.ref f) ∧ PySem.W.keepIn K (.ref f) = true ∧ ∀ (A : Around) (outer : List Env) (s : Shared) (H : Hp) (us : List Value) (vs : List V) (Q : VK) (E : XK), K.In s.heap → Room k A → Env0 P w K mg base A outer s H → Vals vs us → sp vs H Q E →
    codeAny (model P w) A (.call (.ref f) ⟨us, []⟩) (CR (CX1 P w) outer P w H s Q E) s
section
variable {P : Program} {w : World} {K : PySem.W.Frag} {mg : Str → Option Value} {base : Heap} {k : Nat} {x : Str} {ps : List Str} {sp sp' : Sp}
end
end L2

namespace Mr
open PySem L2
/-- the classes of the refusals, as the text has them -/
structure Errs12 (K : PySem.W.Frag) (mg : Str → Option Value) (R c0 c1 c2 c3 c4 c5 c6 c7 c8 c9 c10 c11 : Addr) : Prop where
  mR : mg "RowError" = some (.ref R)
  m0 : mg "NoRow" = some (.ref c0)
  m1 : mg "NoCount" = some (.ref c1)
  m2 : mg "TooLong" = some (.ref c2)
  m3 : mg "TooMany" = some (.ref c3)
  m4 : mg "NoReaches" = some (.ref c4)
  m5 : mg "NoLine" = some (.ref c5)
  m6 : mg "Bare" = some (.ref c6)
  m7 : mg "NoLengths" = some (.ref c7)
  m8 : mg "NoMirror" = some (.ref c8)
  m9 : mg "NoNumber" = some (.ref c9)
  m10 : mg "NoSign" = some (.ref c10)
  m11 : mg "NoMiddle" = some (.ref c11)
/-- the class c, the one at place i, is raised and may be asked for -/
structure Rsd (K : PySem.W.Frag) (R : Addr) (cs : List Addr) (i : Nat) (c : Addr) : Prop where
  lt : i < 12
  ex : X.ExC K c
  kr : PySem.W.kitOne K (.ref c) (.ref R) = some true
  kv : PySem.W.kitOne K (.ref c) (.type "ValueError") = some true
  kk : ∀ (j : Nat) (d : Addr), cs[j]? = some d → PySem.W.kitOne K (.ref c) (.ref d) = some (decide (i = j))
def cls12 (i : Nat) : List V := (List.range 12).map fun j => V.bl (decide (i = j))
def spClasses (K : PySem.W.Frag) (R : Addr) (cs : List Addr) : Sp := fun vs H Q _ => ∃ (a c : Addr) (i : Nat), vs = [.ref a] ∧ H a = some (excO a (.ref c)) ∧ Rsd K R cs i c ∧ ∀ p H', H p = none → H' p = some (.lst (cls12 i)) → Same H H' → Q (.ref p) H'
def spOnly (K : PySem.W.Frag) (R : Addr) (cs : List Addr) : Sp := fun vs H Q _ => ∃ (a c : Addr) (i j : Nat), vs = [.ref a, .int (j : Int)] ∧ H a = some (excO a (.ref c)) ∧ Rsd K R cs i c ∧ j < 12 ∧ ∀ H', Same H H' → Q (.bl (decide (i = j))) H'
/-- a thing that is no row -/
def spNoRow (K : PySem.W.Frag) : Sp := fun vs H Q _ => ∃ (b : Addr) (n : Int), vs = [.ref b] ∧ H b = some (.lst [.int n]) ∧ ∀ (x : V) (n' : Int) (H' : Hp), Thing K H' x → rowV x = false → H' b = some (.lst [.int n']) → But b H H' → Q x H'
end Mr

namespace L2
open PySem PySem.Spec PyProof.Rows
section
variable {X : Cx} {Ex : XS} {pins : List (Addr × Obj)} {tb : XS → TS} {ts : Value → TS} {c n : Str} {i : Nat} {R : Addr} {body suite : List Stmt} {b₀ : Stmt} {np hpos pos : Pos}
end
end L2

namespace L2
open PySem PySem.Spec PyProof.Rows PySem.StrLaws PySem.Builtin PySem.Builtin.Str
/-! ### text.split(sign), int(text of a number) -/
def splitL (c : Nat) : List Nat → List (List Nat)
  | [] => [[]]
  | x :: r => if x = c then [] :: splitL c r else match splitL c r with
    | [] => [[x]]
    | w :: ws => (x :: w) :: ws
section
variable {X : Cx}
def rSplit : V → List V → Hp → VK → Prop := fun x vs H Q => ∃ (l : List Nat) (c : Nat), x = .str (tx l) ∧ vs = [.str (tx [c])] ∧ c < 256 ∧ l.length ≤ 100000 ∧ ∀ p, H p = none → Q (.ref p) (upd H p (.lst ((splitL c l).map fun w => V.str (tx w))))
/-- the signs of a number -/
def numL (n : Nat) : List Nat := (Nat.toDigits 10 n).map Char.toNat
end
end L2

namespace L2
open PySem PySem.Spec PyProof.Rows PySem.SeqAt PySem.MeetsSeq
section
variable {X : Cx} {k : Nat} {y : Str} {p pos : Pos} {e : Expr} {es : List Expr} {te : TE} {t : TA}
/-! ### a function called by a local name; x in a dict that stands at the top -/
/-- a function that is known, with its promise -/
def KnF (P : Program) (w : World) (K : PySem.W.Frag) (mg : Str → Option Value) (base : Heap) (k : Nat) (f : Addr) (sp : Sp) : Prop := ∃ (fd : FuncData) (ps : List Str), FnOk P w K mg base CX0 k f fd ps sp ∧ PySem.W.keepIn K (.ref f) = true ∧ Binds K fd ps []
def tCallV (P : Program) (w : World) (K : PySem.W.Frag) (mg : Str → Option Value) (base : Heap) (k : Nat) (te : TE) (t : TA) : TE := fun σ H Q => te σ H fun v H1 => ∃ (f : Addr) (sp : Sp), v = .ref f ∧ KnF P w K mg base k f sp ∧ tCall sp [] E0 t σ H1 Q
end
section
variable {X : Cx} {o i : Expr} {td ty : TE} {a : Addr} {kvs : List (Key × V)}
def tTIn (a : Addr) (kvs : List (Key × V)) (ty td : TE) : TE := fun σ H Q => ty σ H fun y H1 => td σ H1 fun x H2 => ∃ k, x = .ref a ∧ y = kV k ∧ Q (.bl (valV kvs k).isSome) H2
/-- a dict that stands at the top, in this world: its keys may be texts -/
def TopW (P : Program) (w : World) (K : PySem.W.Frag) (a : Addr) (kvs : List (Key × V)) : Prop :=
  ∃ (o : Obj) (es : Array DictEntry) (ep : Nat) (vs : List (Key × Value)), K.lookup a = some o ∧ o.ExactDict ∧ o.data = .dict es ep ∧ KeysOf (mixKind P w) es ∧ Pairs (mixKind P w) es.toList vs ∧ (vs.map (·.1)).Nodup ∧ KV kvs vs ∧ (a == sysModules) = false
end
end L2

namespace L2
open PySem PySem.Spec PyProof.Rows
section
variable {X : Cx} {a b : Expr} {rest : List Expr} {pos : Pos} {ta tb : TE}
/-- a text, or what stands behind it -/
def tOrT (ta tb : TE) : TE := fun σ H Q => ta σ H fun x H1 => ∃ z : Str, x = .str z ∧ z.length ≤ sizeLine ∧ if z.length = 0 then tb σ H1 Q else Q (.str z) H1
end
end L2

namespace Mr
open PySem L2
/-! the desk -/
def wNone : List Nat := [110, 111, 110, 101]
def wClear : List Nat := [99, 108, 101, 97, 114]
def wTake : List Nat := [116, 97, 107, 101]
def wAdd : List Nat := [97, 100, 100]
def wRow : List Nat := [114, 111, 119]
def wBack : List Nat := [98, 97, 99, 107]
def figs : List Nat := [48, 49, 50, 51, 52, 53, 54, 55, 56, 57]
def tonL (l : List Nat) : List Nat := if l = [] then wNone else l
def spTON : Sp := fun vs H Q _ => ∃ l : List Nat, vs = [.str (tx l)] ∧ l.length ≤ 1000 ∧ Q (.str (tx (tonL l))) H
def spTellRow : Sp := fun vs H Q _ => ∃ l : List Nat, vs = [.str (tx l)] ∧ rowL l = true ∧ ∀ H', Same H H' → Q (.str (tx (tonL l))) H'
def spTellBack : Sp := fun vs H Q _ => ∃ l : List Nat, vs = [.str (tx l)] ∧ rowL l = true ∧ ∀ H', Same H H' → Q (.str (tx (tonL l.reverse))) H'
def isNumB (w : List Nat) : Bool := decide (1 ≤ w.length) && (decide (w.length ≤ 4) && (w.all (fun c => decide (c ∈ figs)) && (decide (w = [48]) || decide (w[0]? ≠ some 48))))
def spIsNum : Sp := fun vs H Q _ => ∃ w : List Nat, vs = [.str (tx w)] ∧ w.length ≤ 1000 ∧ ∀ H', Same H H' → Q (.bl (isNumB w)) H'
def spWA (C : Addr) : Sp := fun vs H Q E => ∃ l w : List Nat, vs = [.str (tx l), .str (tx w)] ∧ l.length ≤ 1000 ∧ w.length ≤ 1000 ∧ ((l.length + w.length ≤ 200 ∧ Q (.str (tx (l ++ w))) H) ∨ (200 < l.length + w.length ∧ E (.ref C) none H))
def spWT (C : Addr) : Sp := fun vs H Q E => ∃ (l : List Nat) (n : Nat), vs = [.str (tx l), .int (n : Int)] ∧ l.length ≤ 1000 ∧ ((n ≤ l.length ∧ Q (.str (tx (l.take (l.length - n)))) H) ∨ (l.length < n ∧ E (.ref C) none H))
def wordsV (ws : List (List Nat)) : List V := ws.map fun w => V.str (tx w)
/-- what a line makes of the row: Bare or TooMany where it is refused -/
def RBn (B T : Addr) (l : List Nat) (ws : List (List Nat)) (H : Hp) (Q : VK) (E : XK) : Prop :=
  (ws = [wClear] ∧ ∀ H', Same H H' → Q (.str (tx [])) H') ∨
  (∃ n : Nat, ((n = 1 ∧ ws = [wTake]) ∨ (n < 400 ∧ ws = [wTake, numL n])) ∧ ((n ≤ l.length ∧ ∀ H', Same H H' → Q (.str (tx (l.take (l.length - n)))) H') ∨ (l.length < n ∧ ∀ H', Same H H' → E (.ref B) none H'))) ∨
  (∃ w : List Nat, ws = [wAdd, w] ∧ rowL w = true ∧ w ≠ [] ∧ ((l.length + w.length ≤ 200 ∧ ∀ H', Same H H' → Q (.str (tx (l ++ w))) H') ∨ (200 < l.length + w.length ∧ ∀ H', Same H H' → E (.ref T) none H'))) ∨
  (∃ w : List Nat, ws = [w] ∧ w ≠ wClear ∧ w ≠ wTake ∧ ∀ H', Same H H' → Q .non H')
def spRB (B T : Addr) : Sp := fun vs H Q E => ∃ (l : List Nat) (p : Addr) (ws : List (List Nat)), vs = [.str (tx l), .ref p] ∧ rowL l = true ∧ H p = some (.lst (wordsV ws)) ∧ RBn B T l ws H Q E
/-- a line that asks: by the table of what is asked -/
def spAns (P : Program) (w : World) (K : PySem.W.Frag) (mg : Str → Option Value) (base : Heap) (k : Nat) (kvs : List (Key × V)) : Sp := fun vs H Q _ => ∃ (l : List Nat) (p : Addr) (a : List Nat) (f : Addr) (sp : Sp), vs = [.str (tx l), .ref p] ∧ H p = some (.lst (wordsV [a])) ∧
  valV kvs (Sum.inr (tx a)) = some (.ref f) ∧ KnF P w K mg base k f sp ∧ sp [.str (tx l)] H Q E0
end Mr

namespace Mr
open PySem L2
/-! a desk -/
structure ClD (K : PySem.W.Frag) (mg : Str → Option Value) (C : Addr) : Prop where
  cl : Cls K C
  n1 : NoAttr K C "kept"
  mgC : mg "Desk" = some (.ref C)
def dkO (C dx : Addr) (l : List Nat) : HO := .ins C dx [("kept", .str (tx l))]
def spDInit (C : Addr) : Sp := fun vs H Q _ => ∃ (x dx : Addr), vs = [.ref x] ∧ H x = some (.ins C dx []) ∧ Q .non (upd H x (dkO C dx []))
/-- what is behind a line: the row that it makes, or what it asks -/
def SayQ (P : Program) (w : World) (K : PySem.W.Frag) (mg : Str → Option Value) (base : Heap) (k : Nat) (kvs : List (Key × V)) (C dk dx : Addr) (l : List Nat) (ws : List (List Nat)) (H : Hp) (Q : VK) : VK := fun v H1 =>
  (∃ l' : List Nat, v = .str (tx l') ∧ l'.length ≤ 1000 ∧ ∀ H', H' dk = some (dkO C dx l') → But dk H H' → Q (.str (tx (numL l'.length))) H') ∨
  (v = .non ∧ ∃ (a : List Nat) (f : Addr) (sp : Sp), ws = [a] ∧ valV kvs (Sum.inr (tx a)) = some (.ref f) ∧ KnF P w K mg base k f sp ∧ sp [.str (tx l)] H1 Q E0)
def spSay (P : Program) (w : World) (K : PySem.W.Frag) (mg : Str → Option Value) (base : Heap) (k : Nat) (kvs : List (Key × V)) (C B T : Addr) : Sp := fun vs H Q E => ∃ (dk dx : Addr) (l line : List Nat), vs = [.ref dk, .str (tx line)] ∧ H dk = some (dkO C dx l) ∧ rowL l = true ∧ line.length ≤ 1000 ∧
  RBn B T l (splitL 32 line) H (SayQ P w K mg base k kvs C dk dx l (splitL 32 line) H Q) E
/-- what _law_said tells: the answer, or the place of the class -/
def spSaid (P : Program) (w : World) (K : PySem.W.Frag) (mg : Str → Option Value) (base : Heap) (k : Nat) (kvs : List (Key × V)) (C B T : Addr) : Sp := fun vs H Q _ => ∃ (dk dx : Addr) (l line : List Nat), vs = [.ref dk, .str (tx line)] ∧ H dk = some (dkO C dx l) ∧ rowL l = true ∧ line.length ≤ 1000 ∧
  RBn B T l (splitL 32 line) H (SayQ P w K mg base k kvs C dk dx l (splitL 32 line) H Q) (fun c _ _ => ∃ i : Nat, ((c = .ref B ∧ i = 6) ∨ (c = .ref T ∧ i = 3)) ∧ ∀ p H'', H p = none → H'' p = some (.lst [.int (i : Int)]) → Same H H'' → Q (.ref p) H'')
end Mr

namespace Mr
open PySem L2
/-! what a desk says to its lines -/
section
variable {P : Program} {w : World} {K : PySem.W.Frag} {mg : Str → Option Value} {base : Heap} {k : Nat} {kvs : List (Key × V)} {C B T dk dx f0 : Addr} {l : List Nat} {H : Hp} {Q : VK} {E : XK}
/-- the line that takes n signs: the bare word, or with a number -/
def TakeL (n : Nat) (line : List Nat) : Prop := (n = 1 ∧ line = wTake) ∨ (n < 400 ∧ line = wTake ++ 32 :: numL n)
end
/-- both the same text, or both a list with the same number -/
def FdV (H : Hp) (x y : V) : Prop := (∃ z : List Nat, x = .str (tx z) ∧ y = .str (tx z)) ∨ ∃ p q : Addr, x = .ref p ∧ y = .ref q ∧ H p = some (.lst [.int 6]) ∧ H q = some (.lst [.int 6])
end Mr

namespace L2
open PySem PySem.Spec PyProof.Rows PySem.SeqAt PySem.MeetsSeq
/-! ### sep.join(texts) -/
section
variable {X : Cx}
def joinL (sep : List Nat) : List (List Nat) → List Nat
  | [] => []
  | z :: zs => z ++ (zs.map (sep ++ ·)).flatten
end
end L2

namespace Mr
open PySem L2
/-! what a desk tells beside the row -/
section
variable {P : Program} {w : World} {K : PySem.W.Frag} {mg : Str → Option Value} {base : Heap} {k : Nat} {kvs : List (Key × V)} {C B T dk dx f0 : Addr} {l : List Nat} {H : Hp} {Q : VK} {E : XK}
end
/-- a number told as a text -/
def spTellN (f : List Nat → Nat) : Sp := fun vs H Q _ => ∃ l : List Nat, vs = [.str (tx l)] ∧ rowL l = true ∧ f l < 10 ^ 10 ∧ ∀ H', Same H H' → Q (.str (tx (numL (f l)))) H'
def wYes : List Nat := [121, 101, 115]
def wNo : List Nat := [110, 111]
def spTellFull : Sp := fun vs H Q _ => ∃ l : List Nat, vs = [.str (tx l)] ∧ rowL l = true ∧ ∀ H', Same H H' → Q (.str (tx (if kindsN l = l.length then wYes else wNo))) H'
end Mr
namespace Mr
open PySem L2
/-- the mirrors of the row in their order, each behind the other -/
def spTellTree : Sp := fun vs H Q _ => ∃ l : List Nat, vs = [.str (tx l)] ∧ rowL l = true ∧ (joinL [32] (mirs l l.length)).length ≤ 1000 ∧ ∀ H', Same H H' → Q (.str (tx (tonL (joinL [32] (mirs l l.length))))) H'
end Mr
namespace Mr
open PySem L2
end Mr
namespace Mr
open PySem L2
/-! what a desk does when it is told, with no error -/
section
variable {P : Program} {w : World} {K : PySem.W.Frag} {mg : Str → Option Value} {base : Heap} {k : Nat} {kvs : List (Key × V)} {C B T dk dx : Addr} {l : List Nat} {H : Hp} {Q : VK} {E : XK}
def spSay0 (P : Program) (w : World) (K : PySem.W.Frag) (mg : Str → Option Value) (base : Heap) (k : Nat) (kvs : List (Key × V)) (C B T : Addr) : Sp := fun vs H Q _ => spSay P w K mg base k kvs C B T vs H Q E0
end
end Mr
namespace Mr
open PySem L2
def wTree : List Nat := [116, 114, 101, 101]
end Mr

namespace Mr
open PySem L2
/-! two desks -/
def b2i (t : Bool) : Int := if t then 1 else 0
def set1 (t : Bool) (m : List Nat) (l : Bool → List Nat) : Bool → List Nat := fun s => if s = t then m else l s
structure TwoD (C : Addr) (dk dx : Bool → Addr) (pd pr b : Addr) (r l : Bool → List Nat) (nb : Int) (H : Hp) : Prop where
  hd : H pd = some (.lst [.ref (dk false), .ref (dk true)])
  hr : H pr = some (.lst [.str (tx (r false)), .str (tx (r true))])
  hk : ∀ t, H (dk t) = some (dkO C (dx t) (l t))
  hb : H b = some (.lst [.int nb])
section
variable {C pd pr b : Addr} {dk dx : Bool → Addr} {r l : Bool → List Nat} {nb : Int} {H H' : Hp}
end
end Mr

namespace L2
open PySem PySem.Spec PyProof.Rows
/-! ### f'{a}M{b}' of two numbers -/
section
variable {X : Cx} {a b : Expr} {p1 p2 p3 pos : Pos} {j : Bool} {ta tb : TE}
def tFNum (ml : List Nat) (ta tb : TE) : TE := fun σ H Q => ta σ H fun x H1 => ∃ n : Nat, x = .int (n : Int) ∧ n < 10 ^ 10 ∧ (numL n).length ≤ 100 ∧ tb σ H1 fun y H2 => ∃ k : Nat, y = .int (k : Int) ∧ k < 10 ^ 10 ∧ (numL k).length ≤ 100 ∧ Q (.str (tx (numL n ++ ml ++ numL k))) H2
end
end L2

namespace L2
open PySem PySem.Spec PyProof.Rows PySem.SeqAt PySem.MeetsSeq
/-! ### max(xs, default=d) of ints -/
section
variable {prog : Program} {w : World} {A : Around} {I : Addr} {fp wr : List Addr} {n : Nat} {P : Nat → Value → Prop} {St : Nat → Heap → Prop}
abbrev mxC (I S : Addr) (kw : List (Str × Value)) : Code := .builtin "max.loop" ⟨[.ref I, .none, .ref S], kw⟩
abbrev mxS (its : Array Value) (c : Nat) : Obj := { cls := .type "list", dict := none, data := .seq its c, slots := #[] }
abbrev mxK (wr : List Addr) (S : Addr) (h h' : Heap) : Prop := ∀ b o, b ∉ wr → b ≠ S → h.get? b = some o → h'.get? b = some o
end
section
variable {prog : Program} {w : World} {A : Around} {E : Value → Shared → Prop} {s : Shared}
end
section
variable {X : Cx}
end
end L2

namespace Mr
open PySem L2
/-! mirrors by signs behind -/
def behN (l : List Nat) : List Nat := l ++ (l.take (l.length - ((endsN l)[0]?).getD 0)).reverse
def spShort : Sp := fun vs H Q _ => ∃ l : List Nat, vs = [.str (tx l)] ∧ rowL l = true ∧ l.length ≤ 60 ∧ ∀ H', Same H H' → Q .non H'
def spBehN : Sp := fun vs H Q _ => ∃ l : List Nat, vs = [.str (tx l)] ∧ rowL l = true ∧ l.length ≤ 60 ∧ ∀ H', Same H H' → Q (.str (tx (behN l))) H'
def spAheN : Sp := fun vs H Q _ => ∃ l : List Nat, vs = [.str (tx l)] ∧ rowL l = true ∧ l.length ≤ 60 ∧ ∀ H', Same H H' → Q (.str (tx (behN l.reverse))) H'
def spLBeh : Sp := fun vs H Q _ => ∃ l : List Nat, vs = [.str (tx l)] ∧ l.length ≤ 1000 ∧ Q (.str (tx (behN l))) H
def per55 (p : List Nat) (d : Nat) : List Nat := (repL p 200).take (40 + d)
set_option maxHeartbeats 0
end Mr

namespace Mr
open PySem L2
/-! signs more: the table -/
def mendL (l : List Nat) : Nat → Nat → Nat
  | 0, _ => 0
  | 1, _ => 0
  | n + 2, f => if l[f]? = l[f + n + 1]? then mendL l n (f + 1) else min (mendL l (n + 1) (f + 1)) (mendL l (n + 1) f) + 1
def ky (a b : Nat) : List Key := [Sum.inl (a : Int), Sum.inl (b : Int)]
/-- the table has all stretches of less than n signs, and of those of n the first j -/
def Tab (l : List Nat) (n j : Nat) (kvs : List (List Key × V)) : Prop :=
  ∀ a b : Nat, valV kvs (ky a b) = if a < b ∧ b ≤ l.length ∧ (b - a < n ∨ (b - a = n ∧ a < j)) then some (.int (mendL l (b - a) a : Nat)) else none
/-- the whole table -/
def TabW (l : List Nat) (kvs : List (List Key × V)) : Prop := Tab l (l.length + 1) 0 kvs
def spMoreFor : Sp := fun vs H Q _ => ∃ (l : List Nat) (pt : Addr) (kvs : List (List Key × V)) (n f j : Nat), vs = [.str (tx l), .ref pt, .int (f : Int), .int ((f + n : Nat) : Int)] ∧ l.length ≤ 200 ∧ H pt = some (.dT kvs) ∧ Tab l n j kvs ∧ 1 ≤ n ∧ f + n ≤ l.length ∧
  ∀ H', Same H H' → Q (.int (mendL l n f : Nat)) H'
def spMendT : Sp := fun vs H Q _ => ∃ l : List Nat, vs = [.str (tx l)] ∧ rowL l = true ∧ l.length ≤ 60 ∧ ∀ (p : Addr) (kvs : List (List Key × V)) (H' : Hp), H p = none → H' p = some (.dT kvs) → TabW l kvs → Same H H' → Q (.ref p) H'
def spMore : Sp := fun vs H Q _ => ∃ l : List Nat, vs = [.str (tx l)] ∧ rowL l = true ∧ l.length ≤ 60 ∧ ∀ H', Same H H' → Q (.int (mendL l l.length 0 : Nat)) H'
/-! refusals: what is no row, then what is too long -/
def Ref2 (K : PySem.W.Frag) (H : Hp) (x : V) (c0 c2 C : Addr) : Prop := (Thing K H x ∧ rowV x = false ∧ C = c0) ∨ (∃ l : List Nat, x = .str (tx l) ∧ rowL l = true ∧ 60 < l.length ∧ C = c2)
def spNS (K : PySem.W.Frag) (c0 c2 : Addr) : Sp := fun vs H _ E => ∃ (x : V) (C : Addr), vs = [x] ∧ Ref2 K H x c0 c2 C ∧ ∀ H', Same H H' → E (.ref C) none H'
def spNSb (K : PySem.W.Frag) (c0 c2 : Addr) : Sp := fun vs H _ E => ∃ (x y : V) (C : Addr), vs = [y, x] ∧ Ref2 K H x c0 c2 C ∧ ∀ H', Same H H' → E (.ref C) none H'
/-- lies_in refuses -/
def RefL (K : PySem.W.Frag) (H : Hp) (x y : V) (c0 c2 C : Addr) : Prop :=
  (Thing K H x ∧ rowV x = false ∧ C = c0) ∨ ∃ l : List Nat, x = .str (tx l) ∧ rowL l = true ∧ ((Thing K H y ∧ rowV y = false ∧ C = c0) ∨
    ∃ m : List Nat, y = .str (tx m) ∧ rowL m = true ∧ (60 < l.length ∨ 120 < m.length) ∧ C = c2)
def spLiX (K : PySem.W.Frag) (c0 c2 : Addr) : Sp := fun vs H _ E => ∃ (x y z : V) (C : Addr), vs = [x, y, z] ∧ RefL K H x y c0 c2 C ∧ ∀ H', Same H H' → E (.ref C) none H'
/-- lies_in of None: no -/
def spLi0 : Sp := fun vs H Q _ => ∃ l m : List Nat, vs = [.str (tx l), .str (tx m), .non] ∧ rowL l = true ∧ l.length ≤ 60 ∧ rowL m = true ∧ m.length ≤ 120 ∧ ∀ H', Same H H' → Q (.bl false) H'
/-- the questions of the law: which refuse, which don't -/
def Ask56 (K : PySem.W.Frag) (H : Hp) (m : Nat) (x g : V) (c0 c2 C : Addr) : Prop := (m ≤ 6 ∧ Ref2 K H x c0 c2 C) ∨ (m = 7 ∧ RefL K H x g c0 c2 C) ∨ (m = 8 ∧ RefL K H g x c0 c2 C)
def AskR (m : Nat) (x g : V) : Prop := ∃ l r : List Nat, rowL l = true ∧ rowL r = true ∧ (((m = 0 ∨ m = 6) ∧ x = .str (tx l) ∧ l.length ≤ 60) ∨ (m = 7 ∧ x = .str (tx l) ∧ g = .str (tx r) ∧ l.length ≤ 60 ∧ r.length ≤ 120) ∨ (m = 8 ∧ g = .str (tx l) ∧ x = .str (tx r) ∧ l.length ≤ 60 ∧ r.length ≤ 120))
def spAskX (K : PySem.W.Frag) (c0 c2 : Addr) : Sp := fun vs H Q E => ∃ (m : Nat) (x g : V), vs = [.int (m : Int), x, g] ∧ ((∃ C, Ask56 K H m x g c0 c2 C ∧ ∀ H', Same H H' → E (.ref C) none H') ∨ (AskR m x g ∧ ∀ H', Same H H' → Q .non H'))
def spTold56 (K : PySem.W.Frag) (c0 c2 : Addr) : Sp := fun vs H Q _ => ∃ (m : Nat) (x g : V) (r : List V), vs = [.int (m : Int), x, g] ∧ ((Ask56 K H m x g c0 c2 c0 ∧ r = [.int 0]) ∨ (Ask56 K H m x g c0 c2 c2 ∧ r = [.int 2]) ∨ (AskR m x g ∧ r = [])) ∧ ∀ p H', H p = none → H' p = some (.lst r) → Same H H' → Q (.ref p) H'
def abN (j : Nat) : List Nat := repL [97, 98] (if j = 8 then 60 else 30)
end Mr

namespace Mr
open PySem L2
/-! how many cuts -/
def lastN (ms : List Nat) (b : Nat) (L : List Nat) : Nat := (L.map fun k => ms.getD (b - k) 0).sum
def wayAt (L : Nat → List Nat) : Nat → List Nat
  | 0 => [1]
  | n + 1 => wayAt L n ++ [lastN (wayAt L n) (n + 1) (L (n + 1))]
def ways (l : List Nat) (b : Nat) : Nat := (wayAt (lenOf (endsAt l)) b).getD b 0
def spLastN : Sp := fun vs H Q _ => ∃ (pm pl : Addr) (ms L : List Nat) (b : Nat), vs = [.ref pm, .int (b : Int), .ref pl] ∧ H pm = some (.lst (lensV ms)) ∧ H pl = some (.lst (lensV L)) ∧ L.length ≤ 1000 ∧ (∀ k ∈ L, k ≤ b ∧ b - k < ms.length) ∧ ∀ H', Same H H' → Q (.int (lastN ms b L : Nat)) H'
def spWays : Sp := fun vs H Q _ => ∃ l : List Nat, vs = [.str (tx l)] ∧ rowL l = true ∧ ∀ H', Same H H' → Q (.int (ways l l.length : Nat)) H'
end Mr
namespace Mr
open PySem L2
def spTwice : Sp := fun vs H Q _ => ∃ n : Nat, vs = [.int (n : Int)] ∧ n ≤ 1000 ∧ Q (.int ((2 ^ n : Nat) : Int)) H
end Mr

namespace Mr
open PySem L2
/-! cuts of rows that go on in the same way -/
def Per (p : Nat) (l : List Nat) : Prop := ∀ i, i < l.length → l[i]? = some (97 + i % p)
end Mr
namespace Mr
open PySem L2
end Mr

namespace Mr
/-! ways from place to place by stretches that read alike; how many there are of a length -/
inductive Path (l : List Nat) : Nat → Nat → Nat → Prop
  | nil (a : Nat) : Path l a a 0
  | step {a f b n : Nat} : Path l a f n → f < b → b ≤ l.length → PalI l f b → Path l a b (n + 1)
/-! how many cuts of a number of stretches -/
def cofN (l : List Nat) : Nat → Nat → Nat
  | 0, b => if b = 0 then 1 else 0
  | c + 1, b => ((begN l b).map (cofN l c)).sum
/-! many ways, from behind -/
def Mp (N : Nat) (A : Nat → Nat → Nat) : Nat → Nat → Nat → Nat
  | 0, a, b => if a = b then 1 else 0
  | c + 1, a, b => sm N fun f => A f b * Mp N A c a f
def adj (l : List Nat) (f b : Nat) : Nat := if f < b ∧ b - f ∈ endsN (l.take b) then 1 else 0
end Mr

namespace Mr
open PySem L2
/-! cuts looked at, drawn, counted -/
section
variable (K : PySem.W.Frag)
def NoLst (H : Hp) (x : V) : Prop := ∃ t, TyOf K H x t ∧ PySem.W.kitOne K t (.type "list") = some false
/-- what stands in a cut: no tuple, or one -/
def ElV (H : Hp) (x : V) : Option (List V) → Prop
  | none => NoTup K H x
  | some ys => ∃ p : Addr, x = .ref p ∧ H p = some (.tup ys) ∧ (ys.length = 2 → ∀ y ∈ ys, Scal y)
end
def icutB (l : List Nat) : Nat → List (Option (List V)) → Bool
  | a, [] => decide (a = l.length)
  | _, none :: _ => false
  | a, some ys :: r => rdL l ys && (match ys with
    | [.int i, .int j] => decide (i = (a : Int)) && (!decide (j = (a : Int)) && icutB l j.toNat r)
    | _ => false)
def spIC (K : PySem.W.Frag) : Sp := fun vs H Q _ => ∃ (x : V) (l : List Nat), vs = [x, .str (tx l)] ∧ rowL l = true ∧ ((NoLst K H x ∧ ∀ H', Same H H' → Q (.bl false) H') ∨
  ∃ (p : Addr) (xs : List V) (ds : List (Option (List V))), x = .ref p ∧ H p = some (.lst xs) ∧ xs.length = ds.length ∧ (∀ (j : Nat) (x : V) (d : Option (List V)), xs[j]? = some x → ds[j]? = some d → ElV K H x d) ∧ ∀ H', Same H H' → Q (.bl (icutB l 0 ds)) H')
def pairO (c : Nat × Nat) : Option (List V) := some [.int (c.1 : Int), .int (c.2 : Int)]
/-! how many of a number of stretches -/
def cofL (l : List Nat) (c : Nat) : List Nat := (List.range (l.length + 1)).map (cofN l c)
def spCof : Sp := fun vs H Q _ => ∃ (l : List Nat) (c : Nat), vs = [.str (tx l), .int (c : Int)] ∧ rowL l = true ∧ ∀ H', Same H H' → Q (.int (cofN l c l.length : Nat)) H'
/-- how many cuts of 0, 1, .. stretches -/
def cofC (l : List Nat) (j : Nat) : List Nat := (List.range j).map fun c => cofN l c l.length
/-! of the laws -/
def spDrawn : Sp := fun vs H Q _ => ∃ (b : Addr) (n : Int) (l : List Nat), vs = [.ref b, .str (tx l)] ∧ H b = some (.lst [.int n]) ∧ l.length ≤ 1000 ∧
  ∀ (p : Addr) (xs : List V) (cs : List (Nat × Nat)) (n' : Int) (H' : Hp), H p = none → H' p = some (.lst xs) → PairV H' xs cs → CutFrom l 0 cs → H' b = some (.lst [.int n']) → But b H H' → Q (.ref p) H'
def spLesser : Sp := fun vs H Q _ => ∃ (b : Addr) (n : Int) (l : List Nat), vs = [.ref b, .str (tx l)] ∧ H b = some (.lst [.int n]) ∧ l.length ≤ 1000 ∧
  ∀ (p : Addr) (ns : List Int) (n' : Int) (H' : Hp), H p = none → H' p = some (.lst (ns.map V.int)) → areB l ns = true → H' b = some (.lst [.int n']) → But b H H' → Q (.ref p) H'
def LessTo (l : List Nat) (ns : List Int) : Prop := ns.getD 0 0 = 0 ∧ ∀ b, b < ns.length → ∀ f ∈ begN l b, ns.getD b 0 ≤ ns.getD f 0 + 1
end Mr

namespace Mr
open PySem L2
/-- a comprehension over enumerate(xs) -/
theorem comp_enum {K : PySem.W.Frag} {a : Addr} {xs : List V} {σ : St} {ix : List Nat} {tt : TT} {te : TE} {H : Hp} {Z : List V → Hp → Prop} (hl : xs.length ≤ sizeLine) (Pv : Nat → List V → Hp → Prop) (h0 : Pv 0 [] H) (hk : ∀ i ys H, Pv i ys H → H a = some (.lst xs))
    (hs : ∀ i x ys H (N : List V → Hp → Prop) T, xs[i]? = some x → ys.length ≤ i → Pv i ys H → H T = none → (∀ ys' H', ys'.length ≤ i + 1 → Pv (i + 1) ys' H' → N ys' H') →
      tt (cstV [.int (i : Int), x] ix σ) (upd H T (.tup [.int (i : Int), x])) fun b H4 => if b = true then te (cstV [.int (i : Int), x] ix σ) H4 fun v H5 => N (ys ++ [v]) H5 else N ys H4)
    (hd : ∀ ys H, ys.length ≤ xs.length → Pv xs.length ys H → Z ys H) :
    ∃ W : Nat → Nat → List V → Hp → Prop, (∃ m, W 0 m [] H) ∧ ∀ i m ys H2, W i m ys H2 →
      ((Ite a).stop i H2 ∧ ys.length ≤ sizeLine ∧ Z ys H2) ∨
      ((Ite a).go i H2 ∧ ys.length ≤ sizeLine ∧ ∀ x H3, (Ite a).yld i H2 x H3 → ∃ (a : Addr) (vs : List V), x = .ref a ∧ SqT K H3 a vs ∧ vs.length = 2 ∧ tt (cstV vs ix σ) H3 fun b H4 =>
        if b = true then te (cstV vs ix σ) H4 fun v H5 => ∃ m', m' < m ∧ W (i + 1) m' (ys ++ [v]) H5 else ∃ m', m' < m ∧ W (i + 1) m' ys H4) := by
  refine ⟨fun i m ys H => m = xs.length - i ∧ i ≤ xs.length ∧ ys.length ≤ i ∧ Pv i ys H, ⟨xs.length, by simp, Nat.zero_le _, Nat.le_refl _, h0⟩, ?_⟩
  rintro i m ys H ⟨rfl, hi, hy, p⟩
  have q := hk i ys H p
  by_cases hlt : i < xs.length
  · refine .inr ⟨⟨xs, xs[i], q, by simp [hlt]⟩, by omega, fun z H' y => ?_⟩
    obtain ⟨T, v, rfl, hn, rfl, hv⟩ := y
    refine ⟨T, [.int (i : Int), v], rfl, SqT.of upd_same, rfl, ?_⟩
    exact hs i v ys _ (fun ys' H5 => ∃ m', m' < xs.length - i ∧ m' = xs.length - (i + 1) ∧ i + 1 ≤ xs.length ∧ ys'.length ≤ i + 1 ∧ Pv (i + 1) ys' H5) T (hv xs q) hy p hn fun ys' H' h1 h2 => ⟨xs.length - (i + 1), by omega, rfl, hlt, h1, h2⟩
  · have e : i = xs.length := by omega
    subst e
    exact .inl ⟨⟨xs, q, rfl⟩, by omega, hd ys H hy p⟩
/-! even cuts -/
def evF (L : List Nat) : List Nat := L.filter fun k => decide (k % 2 = 0)
def evAt (l : List Nat) : List (List Nat) := (endsAt l).map evF
def evFew (l : List Nat) : List (Option Nat) := fewAt (lenOf (evAt l)) l.length
def evN (l : List Nat) (b : Nat) : Option Nat := few (lenOf (evAt l)) b
def spEv : Sp := fun vs H Q _ => ∃ (p : Addr) (L : List Nat), vs = [.ref p] ∧ H p = some (.lst (lensV L)) ∧ L.length ≤ 1000 ∧ ∀ (p' : Addr) (H' : Hp), H p' = none → H' p' = some (.lst (lensV (evF L))) → Same H H' → Q (.ref p') H'
def spEvFew : Sp := fun vs H Q _ => ∃ l : List Nat, vs = [.str (tx l)] ∧ rowL l = true ∧ ∀ (p : Addr) (H' : Hp), H p = none → H' p = some (.lst (fewV (evFew l))) → Same H H' → Q (.ref p) H'
def evPl (l : List Nat) (n : Nat) : List Nat := (List.range n).filter fun b => (evN l b).isSome
def evPlaces (l : List Nat) : List Nat := evPl l (l.length + 1)
def spFewEven : Sp := fun vs H Q _ => ∃ l : List Nat, vs = [.str (tx l)] ∧ rowL l = true ∧ ∀ H', Same H H' → Q (optV (evN l l.length)) H'
def spEvenRow : Sp := fun vs H Q _ => ∃ (b : Addr) (n : Int), vs = [.ref b] ∧ H b = some (.lst [.int n]) ∧ ∀ (m : List Nat) (n' : Int) (H' : Hp), Abcz m → m.length ≤ 16 → H' b = some (.lst [.int n']) → But b H H' → Q (.str (tx m)) H'
end Mr

namespace Mr
open PySem L2
/-! what a desk tells, all of it: a text that the row alone says -/
def spTellT (f : List Nat → List Nat) (m : Nat) : Sp := fun vs H Q _ => ∃ l : List Nat, vs = [.str (tx l)] ∧ rowL l = true ∧ l.length ≤ m ∧ ∀ H', Same H H' → Q (.str (tx (f l))) H'
def lastL (l : List Nat) : List Nat := l.drop (l.length - ((endsN l)[0]?).getD 0)
open Classical in
noncomputable def longL (l : List Nat) : List Nat := if h : ∃ p : Nat × Nat, BestP l p.1 p.2 then numL (Classical.choose h).1 ++ [45] ++ numL (Classical.choose h).2 else wNone
def wNever : List Nat := [110, 101, 118, 101, 114]
def evenL (l : List Nat) : List Nat := match evN l l.length with
  | none => wNever
  | some n => numL n
def fac : Nat → Nat
  | 0 => 1
  | n + 1 => (n + 1) * fac n
end Mr

namespace Mr
open PySem L2
/-! k87: all that a desk is asked -/
def wKinds : List Nat := [107, 105, 110, 100, 115]
def wFull : List Nat := [102, 117, 108, 108]
def wLast : List Nat := [108, 97, 115, 116]
def wLongest : List Nat := [108, 111, 110, 103, 101, 115, 116]
def wFewest : List Nat := [102, 101, 119, 101, 115, 116]
def wCuts : List Nat := [99, 117, 116, 115]
def wEven : List Nat := [101, 118, 101, 110]
def wMore : List Nat := [109, 111, 114, 101]
def wBehind : List Nat := [98, 101, 104, 105, 110, 100]
def wAhead : List Nat := [97, 104, 101, 97, 100]
def fRow : List Nat → List Nat := tonL
def fKinds (l : List Nat) : List Nat := numL (kindsN l)
def fFull (l : List Nat) : List Nat := if kindsN l = l.length then wYes else wNo
def fLast (l : List Nat) : List Nat := tonL (lastL l)
def fTree (l : List Nat) : List Nat := tonL (joinL [32] (mirs l l.length))
def fFewest (l : List Nat) : List Nat := numL (fewI l l.length)
def fCuts (l : List Nat) : List Nat := numL (ways l l.length)
def fMore (l : List Nat) : List Nat := numL (mendL l l.length 0)
def fBehind (l : List Nat) : List Nat := tonL (behN l)
def fAhead (l : List Nat) : List Nat := tonL (behN l.reverse)
section
variable {P : Program} {w : World} {K : PySem.W.Frag} {mg : Str → Option Value} {base : Heap} {k : Nat} {kvs : List (Key × V)}
def Ask1 (P : Program) (w : World) (K : PySem.W.Frag) (mg : Str → Option Value) (base : Heap) (k : Nat) (kvs : List (Key × V)) (a : List Nat) (g : List Nat → List Nat) : Prop := ∃ f0 : Addr, valV kvs (Sum.inr (tx a)) = some (.ref f0) ∧ KnF P w K mg base k f0 (spTellT g 12)
def words87 : List (List Nat) := [wRow, wKinds, wFull, wLast, wLongest, wTree, wFewest, wCuts, wEven, wMore, wBehind, wAhead]
noncomputable def tells87 (l : List Nat) : List (List Nat) := [fRow l, fKinds l, fFull l, fLast l, longL l, fTree l, fFewest l, fCuts l, evenL l, fMore l, fBehind l, fAhead l]
def Asks87 (P : Program) (w : World) (K : PySem.W.Frag) (mg : Str → Option Value) (base : Heap) (k : Nat) (kvs : List (Key × V)) : Prop := ∀ (i : Nat) (a : List Nat), words87[i]? = some a → ∃ g : List Nat → List Nat, Ask1 P w K mg base k kvs a g ∧ ∀ l, (tells87 l)[i]? = some (g l)
end
def spAnsw (C : Addr) : Sp := fun vs H Q _ => ∃ (dk dx : Addr) (l : List Nat), vs = [.ref dk] ∧ H dk = some (dkO C dx l) ∧ rowL l = true ∧ l.length ≤ 12 ∧ ∀ (p : Addr) (H' : Hp), H p = none → H' p = some (.lst (wordsV (tells87 l))) → Same H H' → Q (.ref p) H'
/-! a row is a mirror, said in five ways -/
/-! the words of a joined text -/
end Mr
namespace Mr
open PySem L2
def spRight87 : Sp := fun vs H Q _ => ∃ (l : List Nat) (p : Addr), vs = [.str (tx l), .ref p] ∧ rowL l = true ∧ 1 ≤ l.length ∧ l.length ≤ 12 ∧ H p = some (.lst (wordsV (tells87 l))) ∧ ∀ H', Same H H' → Q (.bl true) H'
end Mr
namespace Mr
open PySem L2
/-- what was told of each beginning -/
noncomputable def tellO (m : List Nat) : HO := .lst (wordsV (tells87 m))
noncomputable abbrev SeenV := ReV tellO
end Mr
namespace L2
open PySem
theorem eqVs_same {xs : List V} (h : xs.all flatV = true) : eqVs xs xs = true := by
  unfold eqVs
  rw [decide_eq_true rfl, Bool.true_and, List.all_eq_true]
  intro j hj
  have hj := List.mem_range.mp hj
  refine eqV_refl ?_
  rw [List.getD_eq_getElem?_getD, List.getElem?_eq_getElem hj]
  exact List.all_eq_true.mp h _ (List.getElem_mem hj)
end L2
namespace Mr
open PySem L2
end Mr

namespace L2
open PySem PySem.Spec PyProof.Rows PySem.SeqAt PySem.MeetsSeq
/-! ### a function called by a local name, which may raise -/
section
variable {X : Cx} {k : Nat} {y : Str} {p pos : Pos} {e : Expr} {es : List Expr} {te : TE} {t : TA} {Ex : XS}
def KnFX (P : Program) (w : World) (K : PySem.W.Frag) (mg : Str → Option Value) (base : Heap) (k : Nat) (f : Addr) (sp : Sp) : Prop := ∃ (fd : FuncData) (ps : List Str), FnOk P w K mg base (CX1 P w) k f fd ps sp ∧ PySem.W.keepIn K (.ref f) = true ∧ Binds K fd ps []
def tCallW (P : Program) (w : World) (K : PySem.W.Frag) (mg : Str → Option Value) (base : Heap) (k : Nat) (Ex : XS) (te : TE) (t : TA) : TE := fun σ H Q => te σ H fun v H1 => ∃ (f : Addr) (sp : Sp), v = .ref f ∧ ((KnF P w K mg base k f sp ∧ tCall sp [] E0 t σ H1 Q) ∨ (KnFX P w K mg base k f sp ∧ tCallX sp Ex t σ H1 Q))
end
end L2

namespace Mr
open PySem L2
/-! a desk and all of its lines: those that change the row, those that ask, and what is no line -/
def NumOk (n : Nat) : Prop := n < 400 ∨ n = 9999
def NoCh (ws : List (List Nat)) : Prop := ws ≠ [wClear] ∧ ws ≠ [wTake] ∧ (∀ w, ws = [wTake, w] → isNumB w = false) ∧ (∀ w, ws = [wAdd, w] → rowL w = false ∨ w = [])
def ShortW (ws : List (List Nat)) : Prop := ws.length ≤ 10000 ∧ ∀ w ∈ ws, w.length ≤ 1000
def RB2 (B T : Addr) (l : List Nat) (ws : List (List Nat)) (H : Hp) (Q : VK) (E : XK) : Prop :=
  (ws = [wClear] ∧ ∀ H', Same H H' → Q (.str (tx [])) H') ∨
  (∃ n : Nat, ((n = 1 ∧ ws = [wTake]) ∨ (NumOk n ∧ ws = [wTake, numL n])) ∧ ((n ≤ l.length ∧ ∀ H', Same H H' → Q (.str (tx (l.take (l.length - n)))) H') ∨ (l.length < n ∧ ∀ H', Same H H' → E (.ref B) none H'))) ∨
  (∃ w : List Nat, ws = [wAdd, w] ∧ rowL w = true ∧ w ≠ [] ∧ ((l.length + w.length ≤ 200 ∧ ∀ H', Same H H' → Q (.str (tx (l ++ w))) H') ∨ (200 < l.length + w.length ∧ ∀ H', Same H H' → E (.ref T) none H'))) ∨
  (NoCh ws ∧ ShortW ws ∧ ∀ H', Same H H' → Q .non H')
def spRB2 (B T : Addr) : Sp := fun vs H Q E => ∃ (l : List Nat) (p : Addr) (ws : List (List Nat)), vs = [.str (tx l), .ref p] ∧ rowL l = true ∧ H p = some (.lst (wordsV ws)) ∧ RB2 B T l ws H Q E
def NoAns (kvs : List (Key × V)) (ws : List (List Nat)) : Prop := (∀ a, ws = [a] → valV kvs (Sum.inr (tx a)) = none) ∧ ∀ w, ws = [wCuts, w] → isNumB w = false
def Ans2 (P : Program) (w : World) (K : PySem.W.Frag) (mg : Str → Option Value) (base : Heap) (k : Nat) (kvs : List (Key × V)) (N : Addr) (l : List Nat) (ws : List (List Nat)) (H : Hp) (Q : VK) (E : XK) : Prop :=
  (∃ (a : List Nat) (f : Addr) (sp : Sp), ws = [a] ∧ valV kvs (Sum.inr (tx a)) = some (.ref f) ∧ ((KnF P w K mg base k f sp ∧ sp [.str (tx l)] H Q E0) ∨ (KnFX P w K mg base k f sp ∧ ∃ c : Addr, (∀ E' : XK, (∀ H', Same H H' → E' (.ref c) none H') → sp [.str (tx l)] H Q E') ∧ ∀ H', Same H H' → E (.ref c) none H'))) ∨
  (∃ n : Nat, ws = [wCuts, numL n] ∧ NumOk n ∧ cofN l n l.length < 10 ^ 10 ∧ ∀ H', Same H H' → Q (.str (tx (numL (cofN l n l.length)))) H') ∨
  (NoAns kvs ws ∧ ∀ H', Same H H' → E (.ref N) none H')
def spAns2 (P : Program) (w : World) (K : PySem.W.Frag) (mg : Str → Option Value) (base : Heap) (k : Nat) (kvs : List (Key × V)) (N : Addr) : Sp := fun vs H Q E => ∃ (l : List Nat) (p : Addr) (ws : List (List Nat)), vs = [.str (tx l), .ref p] ∧ rowL l = true ∧ H p = some (.lst (wordsV ws)) ∧ ShortW ws ∧ Ans2 P w K mg base k kvs N l ws H Q E
/-- what is behind a line -/
def SayQ2 (P : Program) (w : World) (K : PySem.W.Frag) (mg : Str → Option Value) (base : Heap) (k : Nat) (kvs : List (Key × V)) (N C dk dx : Addr) (l : List Nat) (ws : List (List Nat)) (H : Hp) (Q : VK) (E : XK) : VK := fun v H1 =>
  (∃ l' : List Nat, v = .str (tx l') ∧ l'.length ≤ 1000 ∧ ∀ H', H' dk = some (dkO C dx l') → But dk H H' → Q (.str (tx (numL l'.length))) H') ∨
  (v = .non ∧ ShortW ws ∧ Ans2 P w K mg base k kvs N l ws H1 Q E)
def spSay2 (P : Program) (w : World) (K : PySem.W.Frag) (mg : Str → Option Value) (base : Heap) (k : Nat) (kvs : List (Key × V)) (C B T N : Addr) : Sp := fun vs H Q E => ∃ (dk dx : Addr) (l : List Nat) (x : V), vs = [.ref dk, x] ∧ H dk = some (dkO C dx l) ∧ rowL l = true ∧
  ((∃ line : List Nat, x = .str (tx line) ∧ line.length ≤ 1000 ∧ RB2 B T l (splitL 32 line) H (SayQ2 P w K mg base k kvs N C dk dx l (splitL 32 line) H Q E) E) ∨
  (∃ t, TyOf K H x t ∧ PySem.W.kitOne K t (.type "str") = some false ∧ E (.ref N) none H))
/-- what _law_said tells: the answer, or the place of the class: Bare 6, TooMany 3, NoLine 5, TooLong 2 -/
def SdE (B T N L : Addr) (H : Hp) (Q : VK) : XK := fun c _ _ => ∃ i : Nat, ((c = .ref B ∧ i = 6) ∨ (c = .ref T ∧ i = 3) ∨ (c = .ref N ∧ i = 5) ∨ (c = .ref L ∧ i = 2)) ∧ ∀ p H'', H p = none → H'' p = some (.lst [.int (i : Int)]) → Same H H'' → Q (.ref p) H''
def spSaid2 (P : Program) (w : World) (K : PySem.W.Frag) (mg : Str → Option Value) (base : Heap) (k : Nat) (kvs : List (Key × V)) (C B T N L : Addr) : Sp := fun vs H Q _ => ∃ (dk dx : Addr) (l : List Nat) (x : V), vs = [.ref dk, x] ∧ H dk = some (dkO C dx l) ∧ rowL l = true ∧
  ((∃ line : List Nat, x = .str (tx line) ∧ line.length ≤ 1000 ∧ RB2 B T l (splitL 32 line) H (SayQ2 P w K mg base k kvs N C dk dx l (splitL 32 line) H Q (SdE B T N L H Q)) (SdE B T N L H Q)) ∨
  (∃ t, TyOf K H x t ∧ PySem.W.kitOne K t (.type "str") = some false ∧ SdE B T N L H Q (.ref N) none H))
end Mr

namespace Mr
open PySem L2
/-! k83: what a desk tells of cuts -/
section
variable {P : Program} {w : World} {K : PySem.W.Frag} {mg : Str → Option Value} {base : Heap} {k : Nat} {kvs : List (Key × V)} {C B T N L dk dx : Addr} {l : List Nat} {H : Hp} {Q : VK} {E : XK}
def spSayN (P : Program) (w : World) (K : PySem.W.Frag) (mg : Str → Option Value) (base : Heap) (k : Nat) (kvs : List (Key × V)) (C B T N : Addr) : Sp := fun vs H Q _ => spSay2 P w K mg base k kvs C B T N vs H Q E0
end
end Mr
namespace Mr
open PySem L2
/-- what is due of each of the five lines -/
def Due83 (m : List Nat) (d : Nat) (kvs : List (Key × V)) : Prop := valV kvs (Sum.inr (tx wFewest)) = some (.str (tx (fFewest m))) ∧ valV kvs (Sum.inr (tx wCuts)) = some (.str (tx (fCuts m))) ∧ valV kvs (Sum.inr (tx wMore)) = some (.str (tx (fMore m))) ∧ valV kvs (Sum.inr (tx wEven)) = some (.str (tx (evenL m))) ∧ valV kvs (Sum.inr (tx (wCuts ++ 32 :: numL d))) = some (.str (tx (numL (cofN m d m.length))))
def due83 (m : List Nat) (d : Nat) : List (Key × V) := putK (putK (putK (putK (putK [] (Sum.inr (tx wFewest)) (.str (tx (fFewest m)))) (Sum.inr (tx wCuts)) (.str (tx (fCuts m)))) (Sum.inr (tx wMore)) (.str (tx (fMore m)))) (Sum.inr (tx wEven)) (.str (tx (evenL m)))) (Sum.inr (tx (wCuts ++ 32 :: numL d))) (.str (tx (numL (cofN m d m.length))))
def words83 (d : Nat) : List (List Nat) := [wFewest, wCuts, wMore, wEven, wCuts ++ 32 :: numL d]
end Mr

namespace Mr
open PySem L2
/-! k57: the longest mirror that lies in a row, the pairs, the mended row -/
def seg (l : List Nat) (f n : Nat) : List Nat := (l.drop f).take n
/-- one that is as long -/
def palN (l : List Nat) : Nat → Nat → List Nat
  | 0, _ => []
  | 1, f => [l.getD f 0]
  | n + 2, f => if l[f]? = l[f + n + 1]? then l.getD f 0 :: (palN l n (f + 1) ++ [l.getD f 0]) else if mendL l (n + 1) (f + 1) ≤ mendL l (n + 1) f then palN l (n + 1) (f + 1) else palN l (n + 1) f
/-- the length of the longest mirror that lies in a row -/
def lpsN (l : List Nat) : Nat := l.length - mendL l l.length 0
end Mr

namespace Mr
open PySem L2
/-! the pairs of a mended row -/
def prs (l : List Nat) : Nat → Nat → List (Option Nat × Option Nat)
  | 0, _ => []
  | 1, f => [(some f, some f)]
  | n + 2, f => if l[f]? = l[f + n + 1]? then (some f, some (f + n + 1)) :: prs l n (f + 1) else if mendL l (n + 1) (f + 1) < mendL l (n + 1) f then (some f, none) :: prs l (n + 1) (f + 1) else (none, some (f + n + 1)) :: prs l (n + 1) f
def ownN (l : List Nat) : Nat → Nat → List (Option Nat)
  | 0, _ => []
  | 1, f => [some f]
  | n + 2, f => if l[f]? = l[f + n + 1]? then some f :: (ownN l n (f + 1) ++ [some (f + n + 1)]) else if mendL l (n + 1) (f + 1) < mendL l (n + 1) f then some f :: (ownN l (n + 1) (f + 1) ++ [none]) else none :: (ownN l (n + 1) f ++ [some (f + n + 1)])
def ownOf (ps : List (Option Nat × Option Nat)) : List (Option Nat) := ps.map (·.1) ++ ((ps.filter fun p => !decide (p.1 = p.2)).map (·.2)).reverse
/-- opposite places: one is the row's own, and where both are, their signs are alike -/
def Opp (l : List Nat) (p : Option Nat × Option Nat) : Prop := (∃ i, p.1 = some i ∧ i < l.length ∧ (p.2 = none ∨ ∃ j, p.2 = some j ∧ j < l.length ∧ l.getD i 0 = l.getD j 0)) ∨ (p.1 = none ∧ ∃ j, p.2 = some j ∧ j < l.length)
def sgn (l : List Nat) (p : Option Nat × Option Nat) : Nat := l.getD (p.1.getD (p.2.getD 0)) 0
/-- the mended row -/
def mendT (l : List Nat) : List Nat := (List.zip (ownN l l.length 0) (ownN l l.length 0).reverse).map (sgn l)
/-- where the row's own signs stand -/
def numsN (o : List (Option Nat)) : List Nat := (List.range o.length).filter fun k => (o[k]?.join).isSome
/-- the rest: the pairs of which both are the row's own -/
def bothP (p : Option Nat × Option Nat) : Bool := p.1.isSome && p.2.isSome
end Mr

namespace Mr
open PySem L2
/-! k57: pairs, the mended row, the rest -/
def prO (p : Option Nat × Option Nat) : HO := .tup [optV p.1, optV p.2]
abbrev PrV := ReV prO
def spPairs : Sp := fun vs H Q _ => ∃ l : List Nat, vs = [.str (tx l)] ∧ rowL l = true ∧ l.length ≤ 60 ∧ ∀ (p : Addr) (xs : List V) (H' : Hp), H p = none → H' p = some (.lst xs) → PrV H' xs (prs l l.length 0) → Same H H' → Q (.ref p) H'
def numsV (ks : List Nat) : List V := ks.map fun (k : Nat) => V.int (k : Int)
/-- mended: the text, the places -/
def spMended : Sp := fun vs H Q _ => ∃ l : List Nat, vs = [.str (tx l)] ∧ rowL l = true ∧ l.length ≤ 60 ∧ ∀ (p pl : Addr) (H' : Hp), H p = none → H pl = none → H' p = some (.tup [.str (tx (mendT l)), .ref pl]) → H' pl = some (.lst (numsV (numsN (ownN l l.length 0)))) → Same H H' → Q (.ref p) H'
/-- rest: a text of this length -/
def spRest : Sp := fun vs H Q _ => ∃ l : List Nat, vs = [.str (tx l)] ∧ rowL l = true ∧ l.length ≤ 60 ∧ ∀ (t : List Nat) (p pl : Addr) (H' : Hp), t.length = lpsN l → H p = none → H' p = some (.tup [.str (tx t), .ref pl]) → Same H H' → Q (.ref p) H'
end Mr
namespace Mr
open PySem L2
def optsV (o : List (Option Nat)) : List V := o.map optV
abbrev neqP : Option Nat × Option Nat → Bool := fun p => !decide (p.1 = p.2)
end Mr
namespace Mr
open PySem L2
def one1 (c : Nat) : List Nat := [c]
theorem ones_flat (w : List Nat) : (w.map one1).flatten = w := by
  induction w with
  | nil => rfl
  | cons c w ih => rw [List.map_cons, List.flatten_cons, ih]; rfl
theorem ones_sum (w : List Nat) : ((w.map one1).map (·.length)).sum = w.length := by
  induction w with
  | nil => rfl
  | cons c w ih =>
    rw [List.map_cons, List.map_cons, List.sum_cons, ih, List.length_cons]
    show 1 + _ = _
    omega
theorem ones_V (w : List Nat) : (w.map one1).map (fun z => V.str (tx z)) = w.map fun c => V.str (tx [c]) := by rw [List.map_map]; rfl
end Mr
namespace Mr
open PySem L2
end Mr

namespace L2
open PySem PySem.Spec PyProof.Rows
/-! ### zip(xs, text): a list and a text of small signs, as many signs as things -/
section
variable {prog : Program} {w : World} {A : Around} {E : Value → Shared → Prop} {s : Shared} {z TI TO i1 i2 l : Addr} {k : Nat} {xs : Array Value} {x : Str} {t : Tok}
abbrev SI (h : Heap) (i2 : Addr) (x : Str) (t : Tok) (k : Nat) : Prop := h.IsStrIter i2 "str_ascii_iterator" x t k
end
end L2
namespace L2
open PySem PySem.Spec PyProof.Rows
section
variable {prog : Program} {w : World} {A : Around} {E : Value → Shared → Prop} {s : Shared}
/-- where a walk over both stands -/
def ZsAt (z TI TO i1 i2 l : Addr) (xs : Array Value) (x : Str) (t : Tok) (f0 : Value) (k : Nat) (h : Heap) : Prop :=
  IsZip h z TI TO f0 ∧ IsPair h TI (.ref i1) (.ref i2) ∧ (∃ a b, IsPair h TO a b) ∧ h.IsListIter i1 l k ∧ SI h i2 x t k ∧ h.IsList l xs
end
end L2
namespace L2
open PySem PySem.Spec PyProof.Rows
abbrev zs1 (h : Heap) (l : Addr) : Heap := h.push { cls := .type "list_iterator", data := .fields #[.ref l, .int 0 0] }
abbrev zs2 (h : Heap) (l : Addr) (x : Str) (t : Tok) : Heap := (zs1 h l).push { cls := .type "str_ascii_iterator", data := .fields #[.str x t, .int 0 0] }
abbrev zs3 (h : Heap) (l : Addr) (x : Str) (t : Tok) : Heap := (zs2 h l x t).push { cls := .type "tuple", data := .seq #[.ref h.objs.size, .ref (zs1 h l).objs.size] }
abbrev zs4 (h : Heap) (l : Addr) (x : Str) (t : Tok) : Heap := (zs3 h l x t).push { cls := .type "tuple", data := .seq #[.none, .none] }
abbrev zs5 (h : Heap) (l : Addr) (x : Str) (t : Tok) : Heap := (zs4 h l x t).push { cls := .type "zip", data := .fields #[.none, .bool false, .bool false, .ref (zs2 h l x t).objs.size, .ref (zs3 h l x t).objs.size] }
end L2

namespace L2
open PySem PySem.Spec PyProof.Rows
/-! ### zip(xs, text): the call, the turns, the comprehension -/
section
variable {prog : Program} {w : World} {A : Around} {E : Value → Shared → Prop} {s : Shared}
end
/-- a list and a text at once -/
def Itzs (a : Addr) (l : List Nat) : It :=
  ⟨fun i H => ∃ xs x c, H a = some (.lst xs) ∧ xs.length = l.length ∧ xs[i]? = some x ∧ l[i]? = some c,
   fun i H z H' => ∃ (T : Addr) (x : V) (c : Nat), z = .ref T ∧ H T = none ∧ H' = upd H T (.tup [x, .str (tx [c])]) ∧ l[i]? = some c ∧ ∀ xs, H a = some (.lst xs) → xs[i]? = some x,
   fun i H => ∃ xs, H a = some (.lst xs) ∧ xs.length = l.length ∧ xs.length = i⟩
def iZipS (ta : TA) : TI := fun σ H R => ta σ H fun vs H1 => ∃ (a : Addr) (xs : List V) (l : List Nat), vs = [.ref a, .str (tx l)] ∧ H1 a = some (.lst xs) ∧ (∀ c ∈ l, c < 128) ∧ R (Itzs a l) H1
section
variable {X : Cx} {elts : List Expr} {k : Nat} {tp : Pos}
end
end L2

namespace Mr
open PySem L2
/-! ### k57: lies_in, where it says yes -/
def spRise : Sp := fun vs H Q _ => ∃ (p : Addr) (ns : List Nat) (n : Nat), vs = [.ref p, .int (n : Int)] ∧ H p = some (.lst (numsV ns)) ∧ ns.length ≤ 1000 ∧ ns.Pairwise (· < ·) ∧ (∀ k ∈ ns, k < n) ∧ ∀ H', Same H H' → Q (.bl true) H'
def spLies : Sp := fun vs H Q _ => ∃ (l m ns : List Nat) (p : Addr), vs = [.str (tx l), .str (tx m), .ref p] ∧ rowL l = true ∧ l.length ≤ 60 ∧ rowL m = true ∧ m.length ≤ 120 ∧ H p = some (.lst (numsV ns)) ∧ ns.Pairwise (· < ·) ∧ ns.length = l.length ∧ (∀ j k : Nat, ns[j]? = some k → k < m.length ∧ m[k]? = l[j]?) ∧ ∀ H', Same H H' → Q (.bl true) H'
end Mr

namespace L2
open PySem PySem.Spec PyProof.Rows
/-! ### set(text): how many unlike signs -/
/-- the first ones met -/
def met (val : Nat → Str) (i : Nat) : List Str := ((List.range i).map val).foldl step_dedup []
abbrev SetS (prog : Program) (w : World) (h : Heap) (a : Addr) (ks : List Str) : Prop := h.SetOf (PySem.strKind prog w) a (fun k => ks.any (· == k)) ks.length
section
variable {prog : Program} {w : World} {A : Around} {R : Result → Shared → Prop} {I : Addr} {fp wr : List Addr} {G : Array GenState → Array GenState → Prop} {n : Nat} {P : Nat → Value → Prop} {St : Nat → Shared → Prop}
end
end L2
namespace L2
open PySem PySem.Spec PyProof.Rows
section
variable {prog : Program} {w : World} {A : Around} {E : Value → Shared → Prop} {s : Shared}
end
end L2
namespace L2
open PySem PySem.Spec PyProof.Rows
/-- how many unlike signs a text has -/
def distN (l : List Nat) : Nat := (met (fun i => tx [l.getD i 0]) l.length).length
def setO (P : Program) (w : World) (a : Addr) (n : Nat) : HO := .ext fun h => ∃ ks, SetS P w h a ks ∧ ks.length = n
section
variable {X : Cx}
end
end L2

namespace Mr
open PySem L2
/-! ### k57: all rows that lie in a row; how many unlike signs there are -/
def partsN (l : List Nat) : List (List Nat) := l.foldl (fun ps c => ps ++ ps.map (· ++ [c])) [[]]
def spLParts : Sp := fun vs H Q _ => ∃ l : List Nat, vs = [.str (tx l)] ∧ l.length ≤ 7 ∧ ∀ (p : Addr) (H' : Hp), H p = none → H' p = some (.lst (txV (partsN l))) → Same H H' → Q (.ref p) H'
abbrev pal57 (t : List Nat) : Bool := decide (t = t.reverse)
def palsV (ts : List (List Nat)) : List Int := (ts.filter pal57).map fun t => ((t.length : Nat) : Int)
end Mr
namespace Mr
open PySem L2
end Mr
namespace Mr
open PySem L2
theorem ite_no {b : Bool} {P Q : Prop} (h : b = false) (q : Q) : if b = true then P else Q := by subst h; exact q
end Mr
namespace Mr
open PySem L2
theorem ite_ya {b : Bool} {P Q : Prop} (h : b = true) (q : P) : if b = true then P else Q := by subst h; exact q
end Mr

namespace Mr
open PySem L2
/-! ### the longest row that lies in a row and in it backwards is as long as the longest mirror that lies in it -/
def lcsN : List Nat → List Nat → Nat
  | [], _ => 0
  | _ :: _, [] => 0
  | x :: a, y :: b => if x = y then lcsN a b + 1 else max (lcsN a (y :: b)) (lcsN (x :: a) b)
termination_by a b => a.length + b.length
/-- a line of the table: what the first i signs of l and the first j of o have in common -/
def lcsAt (l o : List Nat) (i j : Nat) : Nat := lcsN (l.take i).reverse (o.take j).reverse
end Mr

namespace L2
open PySem PySem.Spec PyProof.Rows
/-! ### the table of a set: its places rise -/
abbrev Ris (xs : Array Nat) : Prop := xs.toList.Pairwise (· < ·)
/-- what a set keeps of its table -/
def TabOk (led : Bool) (t : SetTable) : Prop := t.led = led ∧ (t.plain = true → Ris t.place)
end L2

namespace L2
open PySem PySem.Spec PyProof.Rows
/-! ### set(xs) of numbers: what lies in it, and its table -/
section
variable (prog : Program) (w : World)
def LayI (L : List (Int × Value)) (ks : List Int) : Prop := L.length = ks.length ∧ ∀ (i : Nat) (e : Int × Value) (k : Int), L[i]? = some e → ks[i]? = some k → ∃ t, e = ((intKind prog w).hash k, .int k t)
def SetQ (h : Heap) (a : Addr) (ks : List Int) : Prop := ∃ (o : Obj) (es : Array (Int × Value)) (ep : Nat) (t : SetTable) (L : List (Int × Value)), h.get? a = some o ∧ o.ExactSet ∧ o.data = .set es ep t ∧ L.Perm es.toList ∧ LayI prog w L ks ∧ es.size < scanBound ∧ t.fits es.size = true ∧ TabOk (!w.params.followText "set-order") t
end
section
variable {prog : Program} {w : World} {A : Around} {E : Value → Shared → Prop} {s : Shared} {a : Addr}
end
end L2

namespace L2
open PySem PySem.Spec PyProof.Rows
abbrev noneYet (w : World) : Obj := { cls := .type "set", dict := none, data := .set #[] 0 (.fresh 0 0 (!w.params.followText "set-order")) }
section
variable {prog : Program} {w : World} {A : Around} {E : Value → Shared → Prop} {s : Shared}
end
end L2

namespace L2
open PySem PySem.Spec PyProof.Rows
/-! ### walking a set of numbers -/
namespace Fs
end Fs
abbrev sit (first : Value) (i : Nat) (a : Addr) (n ep : Nat) : Obj := { cls := .type "set_iterator", data := .fields #[first, .int i 0, .ref a, .int n 0, .int ep 0] }
section
variable {prog : Program} {w : World} {A : Around} {E : Value → Shared → Prop} {s : Shared} {I a : Addr} {o : Obj} {es : Array (Int × Value)} {ep i : Nat} {t : SetTable}
end
end L2

namespace L2
open PySem PySem.Spec PyProof.Rows
/-! ### a list has no keys -/
/-- it raises that there are none -/
def NoKeys (a : Addr) : PySem.Spec := fun A R s => (∃ xs n, s.heap.get? a = some { cls := .type "list", data := .seq xs n }) ∧ raisesAttr (.ref a) "keys" A R s
section
variable {prog : Program} {w : World} {A : Around} {E : Value → Shared → Prop} {s : Shared}
end
end L2
namespace L2
open PySem PySem.Spec PyProof.Rows
/-! ### dict([(text, value), ..]) -/
/-- pairs put in one by one -/
def putAll (kvs : List (Key × V)) : List (Str × V) → List (Key × V)
  | [] => kvs
  | (k, v) :: r => putAll (putK kvs (Sum.inr k) v) r
section
variable {X : Cx} {pins : List (Addr × Obj)} {σ : St} {A : Around}
end
end L2

namespace L2
open PySem PySem.Spec PyProof.Rows
section
variable {X : Cx}
/-! a dict walked: it is frozen meanwhile -/
def Itf (d : Addr) (o : Obj) (kvs : List (Key × V)) : It :=
  ⟨fun i H => H d = some (.frz o (.dK kvs)) ∧ i < kvs.length, fun i H x H' => H' = H ∧ ∃ kv, kvs[i]? = some kv ∧ x = kV kv.1, fun i H => H d = some (.frz o (.dK kvs)) ∧ kvs.length ≤ i⟩
def iDict (tl : TE) : TI := fun σ H R => tl σ H fun x H1 => ∃ (d : Addr) (kvs : List (Key × V)), x = .ref d ∧ H1 d = some (.dK kvs) ∧ ∀ o, R (Itf d o kvs) (upd H1 d (.frz o (.dK kvs)))
def tThaw (H₀ : Hp) (t : TE) : TE := fun σ H Q => t σ H fun v H' => ∃ (d : Addr) (o : Obj) (kvs : List (Key × V)), H' d = some (.frz o (.dK kvs)) ∧ H₀ d = none ∧ Q v (upd H' d (.dK kvs))
end
end L2

namespace L2
open PySem PySem.Spec PyProof.Rows
section
variable {X : Cx}
/-- range(n) as a value -/
theorem call_rangeV : CallR X (.type "range") (fun xs H Q => ∃ i : Int, xs = [.int i] ∧ ∀ r, H r = none → Q (.ref r) (upd H r (.rng 0 i))) := by
  intro pins s σ H xs us Q I r h
  obtain ⟨i, rfl, q⟩ := h
  obtain ⟨u, rfl, rx⟩ := vals1 r
  obtain ⟨t, rfl⟩ := rx
  refine call_range_1 ?_
  exact ⟨.ref s.heap.objs.size, _, I.laid (a := s.heap.objs.size) (o := .rng 0 i) (t' := s.toks + 1 + 1) (fun _ _ q => Heap.get?_push_of_some _ q) (Nat.le_refl _) ⟨_, _, _, Heap.get?_push_size _ rfl⟩, rfl, q _ (I.hok.fresh (Nat.le_refl _))⟩
theorem vals_items : ∀ (n : Nat) (us : List Value), us.length = n → (∀ (j : Nat) (v : Value), us[j]? = some v → ∃ t, v = Value.int ((0 : Int) + (j : Int) * 1) t) → Vals ((List.range n).map fun (k : Nat) => V.int (k : Int)) us
  | 0, us, h, _ => by rw [List.eq_nil_of_length_eq_zero h]; exact .nil
  | n + 1, us, h, hv => by
    have hn : n < us.length := by omega
    have e : us = us.take n ++ [us[n]] := by
      rw [List.take_append_getElem hn, List.take_of_length_le (by omega)]
    rw [e, List.range_succ, List.map_append]
    refine Vals.append (vals_items n _ (by rw [List.length_take]; omega) fun j v hj => ?_) (.cons ?_ .nil)
    · rw [List.getElem?_take] at hj
      by_cases c : j < n
      · rw [if_pos c] at hj; exact hv j v hj
      · rw [if_neg c] at hj; cases hj
    · obtain ⟨t, ht⟩ := hv n _ (List.getElem?_eq_getElem hn)
      refine ⟨t, ?_⟩
      rw [ht, Int.zero_add, Int.mul_one]
/-- list(range(n)) -/
theorem call_listR (hc : X.calm = true) : CallR X (.type "list") (fun xs H Q => ∃ (p : Addr) (i : Int), xs = [.ref p] ∧ H p = some (.rng 0 i) ∧ -(2 ^ 62) ≤ i ∧ i ≤ 100000 ∧ ∀ l, H l = none → Q (.ref l) (upd H l (.lst ((List.range i.toNat).map fun (k : Nat) => V.int (k : Int))))) := by
  intro pins s σ H xs us Q I r h
  obtain ⟨p, i, rfl, hp, h1, h2, q⟩ := h
  obtain ⟨u, rfl, rx⟩ := vals1 r
  cases rx
  obtain ⟨t, u', v, ho⟩ := (show ObjOk X.prog X.w H s.heap p (.rng 0 i) from I.hok p _ hp)
  refine call_list_range (n := i.toNat) (I.ok.hd hc) ho (small_one (by omega) (by omega) h1 (by omega)) (by rw [rangeSize_one]; split <;> omega) (by omega) fun h' tk acc' c' kp e items => ?_
  have rv : Vals ((List.range i.toNat).map fun (k : Nat) => V.int (k : Int)) acc'.toList := vals_items i.toNat acc'.toList (by rw [Array.length_toList]; exact items.1) fun j v hj => items.2 j v (by rw [← Array.getElem?_toList]; exact hj)
  exact ⟨.ref s.heap.objs.size, _, I.laid (t' := tk) kp (Nat.le_refl _) (show ObjOk X.prog X.w _ h' _ (.lst _) from ⟨by rw [List.length_map, List.length_range, sizeLine_eq]; omega, acc'.toList, c', rv, e⟩), rfl, q _ (I.hok.fresh (Nat.le_refl _))⟩
end
end L2

namespace L2
open PySem PySem.Spec PyProof.Rows PySem.W
section
variable {X : Cx}
section
variable {pg : Program} {wd : World} {B : Around} {Fx : Value → Shared → Prop} {t : Shared} {ty : String} {src dd : Addr} {n : Nat} {P : Nat → Value → Prop} {Okk : Heap → Prop}
end
end
end L2

namespace L2
open PySem PySem.Spec PyProof.Rows
/-! ### the three orders in which a set is walked -/
section
variable {prog : Program} {w : World} {A : Around} {E : Value → Shared → Prop} {s : Shared} {a : Addr} {o : Obj} {es : Array (Int × Value)} {ep : Nat} {t : SetTable}
def intOf (e : Int × Value) : Int := match e.2 with | .int k _ => k | _ => 0
end
end L2

namespace L2
open PySem PySem.Spec PyProof.Rows
namespace Fs
end Fs
section
variable {prog : Program} {w : World} {A : Around} {E : Value → Shared → Prop} {s : Shared} {I a : Addr} {o : Obj} {es : Array (Int × Value)} {ep : Nat} {t : SetTable}
def slotAt (t : SetTable) : Nat → Nat
  | 0 => 0
  | i + 1 => t.place.getD i 0 + 1
end
end L2

namespace L2
open PySem PySem.Spec PyProof.Rows
section
variable {prog : Program} {w : World} {A : Around} {E : Value → Shared → Prop} {s : Shared} {a : Addr}
end
end L2
namespace L2
open PySem PySem.Spec PyProof.Rows
section
variable {prog : Program} {w : World} {B : Around} {Fx : Value → Shared → Prop} {t : Shared} {src : Addr}
end
end L2

namespace L2
open PySem PySem.Spec PyProof.Rows
/-! ### sorted(set(xs)) of numbers -/
def setqO (P : Program) (w : World) (a : Addr) (ks : List Int) : HO := .ext fun h => SetQ P w h a ks
section
variable {X : Cx}
end
/-! what sorted(set(ns)) is -/
end L2

namespace Mr
open PySem L2
/-! the row a b z a b z .. -/
def let3 (i : Nat) : Nat := if i % 3 = 0 then 97 else if i % 3 = 1 then 98 else 122
def abz (n : Nat) : List Nat := (List.range n).map let3
def abz3 : List (List Nat) := [[97], [98], [122]]
end Mr

namespace L2
open PySem PySem.Spec PyProof.Rows PySem.SeqAt PySem.MeetsSeq
section
variable {X : Cx}
/-! two tuples that are the same, n deep below them -/
def rTupD (n : Nat) (r : Bool) : R2 := fun x y H Q => ∃ p q xs ys, x = .ref p ∧ y = .ref q ∧ H p = some (.tup xs) ∧ H q = some (.tup ys) ∧ xs.length = ys.length ∧ (∀ (j : Nat) (u v : V), xs[j]? = some u → ys[j]? = some v → DSame H n u v) ∧ Q (.bl r) H
end
end L2
namespace Mr
open PySem L2
def stateV (l : List Nat) (pe : Addr) : List V := [.str (tx l), .int ((mirs l l.length).length : Nat), .ref pe, .int ((mirs l l.length).length : Nat), .int (deepN l : Nat)]
end Mr

namespace Mr
open PySem L2
/-! ### k52, k53: what the laws ask by themselves -/
def spLMore : Sp := fun vs H Q _ => ∃ l : List Nat, vs = [.str (tx l)] ∧ l.length ≤ 60 ∧ ∀ H', Same H H' → Q (.int ((mendL l l.length 0 : Nat) : Int)) H'
def spLLies : Sp := fun vs H Q _ => ∃ (l m ns : List Nat) (p : Addr), vs = [.str (tx l), .str (tx m), .ref p] ∧ l.length ≤ 60 ∧ m.length ≤ 120 ∧ H p = some (.lst (numsV ns)) ∧ ns.Pairwise (· < ·) ∧ ns.length = l.length ∧ (∀ j k : Nat, ns[j]? = some k → k < m.length ∧ m[k]? = l[j]?) ∧ ∀ H', Same H H' → Q (.bl true) H'
/-- a line: for each place j to n -/
def lineN (l o : List Nat) (i n : Nat) : List Nat := (List.range n).map fun j => lcsAt l o i j
end Mr
namespace Mr
open PySem L2
end Mr

namespace Mr
open PySem L2
/-! ### what rest tells: its places rise, and its signs are a mirror -/
end Mr

namespace Mr
open PySem L2
/-! ### k53: rest, with its row and its places -/
def spRest2 : Sp := fun vs H Q _ => ∃ l : List Nat, vs = [.str (tx l)] ∧ rowL l = true ∧ l.length ≤ 60 ∧ ∀ (qs : List Nat) (p pl : Addr) (H' : Hp), qs.length = lpsN l → qs.Pairwise (· < ·) → (∀ k ∈ qs, k < l.length) → (qs.map fun k => l.getD k 0) = (qs.map fun k => l.getD k 0).reverse → qs = restN l → H p = none → H pl = none → H' p = some (.tup [.str (tx (qs.map fun k => l.getD k 0)), .ref pl]) → H' pl = some (.lst (numsV qs)) → Same H H' → Q (.ref p) H'
where
  restN (l : List Nat) : List Nat := (ownOf ((prs l l.length 0).filter bothP)).filterMap id
end Mr

namespace Mr
open PySem L2
/-! things beside a box: what is known of them doesn't hang on the box -/
def off (b : Addr) (H : Hp) : Hp := fun a => if a = b then none else H a
/-- may be shown -/
def Gd (H : Hp) (x : V) (n w : Nat) : Prop := ∃ d, RdW H x d ∧ Sh2 d n w
/-- what may stand in a list that is handed in -/
def El (K : PySem.W.Frag) (H : Hp) (y : V) : Prop := (Scal y ∨ NoInt K H y) ∧ Gd H y 2 700
def NoL (K : PySem.W.Frag) (H : Hp) (x : V) : Prop := ∃ t, TyOf K H x t ∧ PySem.W.kitOne K t (.type "list") = some false
/-- a list of such things, or none -/
def LstN (K : PySem.W.Frag) (H : Hp) (x : V) : Prop := (∃ p xs, x = .ref p ∧ H p = some (.lst xs) ∧ xs.length ≤ 400 ∧ ∀ y ∈ xs, El K H y) ∨ NoL K H x
def Th (K : PySem.W.Frag) (H : Hp) (x : V) : Prop := Gd H x 3 300000 ∧ LstN K H x
def spOdd16 (K : PySem.W.Frag) : Sp := fun vs H Q _ => ∃ (b : Addr) (n : Int), vs = [.ref b] ∧ H b = some (.lst [.int n]) ∧ ∀ (x : V) (n' : Int) (H' : Hp), El K (off b H') x → Th K (off b H') x → H' b = some (.lst [.int n']) → But b H H' → Q x H'
/-! the form of reaches -/
def fitsV (x : V) (m n : Int) : Bool := match x with
  | .int i => decide (i % 2 ≠ m % 2) && (decide (0 ≤ i) && (decide (i ≤ m + 1) && decide (i ≤ n - m)))
  | _ => false
def formV (xs : List V) : Bool := decide (xs.length ≤ 119) && (if xs.length % 2 = 0 then decide (xs.length = 0) else (List.range xs.length).all fun i => fitsV (xs.getD i .non) i xs.length)
def spFits (K : PySem.W.Frag) : Sp := fun vs H Q _ => ∃ (x : V) (m n : Int), vs = [x, .int m, .int n] ∧ (Scal x ∨ NoInt K H x) ∧ Q (.bl (fitsV x m n)) H
/-- what is asked of a list of things, b where it is none -/
def spOfList (K : PySem.W.Frag) (f : List V → Bool) : Sp := fun vs H Q _ => ∃ x : V, vs = [x] ∧ ((∃ p xs, x = .ref p ∧ H p = some (.lst xs) ∧ xs.length ≤ 400 ∧ (∀ y ∈ xs, Scal y ∨ NoInt K H y) ∧ ∀ H', Same H H' → Q (.bl (f xs)) H') ∨ (NoL K H x ∧ ∀ H', Same H H' → Q (.bl false) H'))
/-- numbers that a law makes: few and small -/
def Few (ns : List Int) (n : Nat) : Prop := ns.length ≤ n ∧ ∀ i ∈ ns, i.natAbs ≤ 100
def spLReach : Sp := fun vs H Q _ => ∃ l : List Nat, vs = [.str (tx l)] ∧ l.length ≤ 9 ∧ ∀ (p : Addr) (ns : List Int) (H' : Hp), H p = none → H' p = some (.lst (ns.map V.int)) → Few ns 20 → Same H H' → Q (.ref p) H'
def spDrawnF : Sp := fun vs H Q _ => ∃ (b : Addr) (n : Int) (s : Nat), vs = [.ref b, .int (s : Int)] ∧ H b = some (.lst [.int n]) ∧ s ≤ 10 ∧ ∀ (p : Addr) (ns : List Int) (n' : Int) (H' : Hp), H p = none → H' p = some (.lst (ns.map V.int)) → Few ns 20 → H' b = some (.lst [.int n']) → But b H H' → Q (.ref p) H'
def spTurn71 (K : PySem.W.Frag) : Sp := fun vs H Q _ => ∃ (b : Addr) (n : Int) (pt : Addr) (ns : List Int) (x : V), vs = [.ref b, .ref pt, x] ∧ H b = some (.lst [.int n]) ∧ H pt = some (.lst (ns.map V.int)) ∧ pt ≠ b ∧ Few ns 20 ∧ El K (off b H) x ∧
  ∀ (y : V) (n' : Int) (H' : Hp), Th K (off b H') y → H' b = some (.lst [.int n']) → But b H H' → Q y H'
end Mr

namespace L2
open PySem PySem.Spec PyProof.Rows
section
variable {X : Cx}
end
end L2

namespace Mr
open PySem L2
/-! bounds looked at: things of all kinds -/
def intV : V → Int
  | .int i => i
  | _ => 0
def areV (l : List Nat) (xs : List V) : Bool := decide (xs.length = l.length + 1) && (xs.all wholeV && areB l (xs.map intV))
/-- what is asked of a list of things and a row, no where it is none -/
def spOfRow (K : PySem.W.Frag) (f : List Nat → List V → Bool) : Sp := fun vs H Q _ => ∃ (x : V) (l : List Nat), vs = [x, .str (tx l)] ∧ rowL l = true ∧ ((∃ p xs, x = .ref p ∧ H p = some (.lst xs) ∧ xs.length ≤ 400 ∧ (∀ y ∈ xs, Scal y ∨ NoInt K H y) ∧ ∀ H', Same H H' → Q (.bl (f l xs)) H') ∨ (NoL K H x ∧ ∀ H', Same H H' → Q (.bl false) H'))
def spTurn44 (K : PySem.W.Frag) : Sp := fun vs H Q _ => ∃ (b : Addr) (n : Int) (pt : Addr) (ns : List Int) (x : V), vs = [.ref b, .ref pt, x] ∧ H b = some (.lst [.int n]) ∧ H pt = some (.lst (ns.map V.int)) ∧ pt ≠ b ∧ 1 ≤ ns.length ∧ Few ns 20 ∧ El K (off b H) x ∧
  ∀ (y : V) (n' : Int) (H' : Hp), Th K (off b H') y → H' b = some (.lst [.int n']) → But b H H' → Q y H'
def spRefB (K : PySem.W.Frag) : Sp := fun vs H Q _ => ∃ x : V, vs = [x] ∧ Thing K H x ∧ rowV x = false ∧ ∀ H', Same H H' → Q (.bl true) H'
def ThX (K : PySem.W.Frag) (H : Hp) (y : V) : Prop := Th K H y ∨ ∃ p, y = .ref p ∧ H p = some (.dK [])
end Mr

namespace Mr
open PySem L2
/-! ### k51: lies_in of whatever -/
def LiesV (l m : List Nat) (xs : List V) : Prop := ∃ ns : List Int, xs = ns.map V.int ∧ ns.length = l.length ∧ (∀ i ∈ ns, 0 ≤ i ∧ i < ((m.length : Nat) : Int)) ∧ ns.Pairwise (· < ·) ∧ ∀ (j : Nat) (i : Int), ns[j]? = some i → m[i.toNat]? = l[j]?
def RiseV (n : Nat) (xs : List V) : Prop := ∃ ns : List Int, xs = ns.map V.int ∧ (∀ i ∈ ns, 0 ≤ i ∧ i < (n : Int)) ∧ ns.Pairwise (· < ·)
/-- what is asked of whatever: the truth where it is a list of things, no where it is none -/
def askL (K : PySem.W.Frag) (H : Hp) (Q : V → Hp → Prop) (x : V) (C : List V → Prop) : Prop := (∃ p xs, x = .ref p ∧ H p = some (.lst xs) ∧ xs.length ≤ 400 ∧ (∀ y ∈ xs, Scal y ∨ NoInt K H y) ∧ ∀ (r : Bool) (H' : Hp), (r = true ↔ C xs) → Same H H' → Q (.bl r) H') ∨ (NoL K H x ∧ ∀ H', Same H H' → Q (.bl false) H')
def spRiseG (K : PySem.W.Frag) : Sp := fun vs H Q _ => ∃ (x : V) (n : Nat), vs = [x, .int (n : Int)] ∧ askL K H Q x (RiseV n)
def spLiesG (K : PySem.W.Frag) : Sp := fun vs H Q _ => ∃ (l m : List Nat) (x : V), vs = [.str (tx l), .str (tx m), x] ∧ rowL l = true ∧ l.length ≤ 60 ∧ rowL m = true ∧ m.length ≤ 120 ∧ askL K H Q x (LiesV l m)
def spLLiesG (K : PySem.W.Frag) : Sp := fun vs H Q _ => ∃ (l m : List Nat) (x : V), vs = [.str (tx l), .str (tx m), x] ∧ l.length ≤ 60 ∧ m.length ≤ 120 ∧ askL K H Q x (LiesV l m)
def inV (n : Nat) : V → Bool
  | .int i => decide (0 ≤ i) && decide (i < (n : Int))
  | _ => false
theorem eqVs_ints {a b : List Int} : eqVs (a.map V.int) (b.map V.int) = true ↔ a = b := by
  constructor
  · intro h
    unfold eqVs at h
    rw [Bool.and_eq_true, List.length_map, List.length_map, List.all_eq_true] at h
    have hl := of_decide_eq_true h.1
    refine List.ext_getElem hl fun j h1 h2 => ?_
    have := h.2 j (List.mem_range.mpr h1)
    rw [List.getD_eq_getElem?_getD, List.getD_eq_getElem?_getD, List.getElem?_map, List.getElem?_map, List.getElem?_eq_getElem h1, List.getElem?_eq_getElem h2] at this
    have e : eqV (V.int a[j]) (V.int b[j]) = true := this
    simpa [eqV] using e
  · rintro rfl
    exact eqVs_same (List.all_eq_true.mpr fun x hx => by obtain ⟨k, _, rfl⟩ := List.mem_map.mp hx; rfl)
/-- the signs at the places -/
def atT (m : List Nat) (ns : List Int) : List Nat := ns.map fun i => m.getD i.toNat 0
def spTurn51 (K : PySem.W.Frag) : Sp := fun vs H Q _ => ∃ (b : Addr) (n : Int) (pt : Addr) (ns : List Int) (z : Nat), vs = [.ref b, .ref pt, .int (z : Int)] ∧ H b = some (.lst [.int n]) ∧ H pt = some (.lst (ns.map V.int)) ∧ pt ≠ b ∧ Few ns 20 ∧ z ≤ 100 ∧
  ∀ (y : V) (n' : Int) (H' : Hp), Th K (off b H') y → H' b = some (.lst [.int n']) → But b H H' → Q y H'
end Mr

namespace Mr
open PySem L2
/-! ### k11: what are no lengths -/
def FallV (xs : List V) : Prop := ∃ ls : List Int, xs = ls.map V.int ∧ Fall ls
def spLAre11 (K : PySem.W.Frag) : Sp := fun vs H Q _ => ∃ x : V, vs = [x] ∧ ((∃ p xs, x = .ref p ∧ H p = some (.lst xs) ∧ xs.length ≤ 60 ∧ (∀ y ∈ xs, Scal y ∨ NoInt K H y) ∧ ∀ (r : Bool) (H' : Hp), (r = true ↔ FallV xs) → Same H H' → Q (.bl r) H') ∨ (NoL K H x ∧ ∀ H', Same H H' → Q (.bl false) H'))
def spTold11 (K : PySem.W.Frag) : Sp := fun vs H Q _ => ∃ x : V, vs = [x] ∧ ((∃ p xs, x = .ref p ∧ H p = some (.lst xs) ∧ xs.length ≤ 60 ∧ (∀ y ∈ xs, Scal y ∨ NoInt K H y) ∧ (FallV xs → ∀ H', Same H H' → Q (.str "told") H') ∧ (¬ FallV xs → ∀ H', Same H H' → Q (.str "lengths") H')) ∨ (NoL K H x ∧ ∀ H', Same H H' → Q (.str "lengths") H'))
def spBent11 : Sp := fun vs H Q _ => ∃ (b pd : Addr) (n : Int) (ks : List Nat) (x : V), vs = [.ref b, .ref pd, x] ∧ H b = some (.lst [.int n]) ∧ 0 ≤ n ∧ b ≠ pd ∧ H pd = some (.lst (lensV ks)) ∧ ks.length ≤ 29 ∧ (∀ k ∈ ks, k < 100) ∧ Odd H x ∧
  ∀ (y : V) (n' : Int) (H' : Hp), Thg b H' y → 0 ≤ n' → H' b = some (.lst [.int n']) → But b H H' → Q y H'
end Mr

namespace L2
open PySem PySem.W PySem.Spec PyProof.Rows
/-! ### text.replace(c, d) with written signs: their tokens differ and are not nought, where some token was drawn ahead -/
section
variable {X : Cx}
/-- as PE; at the end some token was drawn -/
def PEt (X : Cx) (e : Expr) (t : TE) : Prop :=
  ∀ (pins : List (Addr × Obj)) (s : Shared) (σ : St) (H : Hp) (Q : VK), Inv X pins σ H s → t σ H Q → wpAny (model X.prog X.w) X.A (eval e X.env) (fun u s' => 1 ≤ s'.toks ∧ EP X pins σ Q u s') X.xe s
def PAt (X : Cx) (es : List Expr) (t : TA) : Prop :=
  ∀ (pos : Pos) (pins : List (Addr × Obj)) (s : Shared) (σ : St) (H : Hp) (Q : List V → Hp → Prop), Inv X pins σ H s → t σ H Q → wpAny (model X.prog X.w) X.A (spliced (backTo pos (starEach es X.env))) (fun us s' => 1 ≤ s'.toks ∧ AP X pins σ Q us s') X.xe s
def subL (c d : Nat) (l : List Nat) : List Nat := l.map fun x => if x = c then d else x
def tRep (to : TE) (y z : Str) : TE := fun σ H Q => to σ H fun x H1 => ∃ (l : List Nat) (c d : Nat), x = .str (tx l) ∧ y = tx [c] ∧ z = tx [d] ∧ c ≠ d ∧ l.length ≤ 1000 ∧ Q (.str (tx (subL c d l))) H1
end
end L2

namespace Mr
open PySem L2
/-! ### k48: ways by even mirrors -/
inductive EPath (l : List Nat) : Nat → Nat → Nat → Prop
  | nil (a : Nat) : EPath l a a 0
  | step {a f b n : Nat} : EPath l a f n → f < b → b ≤ l.length → PalI l f b → (b - f) % 2 = 0 → EPath l a b (n + 1)
end Mr

namespace L2
open PySem PySem.W PyProof.Rows
/-! ### the questions of a sort, answered by an order of unlike things (fewer than 64) -/
def KW {α : Type} (lt : Nat → Nat → Bool) (n : Nat) : KasT α → (α → Prop) → Prop
  | .ret a, Q => Q a
  | .ask i j k, Q => i < n ∧ j < n ∧ KW lt n (k (lt i j)) Q
section
variable {lt : Nat → Nat → Bool} {n : Nat}
structure OrdN (lt : Nat → Nat → Bool) (n : Nat) : Prop where
  tr : ∀ i j k, i < n → j < n → k < n → lt i j = true → lt j k = true → lt i k = true
  tot : ∀ i j, i < n → j < n → i ≠ j → lt i j = false → lt j i = true
def gN (p : Array Nat) (i : Nat) : Nat := p.getD i 0
structure PermN (p : Array Nat) (n : Nat) : Prop where
  pm : p.Perm (List.range n).toArray
def UpN (lt : Nat → Nat → Bool) (p : Array Nat) (m : Nat) : Prop := ∀ i j, i < j → j < m → lt (gN p i) (gN p j) = true
def DownN (lt : Nat → Nat → Bool) (p : Array Nat) (m : Nat) : Prop := ∀ i j, i < j → j < m → lt (gN p j) (gN p i) = true
end
end L2

namespace L2
open PySem PySem.W PySem.Spec PyProof.Rows
/-! ### sorted of a list of pairs of numbers, all unlike, fewer than 64 -/
def lexB (a b : Int × Int) : Bool := decide (a.1 < b.1) || (decide (a.1 = b.1) && decide (a.2 < b.2))
theorem lexB_iff {a b : Int × Int} : lexB a b = true ↔ a.1 < b.1 ∨ (a.1 = b.1 ∧ a.2 < b.2) := by
  unfold lexB
  rw [Bool.or_eq_true, Bool.and_eq_true, decide_eq_true_iff, decide_eq_true_iff, decide_eq_true_iff]
def prAt (ps : List (Int × Int)) (i : Nat) : Int × Int := ps.getD i (0, 0)
theorem pr_get {ps : List (Int × Int)} {i : Nat} (h : i < ps.length) : ps[i]? = some (prAt ps i) := by
  unfold prAt
  rw [List.getD_eq_getElem?_getD, List.getElem?_eq_getElem h]
  rfl
theorem lex_ord {ps : List (Int × Int)} (nd : ps.Nodup) : OrdN (fun i j => lexB (prAt ps i) (prAt ps j)) ps.length where
  tr i j k _ _ _ h1 h2 := by
    rw [lexB_iff] at h1 h2 ⊢
    omega
  tot i j hi hj e h := by
    rw [lexB_iff]
    have h1 : ¬ ((prAt ps i).1 < (prAt ps j).1 ∨ ((prAt ps i).1 = (prAt ps j).1 ∧ (prAt ps i).2 < (prAt ps j).2)) := fun z => by
      have := lexB_iff.mpr z
      rw [h] at this
      cases this
    have ne : prAt ps i ≠ prAt ps j := fun z => by
      have a1 := pr_get hi
      have a2 := pr_get hj
      rw [z] at a1
      rw [List.getElem?_eq_getElem hi] at a1
      rw [List.getElem?_eq_getElem hj] at a2
      rcases Nat.lt_or_gt_of_ne e with h | h
      · exact (List.pairwise_iff_getElem.mp nd i j hi hj h) ((Option.some.inj a1).trans (Option.some.inj a2).symm)
      · exact (List.pairwise_iff_getElem.mp nd j i hj hi h) ((Option.some.inj a2).trans (Option.some.inj a1).symm)
    have ne2 : ¬ ((prAt ps i).1 = (prAt ps j).1 ∧ (prAt ps i).2 = (prAt ps j).2) := fun z => ne (Prod.ext z.1 z.2)
    omega
/-- the values are tuples of the pairs -/
inductive TupsI (h : Heap) : List Value → List (Int × Int) → Prop
  | nil : TupsI h [] []
  | cons {a : Addr} {o : Obj} {t u : Tok} {n : Nat} {p : Int × Int} {vs : List Value} {ps : List (Int × Int)} (ho : h.get? a = some o) (hc : o.cls = .type "tuple") (hd : o.data = .seq #[.int p.1 t, .int p.2 u] n) (r : TupsI h vs ps) : TupsI h (.ref a :: vs) (p :: ps)
theorem TupsI.keep {h h' : Heap} (k : ∀ b o, h.get? b = some o → o.cls = .type "tuple" → h'.get? b = some o) {vs : List Value} {ps : List (Int × Int)} (T : TupsI h vs ps) : TupsI h' vs ps := by
  induction T with
  | nil => exact .nil
  | cons ho hc hd _ ih => exact .cons (k _ _ ho hc) hc hd ih
theorem TupsI.len {h : Heap} {vs : List Value} {ps : List (Int × Int)} (T : TupsI h vs ps) : vs.length = ps.length := by
  induction T with
  | nil => rfl
  | cons _ _ _ _ ih => rw [List.length_cons, List.length_cons, ih]
theorem TupsI.at {h : Heap} {vs : List Value} {ps : List (Int × Int)} (T : TupsI h vs ps) : ∀ {i : Nat}, i < ps.length → ∃ (a : Addr) (o : Obj) (t u : Tok) (n : Nat), vs.getD i Value.none = .ref a ∧ h.get? a = some o ∧ o.data = .seq #[.int (prAt ps i).1 t, .int (prAt ps i).2 u] n := by
  induction T with
  | nil => intro i hi; exact absurd hi (Nat.not_lt_zero _)
  | cons ho hc hd _ ih =>
    intro i hi
    cases i with
    | zero => exact ⟨_, _, _, _, _, rfl, ho, hd⟩
    | succ i =>
      obtain ⟨a, o, t, u, n, h1, h2, h3⟩ := ih (i := i) (Nat.lt_of_succ_lt_succ hi)
      exact ⟨a, o, t, u, n, h1, h2, h3⟩
theorem TupsI.firsts {h : Heap} {vs : List Value} {ps : List (Int × Int)} (T : TupsI h vs ps) : ∃ fs, KatTups h vs fs ∧ fs.length = ps.length ∧ ∀ v ∈ fs, ∃ i t, v = Value.int i t := by
  induction T with
  | nil => exact ⟨[], KatTups.nil, rfl, fun v hv => by cases hv⟩
  | @cons a o t u n p vs ps ho hc hd _ ih =>
    obtain ⟨fs, h1, h2, h3⟩ := ih
    refine ⟨Value.int p.1 t :: fs, KatTups.cons ho hc hd rfl h1, by rw [List.length_cons, List.length_cons, h2], fun v hv => ?_⟩
    rcases List.mem_cons.mp hv with rfl | hv
    · exact ⟨_, _, rfl⟩
    · exact h3 v hv
section
variable {prog : Program} {w : World} {A : Around} {E : Value → Shared → Prop} {s : Shared}
theorem tups_lt {vs : List Value} {ps : List (Int × Int)} (T : TupsI s.heap vs ps) {i j : Nat} (hi : i < ps.length) (hj : j < ps.length) {C : Bool → Shared → Prop} (h : C (lexB (prAt ps i) (prAt ps j)) s) : kas_ask prog w A (tuples' true) vs i j C s := by
  unfold kas_ask
  obtain ⟨a, o, t, u, n, e1, e2, e3⟩ := T.at hi
  obtain ⟨a', o', t', u', n', f1, f2, f3⟩ := T.at hj
  rw [e1, f1]
  generalize prAt ps i = p at e3 h
  generalize prAt ps j = q at f3 h
  refine kat_lt e2 e3 f2 f3 ?_
  refine kat_cons (wpAny_eqBool_int ?_)
  cases c1 : p.1 == q.1 with
  | false =>
    have n1 : p.1 ≠ q.1 := fun z => by rw [z, beq_self_eq_true] at c1; cases c1
    refine kat_no (oneLt_int ?_)
    have e : lexB p q = decide (p.1 < q.1) := by
      unfold lexB
      rw [decide_eq_false n1, Bool.false_and, Bool.or_false]
    rw [e] at h
    exact h
  | true =>
    have n1 : p.1 = q.1 := eq_of_beq c1
    refine kat_yes (kat_cons (wpAny_eqBool_int ?_))
    have e : lexB p q = decide (p.2 < q.2) := by
      unfold lexB
      rw [decide_eq_false (show ¬ p.1 < q.1 by omega), decide_eq_true n1, Bool.false_or, Bool.true_and]
    rw [e] at h
    cases c2 : p.2 == q.2 with
    | false => exact kat_no (kat_one _ _ (PyProof.Rows.lt_int h))
    | true =>
      have n2 : p.2 = q.2 := eq_of_beq c2
      rw [decide_eq_false (show ¬ p.2 < q.2 by omega)] at h
      exact kat_yes (kat_nil h)
theorem range_getD (vs : List Value) : (List.range vs.length).map (fun i => vs.getD i Value.none) = vs := by
  refine List.ext_getElem? fun i => ?_
  rw [List.getElem?_map]
  by_cases h : i < vs.length
  · rw [List.getElem?_range h, List.getElem?_eq_getElem h]
    show some (vs.getD i Value.none) = _
    rw [List.getD_eq_getElem?_getD, List.getElem?_eq_getElem h]
    rfl
  · rw [List.getElem?_eq_none (by rw [List.length_range]; omega), List.getElem?_eq_none (by omega)]
    rfl
end
/-- a row of tuples of two numbers -/
def PrsV (H : Hp) (zs : List V) (ps : List (Int × Int)) : Prop := zs.length = ps.length ∧ ∀ i, i < ps.length → ∃ p : Addr, zs[i]? = some (.ref p) ∧ H p = some (.tup [.int (prAt ps i).1, .int (prAt ps i).2])
theorem PrsV.same {H H' : Hp} {zs : List V} {ps : List (Int × Int)} (s : ∀ a o, H a = some o → H' a = some o) (h : PrsV H zs ps) : PrsV H' zs ps := ⟨h.1, fun i hi => let ⟨p, e, q⟩ := h.2 i hi; ⟨p, e, s _ _ q⟩⟩
theorem PrsV.nil {H : Hp} : PrsV H [] [] := ⟨rfl, fun i hi => absurd hi (Nat.not_lt_zero _)⟩
theorem prAt_left {ps qs : List (Int × Int)} {i : Nat} (h : i < ps.length) : prAt (ps ++ qs) i = prAt ps i := by
  unfold prAt
  rw [List.getD_eq_getElem?_getD, List.getD_eq_getElem?_getD, List.getElem?_append_left h]
theorem prAt_end (ps : List (Int × Int)) (q : Int × Int) : prAt (ps ++ [q]) ps.length = q := by
  unfold prAt
  rw [List.getD_eq_getElem?_getD, List.getElem?_append_right (Nat.le_refl _), Nat.sub_self]
  rfl
theorem PrsV.push {H : Hp} {zs : List V} {ps : List (Int × Int)} {p : Addr} {q : Int × Int} (h : PrsV H zs ps) (hp : H p = some (.tup [.int q.1, .int q.2])) : PrsV H (zs ++ [.ref p]) (ps ++ [q]) := by
  refine ⟨by rw [List.length_append, List.length_append, h.1]; rfl, fun i hi => ?_⟩
  rw [List.length_append] at hi
  by_cases e : i < ps.length
  · obtain ⟨p', e1, e2⟩ := h.2 i e
    exact ⟨p', by rw [List.getElem?_append_left (by rw [h.1]; exact e)]; exact e1, by rw [prAt_left e]; exact e2⟩
  · have : i = ps.length := by
      have : i < ps.length + 1 := hi
      omega
    subst this
    exact ⟨p, by rw [← h.1, List.getElem?_append_right (Nat.le_refl _), Nat.sub_self]; rfl, by rw [prAt_end]; exact hp⟩
/-- the order of a row, told by places -/
theorem PrsV.order {H : Hp} {zs : List V} {ps : List (Int × Int)} (h : PrsV H zs ps) {π : List Nat} (hπ : ∀ i ∈ π, i < ps.length) : PrsV H (π.map fun i => zs.getD i .non) (π.map (prAt ps)) := by
  refine ⟨by rw [List.length_map, List.length_map], fun i hi => ?_⟩
  rw [List.length_map] at hi
  obtain ⟨p, e1, e2⟩ := h.2 π[i] (hπ _ (List.getElem_mem hi))
  refine ⟨p, ?_, ?_⟩
  · rw [List.getElem?_map, List.getElem?_eq_getElem hi]
    show some (zs.getD π[i] .non) = _
    rw [List.getD_eq_getElem?_getD, e1]
    rfl
  · have : prAt (π.map (prAt ps)) i = prAt ps π[i] := by
      show (π.map (prAt ps)).getD i (0, 0) = _
      rw [List.getD_eq_getElem?_getD, List.getElem?_map, List.getElem?_eq_getElem hi]
      rfl
    rw [this]
    exact e2
section
variable {X : Cx}
theorem vals_getD {xs : List V} {us : List Value} (r : Vals xs us) : ∀ (π : List Nat), (∀ i ∈ π, i < xs.length) → Vals (π.map fun i => xs.getD i .non) (π.map fun i => us.getD i Value.none)
  | [], _ => .nil
  | i :: π, h => by
    have hi := h i List.mem_cons_self
    obtain ⟨u, hu, ru⟩ := r.get (List.getElem?_eq_getElem hi)
    refine .cons ?_ (vals_getD r π fun j hj => h j (List.mem_cons_of_mem _ hj))
    show RelV (xs.getD i .non) (us.getD i Value.none)
    rw [List.getD_eq_getElem?_getD, List.getD_eq_getElem?_getD, List.getElem?_eq_getElem hi, hu]
    exact ru
theorem tups_of {pins : List (Addr × Obj)} {σ : St} {H : Hp} {s : Shared} (I : Inv X pins σ H s) : ∀ {zs : List V} {us : List Value} {ps : List (Int × Int)}, Vals zs us → PrsV H zs ps → TupsI s.heap us ps
  | [], [], [], _, _ => .nil
  | [], [], _ :: _, _, h => by have := h.1; cases this
  | z :: zs, u :: us, [], _, h => by have := h.1; cases this
  | z :: zs, u :: us, p :: ps, .cons rz r, h => by
    obtain ⟨a, e1, e2⟩ := h.2 0 (Nat.succ_pos _)
    have ez : z = .ref a := Option.some.inj e1
    subst ez
    cases rz
    obtain ⟨its, r', ⟨o, ho, hc, n, hd⟩, _⟩ := I.tuple (SqT.of (K := X.K) e2)
    obtain ⟨u1, u2, rfl, ⟨t1, rfl⟩, ⟨t2, rfl⟩⟩ := Vals.two r'
    refine .cons (p := p) (t := t1) (u := t2) ho hc hd (tups_of I r ⟨Nat.succ.inj h.1, fun i hi => ?_⟩)
    obtain ⟨p', f1, f2⟩ := h.2 (i + 1) (Nat.succ_lt_succ hi)
    exact ⟨p', f1, f2⟩
end
end L2

namespace L2
open PySem PySem.W PyProof.Rows
/-! ### a sort of 64 things and more, all unlike: the search for a place -/
def gallopX : Bool → Keyed → Array Keyed → Nat → Nat → Nat → StateT SortSt Sem (Option Nat) := sortPriv% PySem.Builtin.gallop
section
variable {prog : Program} {w : World} {A : Around} {E : Value → Shared → Prop} {s : Shared}
structure CmpU (prog : Program) (w : World) (A : Around) (s : Shared) (κ : SortKind) (U : Keyed → Prop) (lt : Keyed → Keyed → Bool) : Prop where
  ask : ∀ x y, U x → U y → ∀ C : Bool → Shared → Prop, C (lt x y) s → wpAny (model prog w) A (keyLt' κ x.1 y.1) C (fun _ _ => False) s
theorem wpS_ltU {κ : SortKind} {U : Keyed → Prop} {lt : Keyed → Keyed → Bool} (hc : CmpU prog w A s κ U lt) {st : SortSt} (hk : kindOf st = κ) {x y : Keyed} (hx : U x) (hy : U y) {Q : Option Bool → SortSt → Prop} (h : Q (some (lt x y)) st) : wpS (model prog w) A E s (lt' x y) Q st := by
  rw [lt'_eq]
  refine wpS_bind (wpS_get ?_)
  rw [hk]
  refine wpS_bind (wpS_lift (wpAny_attempt (wpAny_mono (hc.ask x y hx hy (fun b s' => s' = s ∧ b = lt x y) ⟨rfl, rfl⟩) (fun b s' hb => ?_) fun _ _ z => z.elim)))
  obtain ⟨rfl, rfl⟩ := hb
  exact ⟨rfl, wpS_pure h⟩
theorem wpS_gallop {κ : SortKind} {U : Keyed → Prop} {lt : Keyed → Keyed → Bool} (hc : CmpU prog w A s κ U lt) {st : SortSt} (hk : kindOf st = κ) {left : Bool} {key : Keyed} {arr : Array Keyed} {base n hint K : Nat} (hkey : U key) (hint_lt : hint < n) (hK : K ≤ n)
    (hit : ∀ i, i < n → ∃ x, arr[base + i]? = some x ∧ U x ∧ (left = true → lt x key = decide (i < K)) ∧ (left = false → lt key x = decide (K ≤ i))) {Q : Option Nat → SortSt → Prop} (h : Q (some K) st) : wpS (model prog w) A E s (gallopX left key arr base n hint) Q st := by
  have beyond : ∀ i, i < n → ∀ {R : Option Bool → SortSt → Prop}, R (some (decide (i < K))) st → wpS (model prog w) A E s (do
      let x ← elem' arr (base + i)
      if left = true then lt' x key else do
        let b ← lt' key x
        pure (b.map (!·))) R st := fun i hi R hR => by
    obtain ⟨x, hx, hU, h1, h2⟩ := hit i hi
    rw [elem'_eq, hx]
    refine wpS_bind (wpS_pure ?_)
    cases left with
    | true =>
      rw [if_pos rfl]
      refine wpS_ltU hc hk hU hkey ?_
      rw [h1 rfl]
      exact hR
    | false =>
      rw [if_neg (by decide)]
      refine wpS_bind (wpS_ltU hc hk hkey hU (wpS_pure ?_))
      rw [h2 rfl]
      have e : (!decide (K ≤ i)) = decide (i < K) := by
        by_cases z : i < K
        · rw [decide_eq_true z, decide_eq_false (by omega)]; rfl
        · rw [decide_eq_false z, decide_eq_true (by omega)]; rfl
      show R (some (!decide (K ≤ i))) st
      rw [e]
      exact hR
  have bin : ∀ lo hi : Nat, lo ≤ K → K ≤ hi → hi ≤ n → ∀ (f : Nat → Option (Option Nat) × Nat × Nat → StateT SortSt Sem (ForInStep (Option (Option Nat) × Nat × Nat))), (∀ i lo hi R, (lo ≥ hi → R (.done (none, lo, hi)) st) → (lo < hi → hi ≤ n → R (.yield (if lo + (hi - lo) / 2 < K then (none, lo + (hi - lo) / 2 + 1, hi) else (none, lo, lo + (hi - lo) / 2))) st) → hi ≤ n → wpS (model prog w) A E s (f i (none, lo, hi)) R st) →
      wpS (model prog w) A E s (forIn [0:n] (none, lo, hi) f) (fun c st' => st' = st ∧ c.1 = none ∧ c.2.2 = K) st := fun lo hi h1 h2 h3 f hf => by
    refine wpS_forRange (I := fun i c st' => st' = st ∧ c.1 = none ∧ c.2.1 ≤ K ∧ K ≤ c.2.2 ∧ c.2.2 ≤ n ∧ c.2.2 - c.2.1 + i ≤ n) ?_ ?_ ⟨rfl, rfl, h1, h2, h3, by show hi - lo + 0 ≤ n; omega⟩
    · rintro i ⟨r, lo', hi'⟩ st' _ hi2 ⟨rfl, hr, g1, g2, g3, g4⟩
      have hr' : r = none := hr
      subst hr'
      have g1 : lo' ≤ K := g1
      have g2 : K ≤ hi' := g2
      have g3 : hi' ≤ n := g3
      have g4 : hi' - lo' + i ≤ n := g4
      refine hf i lo' hi' _ (fun z => ⟨rfl, rfl, ?_⟩) (fun z _ => ?_) g3
      · show hi' = K
        omega
      · by_cases c : lo' + (hi' - lo') / 2 < K
        · rw [if_pos c]
          exact ⟨rfl, rfl, by show lo' + (hi' - lo') / 2 + 1 ≤ K; omega, g2, g3, by show hi' - (lo' + (hi' - lo') / 2 + 1) + (i + 1) ≤ n; omega⟩
        · rw [if_neg c]
          exact ⟨rfl, rfl, g1, by show K ≤ lo' + (hi' - lo') / 2; omega, by show lo' + (hi' - lo') / 2 ≤ n; omega, by show lo' + (hi' - lo') / 2 - lo' + (i + 1) ≤ n; omega⟩
    · rintro ⟨r, lo', hi'⟩ st' ⟨rfl, hr, g1, g2, g3, g4⟩
      have g1 : lo' ≤ K := g1
      have g2 : K ≤ hi' := g2
      have g4 : hi' - lo' + max 0 n ≤ n := g4
      refine ⟨rfl, hr, ?_⟩
      show hi' = K
      omega
  refine wpS_bind (beyond hint hint_lt ?_)
  by_cases c : hint < K
  · rw [decide_eq_true c]
    dsimp only
    rw [if_pos rfl]
    refine wpS_bind (wpS_mono (wpS_forRange (I := fun i c st' => st' = st ∧ c.1 = none ∧ c.2.1 < c.2.2 ∧ hint + c.2.1 < K ∧ i + 1 ≤ c.2.2) (Q := fun c st' => st' = st ∧ c.1 = none ∧ hint + c.2.1 < K ∧ K ≤ hint + min c.2.2 (n - hint)) ?_ ?_ ⟨rfl, rfl, Nat.lt_succ_self 0, c, Nat.le_refl _⟩) ?_)
    · rintro i ⟨r, la, ofs⟩ st' _ hi2 ⟨rfl, hr, g1, g2, g3⟩
      have hr' : r = none := hr
      subst hr'
      have g1 : la < ofs := g1
      have g2 : hint + la < K := g2
      have g3 : i + 1 ≤ ofs := g3
      dsimp only
      by_cases z : ofs ≥ n - hint
      · rw [if_pos z]
        exact wpS_pure ⟨rfl, rfl, g2, by show K ≤ hint + min ofs (n - hint); omega⟩
      · rw [if_neg z]
        refine wpS_bind (beyond (hint + ofs) (by omega) ?_)
        dsimp only
        by_cases y : hint + ofs < K
        · rw [decide_eq_true y, if_neg (show ¬ (!true) = true by decide)]
          exact wpS_pure ⟨rfl, rfl, by show ofs < 2 * ofs + 1; omega, y, by show i + 1 + 1 ≤ 2 * ofs + 1; omega⟩
        · rw [decide_eq_false y, if_pos (show (!false) = true from rfl)]
          exact wpS_pure ⟨rfl, rfl, g2, by show K ≤ hint + min ofs (n - hint); omega⟩
    · rintro ⟨r, la, ofs⟩ st' ⟨rfl, hr, g1, g2, g3⟩
      have g3 : max 0 n + 1 ≤ ofs := g3
      exact ⟨rfl, hr, g2, by show K ≤ hint + min ofs (n - hint); omega⟩
    · rintro ⟨r, la, ofs⟩ st' ⟨rfl, hr, g1, g2⟩
      have hr' : r = none := hr
      subst hr'
      have g1 : hint + la < K := g1
      have g2 : K ≤ hint + min ofs (n - hint) := g2
      dsimp only
      refine wpS_bind (wpS_mono (bin (hint + la + 1) (hint + min ofs (n - hint)) (by omega) g2 (by omega) _ fun i lo hi R r1 r2 hn => ?_) fun c st' hcc => ?_)
      · dsimp only
        by_cases z : lo ≥ hi
        · rw [if_pos z]
          exact wpS_pure (r1 z)
        · rw [if_neg z]
          refine wpS_bind (beyond (lo + (hi - lo) / 2) (by omega) ?_)
          have r3 := r2 (by omega) hn
          dsimp only
          by_cases y : lo + (hi - lo) / 2 < K
          · rw [if_pos y] at r3
            rw [decide_eq_true y, if_pos rfl]
            exact wpS_pure r3
          · rw [if_neg y] at r3
            rw [decide_eq_false y, if_neg (by decide)]
            exact wpS_pure r3
      · obtain ⟨rfl, c1, c2⟩ := hcc
        obtain ⟨r, lo', hi'⟩ := c
        have c1 : r = none := c1
        have c2 : hi' = K := c2
        subst c1 c2
        exact wpS_pure h
  · rw [decide_eq_false c]
    dsimp only
    rw [if_neg (by decide)]
    refine wpS_bind (wpS_mono (wpS_forRange (I := fun i c st' => st' = st ∧ c.1 = none ∧ c.2.1 < c.2.2 ∧ c.2.1 ≤ hint ∧ K ≤ hint - c.2.1 ∧ i + 1 ≤ c.2.2) (Q := fun c st' => st' = st ∧ c.1 = none ∧ c.2.1 ≤ hint ∧ K ≤ hint - c.2.1 ∧ hint + 1 - min c.2.2 (hint + 1) ≤ K) ?_ ?_ ⟨rfl, rfl, Nat.lt_succ_self 0, Nat.zero_le _, by show K ≤ hint - 0; omega, Nat.le_refl _⟩) ?_)
    · rintro i ⟨r, la, ofs⟩ st' _ hi2 ⟨rfl, hr, g1, g0, g2, g3⟩
      have hr' : r = none := hr
      subst hr'
      have g1 : la < ofs := g1
      have g0 : la ≤ hint := g0
      have g2 : K ≤ hint - la := g2
      have g3 : i + 1 ≤ ofs := g3
      dsimp only
      by_cases z : ofs ≥ hint + 1
      · rw [if_pos z]
        exact wpS_pure ⟨rfl, rfl, g0, g2, by show hint + 1 - min ofs (hint + 1) ≤ K; omega⟩
      · rw [if_neg z]
        refine wpS_bind (beyond (hint - ofs) (by omega) ?_)
        dsimp only
        by_cases y : hint - ofs < K
        · rw [decide_eq_true y, if_pos rfl]
          exact wpS_pure ⟨rfl, rfl, g0, g2, by show hint + 1 - min ofs (hint + 1) ≤ K; omega⟩
        · rw [decide_eq_false y, if_neg (by decide)]
          exact wpS_pure ⟨rfl, rfl, by show ofs < 2 * ofs + 1; omega, by show ofs ≤ hint; omega, by show K ≤ hint - ofs; omega, by show i + 1 + 1 ≤ 2 * ofs + 1; omega⟩
    · rintro ⟨r, la, ofs⟩ st' ⟨rfl, hr, g1, g0, g2, g3⟩
      have g3 : max 0 n + 1 ≤ ofs := g3
      exact ⟨rfl, hr, g0, g2, by show hint + 1 - min ofs (hint + 1) ≤ K; omega⟩
    · rintro ⟨r, la, ofs⟩ st' ⟨rfl, hr, g0, g1, g2⟩
      have hr' : r = none := hr
      subst hr'
      have g0 : la ≤ hint := g0
      have g1 : K ≤ hint - la := g1
      have g2 : hint + 1 - min ofs (hint + 1) ≤ K := g2
      dsimp only
      refine wpS_bind (wpS_mono (bin (hint + 1 - min ofs (hint + 1)) (hint - la) g2 g1 (by omega) _ fun i lo hi R r1 r2 hn => ?_) fun c st' hcc => ?_)
      · dsimp only
        by_cases z : lo ≥ hi
        · rw [if_pos z]
          exact wpS_pure (r1 z)
        · rw [if_neg z]
          refine wpS_bind (beyond (lo + (hi - lo) / 2) (by omega) ?_)
          have r3 := r2 (by omega) hn
          dsimp only
          by_cases y : lo + (hi - lo) / 2 < K
          · rw [if_pos y] at r3
            rw [decide_eq_true y, if_pos rfl]
            exact wpS_pure r3
          · rw [if_neg y] at r3
            rw [decide_eq_false y, if_neg (by decide)]
            exact wpS_pure r3
      · obtain ⟨rfl, c1, c2⟩ := hcc
        obtain ⟨r, lo', hi'⟩ := c
        have c1 : r = none := c1
        have c2 : hi' = K := c2
        subst c1 c2
        exact wpS_pure h
end
end L2

namespace L2
open PySem PySem.W PyProof.Rows
/-! ### two runs merged -/
def mergeLoX : Array Keyed → Array Keyed → StateT SortSt Sem (Array Keyed) := sortPriv% PySem.Builtin.mergeLo
structure OrdU (U : Keyed → Prop) (lt : Keyed → Keyed → Bool) : Prop where
  tr : ∀ x y z, U x → U y → U z → lt x y = true → lt y z = true → lt x z = true
  tot : ∀ x y, U x → U y → x ≠ y → lt x y = false → lt y x = true
  ir : ∀ x, U x → lt x x = false
def Eqv (st st' : SortSt) : Prop := kindOf st' = kindOf st ∧ arrOf st' = arrOf st ∧ pendingOf st' = pendingOf st ∧ failedOf st' = failedOf st
theorem Eqv.refl (st : SortSt) : Eqv st st := ⟨rfl, rfl, rfl, rfl⟩
theorem Eqv.trans {a b c : SortSt} (h : Eqv a b) (k : Eqv b c) : Eqv a c := ⟨k.1.trans h.1, k.2.1.trans h.2.1, k.2.2.1.trans h.2.2.1, k.2.2.2.trans h.2.2.2⟩
section
variable {prog : Program} {w : World} {A : Around} {E : Value → Shared → Prop} {s : Shared} {κ : SortKind} {U : Keyed → Prop} {lt : Keyed → Keyed → Bool}
def UpU (lt : Keyed → Keyed → Bool) (l : List Keyed) : Prop := l.Pairwise fun x y => lt x y = true
/-- o: what is laid, of the first ia of a and the first ib of b -/
structure MrgS (lt : Keyed → Keyed → Bool) (a b : List Keyed) (o : List Keyed) (ia ib : Nat) : Prop where
  perm : o.Perm (a.take ia ++ b.take ib)
  up : UpU lt o
  la : ∀ x ∈ o, ∀ y ∈ a.drop ia, lt x y = true
  lb : ∀ x ∈ o, ∀ y ∈ b.drop ib, lt x y = true
theorem MrgS.nextA {a b o : List Keyed} {ia ib k : Nat} (h : MrgS lt a b o ia ib) (ha : UpU lt a) (hk : ∀ x ∈ (a.drop ia).take k, ∀ y ∈ b.drop ib, lt x y = true) : MrgS lt a b (o ++ (a.drop ia).take k) (ia + k) ib := by
  have hd : UpU lt (a.drop ia) := List.Pairwise.sublist (List.drop_sublist _ _) ha
  have hsp : a.drop ia = (a.drop ia).take k ++ a.drop (ia + k) := by rw [← List.drop_drop, List.take_append_drop]
  refine ⟨?_, ?_, ?_, ?_⟩
  · have e : a.take (ia + k) = a.take ia ++ (a.drop ia).take k := by rw [List.take_add]
    rw [e]
    refine (h.perm.append_right _).trans ?_
    rw [List.append_assoc, List.append_assoc]
    exact List.Perm.append_left _ List.perm_append_comm
  · refine List.pairwise_append.mpr ⟨h.up, List.Pairwise.sublist (List.take_sublist _ _) hd, fun x hx y hy => h.la x hx y (List.mem_of_mem_take hy)⟩
  · intro x hx y hy
    rcases List.mem_append.mp hx with hx | hx
    · exact h.la x hx y (by rw [hsp]; exact List.mem_append_right _ hy)
    · have hd' := hd
      rw [hsp] at hd'
      exact (List.pairwise_append.mp hd').2.2 x hx y hy
  · intro x hx y hy
    rcases List.mem_append.mp hx with hx | hx
    · exact h.lb x hx y hy
    · exact hk x hx y hy
theorem MrgS.nextB {a b o : List Keyed} {ia ib k : Nat} (h : MrgS lt a b o ia ib) (hb : UpU lt b) (hk : ∀ x ∈ (b.drop ib).take k, ∀ y ∈ a.drop ia, lt x y = true) : MrgS lt a b (o ++ (b.drop ib).take k) ia (ib + k) := by
  have hd : UpU lt (b.drop ib) := List.Pairwise.sublist (List.drop_sublist _ _) hb
  have hsp : b.drop ib = (b.drop ib).take k ++ b.drop (ib + k) := by rw [← List.drop_drop, List.take_append_drop]
  refine ⟨?_, ?_, ?_, ?_⟩
  · have e : b.take (ib + k) = b.take ib ++ (b.drop ib).take k := by rw [List.take_add]
    rw [e, ← List.append_assoc]
    exact h.perm.append_right _
  · refine List.pairwise_append.mpr ⟨h.up, List.Pairwise.sublist (List.take_sublist _ _) hd, fun x hx y hy => h.lb x hx y (List.mem_of_mem_take hy)⟩
  · intro x hx y hy
    rcases List.mem_append.mp hx with hx | hx
    · exact h.la x hx y hy
    · exact hk x hx y hy
  · intro x hx y hy
    rcases List.mem_append.mp hx with hx | hx
    · exact h.lb x hx y (by rw [hsp]; exact List.mem_append_right _ hy)
    · have hd' := hd
      rw [hsp] at hd'
      exact (List.pairwise_append.mp hd').2.2 x hx y hy
/-- all of b is laid: the rest of a behind it -/
theorem MrgS.endA {a b o : List Keyed} {ia ib : Nat} (h : MrgS lt a b o ia ib) (ha : UpU lt a) (hb : b.length ≤ ib) : (o ++ a.drop ia).Perm (a ++ b) ∧ UpU lt (o ++ a.drop ia) := by
  refine ⟨?_, List.pairwise_append.mpr ⟨h.up, List.Pairwise.sublist (List.drop_sublist _ _) ha, h.la⟩⟩
  have p := h.perm
  rw [List.take_of_length_le hb] at p
  refine (p.append_right _).trans ?_
  rw [List.append_assoc]
  refine (List.Perm.append_left _ List.perm_append_comm).trans ?_
  rw [← List.append_assoc, List.take_append_drop]
/-- the rest of b, then the rest of a, which is greater than all of b -/
theorem MrgS.endB {a b o : List Keyed} {ia ib : Nat} (h : MrgS lt a b o ia ib) (ha : UpU lt a) (hb : UpU lt b) (hg : ∀ x ∈ b, ∀ y ∈ a.drop ia, lt x y = true) : (o ++ b.drop ib ++ a.drop ia).Perm (a ++ b) ∧ UpU lt (o ++ b.drop ib ++ a.drop ia) := by
  refine ⟨?_, List.pairwise_append.mpr ⟨List.pairwise_append.mpr ⟨h.up, List.Pairwise.sublist (List.drop_sublist _ _) hb, h.lb⟩, List.Pairwise.sublist (List.drop_sublist _ _) ha, fun x hx y hy => ?_⟩⟩
  · refine ((h.perm.append_right _).append_right _).trans ?_
    rw [List.append_assoc (List.take ia a), List.take_append_drop, List.append_assoc]
    refine (List.Perm.append_left _ List.perm_append_comm).trans ?_
    rw [← List.append_assoc, List.take_append_drop]
  · rcases List.mem_append.mp hx with hx | hx
    · exact h.la x hx y hy
    · exact hg x (List.mem_of_mem_drop hx) y hy
theorem ext_all (a : Array Keyed) (i : Nat) : (a.extract i).toList = a.toList.drop i := by
  rw [Array.toList_extract]
  show (a.toList.drop i).take (a.size - i) = _
  rw [List.take_of_length_le (by rw [List.length_drop, Array.length_toList]; exact Nat.le_refl _)]
theorem ext_k (a : Array Keyed) (i k : Nat) : (a.extract i (i + k)).toList = (a.toList.drop i).take k := by
  rw [Array.toList_extract]
  show (a.toList.drop i).take (i + k - i) = _
  rw [Nat.add_sub_cancel_left]
theorem arr_at {a : Array Keyed} {i : Nat} (h : i < a.size) : ∃ x, a[i]? = some x ∧ a.toList[i]? = some x ∧ x ∈ a.toList := by
  refine ⟨a[i], Array.getElem?_eq_getElem h, ?_, Array.mem_toList_iff.mpr (Array.getElem_mem h)⟩
  rw [Array.getElem?_toList]
  exact Array.getElem?_eq_getElem h
theorem drop_one {l : List Keyed} {i : Nat} {x : Keyed} (h : l[i]? = some x) : l.drop i = x :: l.drop (i + 1) := by
  obtain ⟨h1, rfl⟩ := List.getElem?_eq_some_iff.mp h
  exact List.drop_eq_getElem_cons h1
theorem take_one {l : List Keyed} {i : Nat} {x : Keyed} (h : l[i]? = some x) : (l.drop i).take 1 = [x] := by
  rw [drop_one h]
  rfl
theorem head_all (O : OrdU U lt) {l : List Keyed} (hl : UpU lt l) (ul : ∀ z ∈ l, U z) {x y : Keyed} {i : Nat} (hx : U x) (hy : l[i]? = some y) (h : lt x y = true) : ∀ z ∈ l.drop i, lt x z = true := fun z hz => by
  have hd : UpU lt (l.drop i) := List.Pairwise.sublist (List.drop_sublist _ _) hl
  have hz' : z ∈ l := List.mem_of_mem_drop hz
  rw [drop_one hy] at hz hd
  rcases List.mem_cons.mp hz with rfl | hz
  · exact h
  · exact O.tr x y z hx (ul y (List.mem_of_getElem? hy)) (ul z hz') h ((List.pairwise_cons.mp hd).1 z hz)
theorem OrdU.asym (O : OrdU U lt) {x y : Keyed} (hx : U x) (hy : U y) (h : lt x y = true) : lt y x = false := by
  cases e : lt y x with
  | false => rfl
  | true =>
    have := O.tr x y x hx hy hx h e
    rw [O.ir x hx] at this
    cases this
/-- where a thing stands in a row that rises -/
theorem stands (O : OrdU U lt) {key : Keyed} (hkey : U key) : ∀ {l : List Keyed}, UpU lt l → (∀ z ∈ l, U z) → (∀ z ∈ l, z ≠ key) → ∃ K, K ≤ l.length ∧ (∀ x ∈ l.take K, lt x key = true) ∧ ∀ x ∈ l.drop K, lt key x = true
  | [], _, _, _ => ⟨0, Nat.le_refl _, (fun x hx => by cases hx), (fun x hx => by cases hx)⟩
  | y :: l, h, hu, hn => by
    obtain ⟨h1, h2⟩ := List.pairwise_cons.mp h
    cases c : lt y key with
    | true =>
      obtain ⟨K, k1, k2, k3⟩ := stands O hkey h2 (fun z hz => hu z (List.mem_cons_of_mem _ hz)) fun z hz => hn z (List.mem_cons_of_mem _ hz)
      refine ⟨K + 1, Nat.succ_le_succ k1, fun x hx => ?_, k3⟩
      rw [List.take_succ_cons] at hx
      rcases List.mem_cons.mp hx with rfl | hx
      · exact c
      · exact k2 x hx
    | false =>
      have c2 := O.tot y key (hu y List.mem_cons_self) hkey (hn y List.mem_cons_self) c
      refine ⟨0, Nat.zero_le _, (fun x hx => by cases hx), fun x hx => ?_⟩
      rcases List.mem_cons.mp hx with rfl | hx
      · exact c2
      · exact O.tr key y x hkey (hu y List.mem_cons_self) (hu x (List.mem_cons_of_mem _ hx)) c2 (h1 x hx)
theorem wpS_elem {arr : Array Keyed} {i : Nat} {x : Keyed} {st : SortSt} {Q : Keyed → SortSt → Prop} (h : arr[i]? = some x) (hq : Q x st) : wpS (model prog w) A E s (elem' arr i) Q st := by
  rw [elem'_eq, h]
  exact wpS_pure hq
/-- gallop over the rest of an array -/
theorem wpS_gal (hc : CmpU prog w A s κ U lt) (O : OrdU U lt) {st : SortSt} (hk : kindOf st = κ) {left : Bool} {key : Keyed} {arr : Array Keyed} {base hint : Nat} (hkey : U key) (hb : base + hint < arr.size) (hu : ∀ z ∈ arr.toList, U z) (hup : UpU lt arr.toList) (hne : ∀ z ∈ arr.toList, z ≠ key)
    {Q : Option Nat → SortSt → Prop} (h : ∀ K, K ≤ arr.size - base → (∀ x ∈ (arr.toList.drop base).take K, lt x key = true) → (∀ x ∈ arr.toList.drop (base + K), lt key x = true) → Q (some K) st) : wpS (model prog w) A E s (gallopX left key arr base (arr.size - base) hint) Q st := by
  have hd : UpU lt (arr.toList.drop base) := List.Pairwise.sublist (List.drop_sublist _ _) hup
  obtain ⟨K, k1, k2, k3⟩ := stands O hkey hd (fun z hz => hu z (List.mem_of_mem_drop hz)) fun z hz => hne z (List.mem_of_mem_drop hz)
  rw [List.length_drop, Array.length_toList] at k1
  rw [List.drop_drop] at k3
  refine wpS_gallop hc hk hkey (by omega) k1 (fun i hi => ?_) (h K k1 k2 k3)
  obtain ⟨x, hx, hx2, hxm⟩ := arr_at (a := arr) (i := base + i) (by omega)
  have hxu := hu x hxm
  refine ⟨x, hx, hxu, fun _ => ?_, fun _ => ?_⟩
  · by_cases z : i < K
    · rw [decide_eq_true z]
      exact k2 x (List.mem_of_getElem? (i := i) (by rw [List.getElem?_take_of_lt z, List.getElem?_drop]; exact hx2))
    · rw [decide_eq_false z]
      exact O.asym hkey hxu (k3 x (List.mem_of_getElem? (i := i - K) (by rw [List.getElem?_drop, show base + K + (i - K) = base + i by omega]; exact hx2)))
  · by_cases z : K ≤ i
    · rw [decide_eq_true z]
      exact k3 x (List.mem_of_getElem? (i := i - K) (by rw [List.getElem?_drop, show base + K + (i - K) = base + i by omega]; exact hx2))
    · rw [decide_eq_false z]
      exact O.asym hxu hkey (k2 x (List.mem_of_getElem? (i := i) (by rw [List.getElem?_take_of_lt (by omega), List.getElem?_drop]; exact hx2)))
def GoodM (lt : Keyed → Keyed → Bool) (a b : Array Keyed) (st : SortSt) (r : Array Keyed) (st' : SortSt) : Prop := Eqv st st' ∧ r.toList.Perm (a.toList ++ b.toList) ∧ UpU lt r.toList
def StM (lt : Keyed → Keyed → Bool) (a b out : Array Keyed) (ia ib : Nat) : Prop := MrgS lt a.toList b.toList out.toList ia ib ∧ ia + 1 < a.size ∧ ib < b.size
end
end L2

namespace L2
open PySem PySem.W PyProof.Rows
/-! ### two runs merged from below -/
section
variable {prog : Program} {w : World} {A : Around} {E : Value → Shared → Prop} {s : Shared} {κ : SortKind} {U : Keyed → Prop} {lt : Keyed → Keyed → Bool}
def setMGX : Nat → StateT SortSt Sem PUnit := sortPriv% PySem.Builtin.setMinGallop
theorem wpS_mg {g : Nat} {st : SortSt} {Q : PUnit → SortSt → Prop} (h : ∀ st', Eqv st st' → Q ⟨⟩ st') : wpS (model prog w) A E s (setMGX g) Q st := wpS_modify (h _ ⟨rfl, rfl, rfl, rfl⟩)
set_option maxHeartbeats 8000000 in
theorem wpS_mergeLo (hc : CmpU prog w A s κ U lt) (O : OrdU U lt) {st : SortSt} (hk : kindOf st = κ) {a b : Array Keyed} (ha : 1 ≤ a.size) (hb : 1 ≤ b.size) (ua : ∀ x ∈ a.toList, U x) (ub : ∀ x ∈ b.toList, U x) (sa : UpU lt a.toList) (sb : UpU lt b.toList) (ne : ∀ x ∈ a.toList, ∀ y ∈ b.toList, x ≠ y)
    (h0 : ∀ x ∈ a.toList, lt (b[0]'(by omega)) x = true) (hl : ∀ x ∈ b.toList, lt x (a[a.size - 1]'(by omega)) = true)
    {Q : Array Keyed → SortSt → Prop} (h : ∀ (r : Array Keyed) (st' : SortSt), Eqv st st' → r.toList.Perm (a.toList ++ b.toList) → UpU lt r.toList → Q r st') : wpS (model prog w) A E s (mergeLoX a b) Q st := by
  have lenA : a.toList.length = a.size := Array.length_toList
  have lenB : b.toList.length = b.size := Array.length_toList
  have lastA : ∀ ia, ia + 1 = a.size → ∀ x ∈ b.toList, ∀ y ∈ a.toList.drop ia, lt x y = true := fun ia e x hx y hy => by
    have h1 : a.toList[ia]? = some (a[a.size - 1]'(by omega)) := by
      rw [Array.getElem?_toList, Array.getElem?_eq_getElem (show ia < a.size by omega)]
      congr 2
      omega
    rw [drop_one h1, List.drop_of_length_le (by omega)] at hy
    rw [List.mem_singleton.mp hy]
    exact hl x hx
  have done : ∀ {out : Array Keyed} {ia ib : Nat} {st' : SortSt}, MrgS lt a.toList b.toList out.toList ia ib → ib = b.size → Eqv st st' → GoodM lt a b st (out ++ a.extract ia ++ b.extract ib) st' := fun {out ia ib st'} m e ev => by
    obtain ⟨p1, p2⟩ := m.endA sa (by omega)
    have el : (out ++ a.extract ia ++ b.extract ib).toList = out.toList ++ a.toList.drop ia := by
      rw [Array.toList_append, Array.toList_append, ext_all, ext_all, List.drop_of_length_le (by omega : b.toList.length ≤ ib), List.append_nil]
    exact ⟨ev, by rw [el]; exact p1, by rw [el]; exact p2⟩
  have last : ∀ {out : Array Keyed} {ia ib : Nat} {st' : SortSt}, MrgS lt a.toList b.toList out.toList ia ib → ia + 1 = a.size → Eqv st st' → GoodM lt a b st (out ++ b.extract ib ++ a.extract ia) st' := fun {out ia ib st'} m e ev => by
    obtain ⟨p1, p2⟩ := m.endB sa sb (lastA ia e)
    have el : (out ++ b.extract ib ++ a.extract ia).toList = out.toList ++ b.toList.drop ib ++ a.toList.drop ia := by
      rw [Array.toList_append, Array.toList_append, ext_all, ext_all]
    exact ⟨ev, by rw [el]; exact p1, by rw [el]; exact p2⟩
  have pushB : ∀ {out : Array Keyed} {ia ib : Nat} {x : Keyed}, MrgS lt a.toList b.toList out.toList ia ib → b.toList[ib]? = some x → (∀ y ∈ a.toList.drop ia, lt x y = true) → MrgS lt a.toList b.toList (out.push x).toList ia (ib + 1) := fun {out ia ib x} m hx hy => by
    have := m.nextB (k := 1) sb (by rw [take_one hx]; intro z hz; rw [List.mem_singleton.mp hz]; exact hy)
    rw [take_one hx] at this
    rw [Array.toList_push]
    exact this
  have pushA : ∀ {out : Array Keyed} {ia ib : Nat} {x : Keyed}, MrgS lt a.toList b.toList out.toList ia ib → a.toList[ia]? = some x → (∀ y ∈ b.toList.drop ib, lt x y = true) → MrgS lt a.toList b.toList (out.push x).toList (ia + 1) ib := fun {out ia ib x} m hx hy => by
    have := m.nextA (k := 1) sa (by rw [take_one hx]; intro z hz; rw [List.mem_singleton.mp hz]; exact hy)
    rw [take_one hx] at this
    rw [Array.toList_push]
    exact this
  have runA : ∀ {out : Array Keyed} {ia ib k : Nat}, MrgS lt a.toList b.toList out.toList ia ib → (∀ x ∈ (a.toList.drop ia).take k, ∀ y ∈ b.toList.drop ib, lt x y = true) → MrgS lt a.toList b.toList (out ++ a.extract ia (ia + k)).toList (ia + k) ib := fun m hk => by
    rw [Array.toList_append, ext_k]
    exact m.nextA sa hk
  have runB : ∀ {out : Array Keyed} {ia ib k : Nat}, MrgS lt a.toList b.toList out.toList ia ib → (∀ x ∈ (b.toList.drop ib).take k, ∀ y ∈ a.toList.drop ia, lt x y = true) → MrgS lt a.toList b.toList (out ++ b.extract ib (ib + k)).toList ia (ib + k) := fun m hk => by
    rw [Array.toList_append, ext_k]
    exact m.nextB sb hk
  have lastK : ∀ {ia K : Nat} {x : Keyed}, x ∈ b.toList → (∀ y ∈ (a.toList.drop ia).take K, lt y x = true) → ia + 1 < a.size → ia + K < a.size := fun {ia K x} hx h1 h2 => by
    refine Nat.lt_of_not_le fun z => ?_
    have h3 : a.toList[a.size - 1]? = some (a[a.size - 1]'(by omega)) := by
      rw [Array.getElem?_toList, Array.getElem?_eq_getElem (show a.size - 1 < a.size by omega)]
    have h4 := h1 _ (List.mem_of_getElem? (i := a.size - 1 - ia) (by rw [List.getElem?_take_of_lt (by omega), List.getElem?_drop, show ia + (a.size - 1 - ia) = a.size - 1 by omega]; exact h3))
    rw [O.asym (ub x hx) (ua _ (List.mem_of_getElem? h3)) (hl x hx)] at h4
    cases h4
  refine wpS_bind (wpS_lift (wpAny_rule ⟨rfl, ?_⟩))
  dsimp only
  have hb0 : b[0]? = some (b[0]'(by omega)) := Array.getElem?_eq_getElem (by omega)
  refine wpS_bind (wpS_elem hb0 ?_)
  have m0 : MrgS lt a.toList b.toList (#[b[0]'(by omega)] : Array Keyed).toList 0 1 := by
    have hx : b.toList[0]? = some (b[0]'(by omega)) := by rw [Array.getElem?_toList]; exact hb0
    have := pushB (out := #[]) (ia := 0) (ib := 0) ⟨List.Perm.refl _, .nil, (fun x hx => by cases hx), (fun x hx => by cases hx)⟩ hx (fun y hy => h0 y (by simpa using hy))
    exact this
  generalize (#[b[0]'(by omega)] : Array Keyed) = out0 at m0
  by_cases e1 : 1 = b.size
  · rw [if_pos (by rw [← e1]; rfl)]
    obtain ⟨g1, g2, g3⟩ := done m0 e1 (Eqv.refl st)
    exact wpS_pure (h _ _ g1 g2 g3)
  rw [if_neg (fun z => e1 (eq_of_beq z))]
  by_cases e2 : 0 + 1 = a.size
  · rw [if_pos (by rw [← e2]; rfl)]
    obtain ⟨g1, g2, g3⟩ := last m0 e2 (Eqv.refl st)
    exact wpS_pure (h _ _ g1 g2 g3)
  rw [if_neg (fun z => e2 (eq_of_beq z))]
  refine wpS_bind (wpS_get ?_)
  refine wpS_bind (wpS_mono (wpS_forRange (I := fun i c st' => c.1 = none ∧ Eqv st st' ∧ StM lt a b c.2.1 c.2.2.1 c.2.2.2.1 ∧ (a.size - c.2.2.1) + (b.size - c.2.2.2.1) + i ≤ a.size + b.size) (Q := fun c st' => ∃ r, c.1 = some r ∧ GoodM lt a b st r st') ?_ ?_ ⟨rfl, Eqv.refl st, ⟨m0, by show 0 + 1 < a.size; omega, by show 1 < b.size; omega⟩, by show (a.size - 0) + (b.size - 1) + 0 ≤ _; omega⟩) ?_)
  rotate_left
  · rintro ⟨r, out, ia, ib, mg⟩ st' ⟨_, _, hS, hm⟩
    have h1 : ia + 1 < a.size := hS.2.1
    have h2 : (a.size - ia) + (b.size - ib) + max 0 (a.size + b.size) ≤ a.size + b.size := hm
    omega
  · rintro ⟨r, out, ia, ib, mg⟩ st' ⟨r', hr, hg⟩
    have hr' : r = some r' := hr
    subst hr'
    exact wpS_pure (h _ _ hg.1 hg.2.1 hg.2.2)
  rintro i ⟨r, out, ia, ib, mg⟩ st1 _ hi ⟨hr, ev1, hS, hm⟩
  have hr' : r = none := hr
  subst hr'
  have hS : StM lt a b out ia ib := hS
  have hm : (a.size - ia) + (b.size - ib) + i ≤ a.size + b.size := hm
  dsimp only
  refine wpS_bind (wpS_mono (wpS_forRange (I := fun j c st' => c.1 = none ∧ Eqv st st' ∧ StM lt a b c.2.1 c.2.2.1 c.2.2.2.1 ∧ (a.size - c.2.2.1) + (b.size - c.2.2.2.1) + j ≤ (a.size - ia) + (b.size - ib)) (Q := fun c st' => (∃ r, c.1 = some r ∧ GoodM lt a b st r st') ∨ (c.1 = none ∧ Eqv st st' ∧ StM lt a b c.2.1 c.2.2.1 c.2.2.2.1 ∧ (a.size - c.2.2.1) + (b.size - c.2.2.2.1) + 1 ≤ (a.size - ia) + (b.size - ib))) ?_ ?_ ⟨rfl, ev1, hS, Nat.le_refl _⟩) ?_)
  rotate_left
  · rintro ⟨r, out2, ia2, ib2, ac, bc⟩ st' ⟨_, _, hS2, hm2⟩
    have h1 : ia2 + 1 < a.size := hS2.2.1
    have h2 : (a.size - ia2) + (b.size - ib2) + max 0 (a.size + b.size) ≤ (a.size - ia) + (b.size - ib) := hm2
    omega
  rotate_left
  · rintro j ⟨r, o2, ia2, ib2, ac, bc⟩ st2 _ hj ⟨hr2, ev2, hS2, hm2⟩
    have hr2' : r = none := hr2
    subst hr2'
    obtain ⟨m2, b1, b2⟩ : StM lt a b o2 ia2 ib2 := hS2
    have hm2 : (a.size - ia2) + (b.size - ib2) + j ≤ (a.size - ia) + (b.size - ib) := hm2
    obtain ⟨x, hx, hx2, hxm⟩ := arr_at (a := b) (i := ib2) b2
    obtain ⟨y, hy, hy2, hym⟩ := arr_at (a := a) (i := ia2) (by omega)
    dsimp only
    refine wpS_bind (wpS_elem hx (wpS_bind (wpS_elem hy (wpS_bind (wpS_ltU hc (ev2.1.trans hk) (ub x hxm) (ua y hym) ?_)))))
    dsimp only
    cases c : lt x y with
    | true =>
      rw [if_pos rfl]
      refine wpS_bind (wpS_elem hx ?_)
      have m3 := pushB m2 hx2 (head_all O sa ua (ub x hxm) hy2 c)
      by_cases e : ib2 + 1 = b.size
      · rw [if_pos (by rw [e]; exact beq_self_eq_true _)]
        exact wpS_pure (.inl ⟨_, rfl, done m3 e ev2⟩)
      · rw [if_neg (fun z => e (eq_of_beq z))]
        by_cases z : bc + 1 ≥ mg
        · rw [if_pos z]
          exact wpS_pure (.inr ⟨rfl, ev2, ⟨m3, b1, by show ib2 + 1 < b.size; omega⟩, by show (a.size - ia2) + (b.size - (ib2 + 1)) + 1 ≤ _; omega⟩)
        · rw [if_neg z]
          exact wpS_pure ⟨rfl, ev2, ⟨m3, b1, by show ib2 + 1 < b.size; omega⟩, by show (a.size - ia2) + (b.size - (ib2 + 1)) + (j + 1) ≤ _; omega⟩
    | false =>
      rw [if_neg (by decide)]
      refine wpS_bind (wpS_elem hy ?_)
      have c2 := O.tot x y (ub x hxm) (ua y hym) (fun z => ne y hym x hxm z.symm) c
      have m3 := pushA m2 hy2 (head_all O sb ub (ua y hym) hx2 c2)
      by_cases e : ia2 + 1 + 1 = a.size
      · rw [if_pos (by rw [e]; exact beq_self_eq_true _)]
        exact wpS_pure (.inl ⟨_, rfl, last m3 e ev2⟩)
      · rw [if_neg (fun z => e (eq_of_beq z))]
        by_cases z : ac + 1 ≥ mg
        · rw [if_pos z]
          exact wpS_pure (.inr ⟨rfl, ev2, ⟨m3, by show ia2 + 1 + 1 < a.size; omega, b2⟩, by show (a.size - (ia2 + 1)) + (b.size - ib2) + 1 ≤ _; omega⟩)
        · rw [if_neg z]
          exact wpS_pure ⟨rfl, ev2, ⟨m3, by show ia2 + 1 + 1 < a.size; omega, b2⟩, by show (a.size - (ia2 + 1)) + (b.size - ib2) + (j + 1) ≤ _; omega⟩
  rintro ⟨r, o3, ia3, ib3, ac, bc⟩ st3 hQ3
  rcases hQ3 with ⟨r', hr3, hg⟩ | ⟨hr3, ev3, hS3, hm3⟩
  · have hr3' : r = some r' := hr3
    subst hr3'
    exact wpS_pure ⟨r', rfl, hg⟩
  have hr3' : r = none := hr3
  subst hr3'
  have hS3 : StM lt a b o3 ia3 ib3 := hS3
  have hm3 : (a.size - ia3) + (b.size - ib3) + 1 ≤ (a.size - ia) + (b.size - ib) := hm3
  dsimp only
  refine wpS_bind (wpS_lift (wpAny_rule ⟨rfl, ?_⟩))
  refine wpS_bind (wpS_mono (wpS_forRange (I := fun j c st' => c.1 = none ∧ Eqv st st' ∧ StM lt a b c.2.1 c.2.2.1 c.2.2.2.1 ∧ (a.size - c.2.2.1) + (b.size - c.2.2.2.1) + j ≤ (a.size - ia3) + (b.size - ib3)) (Q := fun c st' => (∃ r, c.1 = some r ∧ GoodM lt a b st r st') ∨ (c.1 = none ∧ Eqv st st' ∧ StM lt a b c.2.1 c.2.2.1 c.2.2.2.1 ∧ (a.size - c.2.2.1) + (b.size - c.2.2.2.1) ≤ (a.size - ia3) + (b.size - ib3))) ?_ ?_ ⟨rfl, ev3, hS3, Nat.le_refl _⟩) ?_)
  rotate_left
  · rintro ⟨r, o4, ia4, ib4, mg4, ac4, bc4⟩ st4 ⟨hr4, ev4, hS4, hm4⟩
    have hm4 : (a.size - ia4) + (b.size - ib4) + max 0 (a.size + b.size) ≤ (a.size - ia3) + (b.size - ib3) := hm4
    exact .inr ⟨hr4, ev4, hS4, by show (a.size - ia4) + (b.size - ib4) ≤ _; omega⟩
  · rintro ⟨r, o4, ia4, ib4, mg4, ac4, bc4⟩ st4 hQ4
    rcases hQ4 with ⟨r', hr4, hg⟩ | ⟨hr4, ev4, hS4, hm4⟩
    · have hr4' : r = some r' := hr4
      subst hr4'
      exact wpS_pure ⟨r', rfl, hg⟩
    have hr4' : r = none := hr4
    subst hr4'
    have hm4 : (a.size - ia4) + (b.size - ib4) ≤ (a.size - ia3) + (b.size - ib3) := hm4
    dsimp only
    refine wpS_bind (wpS_mg fun st5 ev5 => ?_)
    exact wpS_pure ⟨rfl, ev4.trans ev5, hS4, by show (a.size - ia4) + (b.size - ib4) + (i + 1) ≤ _; omega⟩
  rintro j ⟨r, o4, ia4, ib4, mg4, ac4, bc4⟩ st4 _ hj ⟨hr4, ev4, hS4, hm4⟩
  have hr4' : r = none := hr4
  subst hr4'
  obtain ⟨m4, b1, b2⟩ : StM lt a b o4 ia4 ib4 := hS4
  have hm4 : (a.size - ia4) + (b.size - ib4) + j ≤ (a.size - ia3) + (b.size - ib3) := hm4
  obtain ⟨x, hx, hx2, hxm⟩ := arr_at (a := b) (i := ib4) b2
  dsimp only
  by_cases z : mg4 > 1
  · rw [if_pos z]
    refine wpS_bind (wpS_mg fun st5 ev45 => ?_)
    have ev5 := ev4.trans ev45
    refine wpS_bind (wpS_elem hx ?_)
    refine wpS_bind (wpS_gal hc O (ev5.1.trans hk) (ub x hxm) (by omega) ua sa (fun z hz => ne z hz x hxm) fun K k1 k2 k3 => ?_)
    have kl := lastK hxm k2 b1
    dsimp only
    by_cases zk : K > 0
    · rw [if_pos zk]
      have m5 := runA (k := K) m4 (fun x' hx' => head_all O sb ub (ua x' (List.mem_of_mem_drop (List.mem_of_mem_take hx'))) hx2 (k2 x' hx'))
      have h5 := k3
      by_cases e5 : ia4 + K + 1 = a.size
      · rw [if_pos (by rw [e5]; exact beq_self_eq_true _)]
        exact wpS_pure (.inl ⟨_, rfl, last m5 e5 ev5⟩)
      rw [if_neg (fun z => e5 (eq_of_beq z)), if_neg (fun z => Nat.ne_of_lt kl (eq_of_beq z))]
      refine wpS_bind (wpS_elem hx ?_)
      have m6 := pushB m5 hx2 h5
      by_cases e6 : ib4 + 1 = b.size
      · rw [if_pos (by rw [e6]; exact beq_self_eq_true _)]
        exact wpS_pure (.inl ⟨_, rfl, done m6 e6 ev5⟩)
      rw [if_neg (fun z => e6 (eq_of_beq z))]
      obtain ⟨y, hy, hy2, hym⟩ := arr_at (a := a) (i := (ia4 + K)) (by omega)
      refine wpS_bind (wpS_elem hy ?_)
      refine wpS_bind (wpS_gal hc O (ev5.1.trans hk) (ua y hym) (by omega) ub sb (fun z hz => (ne y hym z hz).symm) fun K2 q1 q2 q3 => ?_)
      dsimp only
      by_cases zk2 : K2 > 0
      · rw [if_pos zk2]
        have m7 := runB (k := K2) m6 (fun x' hx' => head_all O sa ua (ub x' (List.mem_of_mem_drop (List.mem_of_mem_take hx'))) hy2 (q2 x' hx'))
        have h7 := q3
        by_cases e7 : ib4 + 1 + K2 = b.size
        · rw [if_pos (by rw [e7]; exact beq_self_eq_true _)]
          exact wpS_pure (.inl ⟨_, rfl, done m7 e7 ev5⟩)
        rw [if_neg (fun z => e7 (eq_of_beq z))]
        refine wpS_bind (wpS_elem hy ?_)
        have m8 := pushA m7 hy2 h7
        by_cases e8 : (ia4 + K) + 1 + 1 = a.size
        · rw [if_pos (by rw [e8]; exact beq_self_eq_true _)]
          exact wpS_pure (.inl ⟨_, rfl, last m8 e8 ev5⟩)
        rw [if_neg (fun z => e8 (eq_of_beq z))]
        split
        · exact wpS_pure (.inr ⟨rfl, ev5, ⟨m8, by show (ia4 + K) + 1 + 1 < a.size; omega, by show (ib4 + 1 + K2) < b.size; omega⟩, by show (a.size - ((ia4 + K) + 1)) + (b.size - (ib4 + 1 + K2)) ≤ _; omega⟩)
        · exact wpS_pure ⟨rfl, ev5, ⟨m8, by show (ia4 + K) + 1 + 1 < a.size; omega, by show (ib4 + 1 + K2) < b.size; omega⟩, by show (a.size - ((ia4 + K) + 1)) + (b.size - (ib4 + 1 + K2)) + (j + 1) ≤ _; omega⟩
      · rw [if_neg zk2]
        have m7 := m6
        have h7 : ∀ x' ∈ b.toList.drop (ib4 + 1), lt y x' = true := by
          have h7' := q3
          rw [show ib4 + 1 + K2 = ib4 + 1 by omega] at h7'
          exact h7'
        refine wpS_bind (wpS_elem hy ?_)
        have m8 := pushA m7 hy2 h7
        by_cases e8 : (ia4 + K) + 1 + 1 = a.size
        · rw [if_pos (by rw [e8]; exact beq_self_eq_true _)]
          exact wpS_pure (.inl ⟨_, rfl, last m8 e8 ev5⟩)
        rw [if_neg (fun z => e8 (eq_of_beq z))]
        split
        · exact wpS_pure (.inr ⟨rfl, ev5, ⟨m8, by show (ia4 + K) + 1 + 1 < a.size; omega, by show (ib4 + 1) < b.size; omega⟩, by show (a.size - ((ia4 + K) + 1)) + (b.size - (ib4 + 1)) ≤ _; omega⟩)
        · exact wpS_pure ⟨rfl, ev5, ⟨m8, by show (ia4 + K) + 1 + 1 < a.size; omega, by show (ib4 + 1) < b.size; omega⟩, by show (a.size - ((ia4 + K) + 1)) + (b.size - (ib4 + 1)) + (j + 1) ≤ _; omega⟩
    · rw [if_neg zk]
      have m5 := m4
      have h5 : ∀ y ∈ a.toList.drop ia4, lt x y = true := by
        have h5' := k3
        rw [show ia4 + K = ia4 by omega] at h5'
        exact h5'
      refine wpS_bind (wpS_elem hx ?_)
      have m6 := pushB m5 hx2 h5
      by_cases e6 : ib4 + 1 = b.size
      · rw [if_pos (by rw [e6]; exact beq_self_eq_true _)]
        exact wpS_pure (.inl ⟨_, rfl, done m6 e6 ev5⟩)
      rw [if_neg (fun z => e6 (eq_of_beq z))]
      obtain ⟨y, hy, hy2, hym⟩ := arr_at (a := a) (i := ia4) (by omega)
      refine wpS_bind (wpS_elem hy ?_)
      refine wpS_bind (wpS_gal hc O (ev5.1.trans hk) (ua y hym) (by omega) ub sb (fun z hz => (ne y hym z hz).symm) fun K2 q1 q2 q3 => ?_)
      dsimp only
      by_cases zk2 : K2 > 0
      · rw [if_pos zk2]
        have m7 := runB (k := K2) m6 (fun x' hx' => head_all O sa ua (ub x' (List.mem_of_mem_drop (List.mem_of_mem_take hx'))) hy2 (q2 x' hx'))
        have h7 := q3
        by_cases e7 : ib4 + 1 + K2 = b.size
        · rw [if_pos (by rw [e7]; exact beq_self_eq_true _)]
          exact wpS_pure (.inl ⟨_, rfl, done m7 e7 ev5⟩)
        rw [if_neg (fun z => e7 (eq_of_beq z))]
        refine wpS_bind (wpS_elem hy ?_)
        have m8 := pushA m7 hy2 h7
        by_cases e8 : ia4 + 1 + 1 = a.size
        · rw [if_pos (by rw [e8]; exact beq_self_eq_true _)]
          exact wpS_pure (.inl ⟨_, rfl, last m8 e8 ev5⟩)
        rw [if_neg (fun z => e8 (eq_of_beq z))]
        split
        · exact wpS_pure (.inr ⟨rfl, ev5, ⟨m8, by show ia4 + 1 + 1 < a.size; omega, by show (ib4 + 1 + K2) < b.size; omega⟩, by show (a.size - (ia4 + 1)) + (b.size - (ib4 + 1 + K2)) ≤ _; omega⟩)
        · exact wpS_pure ⟨rfl, ev5, ⟨m8, by show ia4 + 1 + 1 < a.size; omega, by show (ib4 + 1 + K2) < b.size; omega⟩, by show (a.size - (ia4 + 1)) + (b.size - (ib4 + 1 + K2)) + (j + 1) ≤ _; omega⟩
      · rw [if_neg zk2]
        have m7 := m6
        have h7 : ∀ x' ∈ b.toList.drop (ib4 + 1), lt y x' = true := by
          have h7' := q3
          rw [show ib4 + 1 + K2 = ib4 + 1 by omega] at h7'
          exact h7'
        refine wpS_bind (wpS_elem hy ?_)
        have m8 := pushA m7 hy2 h7
        by_cases e8 : ia4 + 1 + 1 = a.size
        · rw [if_pos (by rw [e8]; exact beq_self_eq_true _)]
          exact wpS_pure (.inl ⟨_, rfl, last m8 e8 ev5⟩)
        rw [if_neg (fun z => e8 (eq_of_beq z))]
        split
        · exact wpS_pure (.inr ⟨rfl, ev5, ⟨m8, by show ia4 + 1 + 1 < a.size; omega, by show (ib4 + 1) < b.size; omega⟩, by show (a.size - (ia4 + 1)) + (b.size - (ib4 + 1)) ≤ _; omega⟩)
        · exact wpS_pure ⟨rfl, ev5, ⟨m8, by show ia4 + 1 + 1 < a.size; omega, by show (ib4 + 1) < b.size; omega⟩, by show (a.size - (ia4 + 1)) + (b.size - (ib4 + 1)) + (j + 1) ≤ _; omega⟩
  · rw [if_neg z]
    refine wpS_bind (wpS_mg fun st5 ev45 => ?_)
    have ev5 := ev4.trans ev45
    refine wpS_bind (wpS_elem hx ?_)
    refine wpS_bind (wpS_gal hc O (ev5.1.trans hk) (ub x hxm) (by omega) ua sa (fun z hz => ne z hz x hxm) fun K k1 k2 k3 => ?_)
    have kl := lastK hxm k2 b1
    dsimp only
    by_cases zk : K > 0
    · rw [if_pos zk]
      have m5 := runA (k := K) m4 (fun x' hx' => head_all O sb ub (ua x' (List.mem_of_mem_drop (List.mem_of_mem_take hx'))) hx2 (k2 x' hx'))
      have h5 := k3
      by_cases e5 : ia4 + K + 1 = a.size
      · rw [if_pos (by rw [e5]; exact beq_self_eq_true _)]
        exact wpS_pure (.inl ⟨_, rfl, last m5 e5 ev5⟩)
      rw [if_neg (fun z => e5 (eq_of_beq z)), if_neg (fun z => Nat.ne_of_lt kl (eq_of_beq z))]
      refine wpS_bind (wpS_elem hx ?_)
      have m6 := pushB m5 hx2 h5
      by_cases e6 : ib4 + 1 = b.size
      · rw [if_pos (by rw [e6]; exact beq_self_eq_true _)]
        exact wpS_pure (.inl ⟨_, rfl, done m6 e6 ev5⟩)
      rw [if_neg (fun z => e6 (eq_of_beq z))]
      obtain ⟨y, hy, hy2, hym⟩ := arr_at (a := a) (i := (ia4 + K)) (by omega)
      refine wpS_bind (wpS_elem hy ?_)
      refine wpS_bind (wpS_gal hc O (ev5.1.trans hk) (ua y hym) (by omega) ub sb (fun z hz => (ne y hym z hz).symm) fun K2 q1 q2 q3 => ?_)
      dsimp only
      by_cases zk2 : K2 > 0
      · rw [if_pos zk2]
        have m7 := runB (k := K2) m6 (fun x' hx' => head_all O sa ua (ub x' (List.mem_of_mem_drop (List.mem_of_mem_take hx'))) hy2 (q2 x' hx'))
        have h7 := q3
        by_cases e7 : ib4 + 1 + K2 = b.size
        · rw [if_pos (by rw [e7]; exact beq_self_eq_true _)]
          exact wpS_pure (.inl ⟨_, rfl, done m7 e7 ev5⟩)
        rw [if_neg (fun z => e7 (eq_of_beq z))]
        refine wpS_bind (wpS_elem hy ?_)
        have m8 := pushA m7 hy2 h7
        by_cases e8 : (ia4 + K) + 1 + 1 = a.size
        · rw [if_pos (by rw [e8]; exact beq_self_eq_true _)]
          exact wpS_pure (.inl ⟨_, rfl, last m8 e8 ev5⟩)
        rw [if_neg (fun z => e8 (eq_of_beq z))]
        split
        · exact wpS_pure (.inr ⟨rfl, ev5, ⟨m8, by show (ia4 + K) + 1 + 1 < a.size; omega, by show (ib4 + 1 + K2) < b.size; omega⟩, by show (a.size - ((ia4 + K) + 1)) + (b.size - (ib4 + 1 + K2)) ≤ _; omega⟩)
        · exact wpS_pure ⟨rfl, ev5, ⟨m8, by show (ia4 + K) + 1 + 1 < a.size; omega, by show (ib4 + 1 + K2) < b.size; omega⟩, by show (a.size - ((ia4 + K) + 1)) + (b.size - (ib4 + 1 + K2)) + (j + 1) ≤ _; omega⟩
      · rw [if_neg zk2]
        have m7 := m6
        have h7 : ∀ x' ∈ b.toList.drop (ib4 + 1), lt y x' = true := by
          have h7' := q3
          rw [show ib4 + 1 + K2 = ib4 + 1 by omega] at h7'
          exact h7'
        refine wpS_bind (wpS_elem hy ?_)
        have m8 := pushA m7 hy2 h7
        by_cases e8 : (ia4 + K) + 1 + 1 = a.size
        · rw [if_pos (by rw [e8]; exact beq_self_eq_true _)]
          exact wpS_pure (.inl ⟨_, rfl, last m8 e8 ev5⟩)
        rw [if_neg (fun z => e8 (eq_of_beq z))]
        split
        · exact wpS_pure (.inr ⟨rfl, ev5, ⟨m8, by show (ia4 + K) + 1 + 1 < a.size; omega, by show (ib4 + 1) < b.size; omega⟩, by show (a.size - ((ia4 + K) + 1)) + (b.size - (ib4 + 1)) ≤ _; omega⟩)
        · exact wpS_pure ⟨rfl, ev5, ⟨m8, by show (ia4 + K) + 1 + 1 < a.size; omega, by show (ib4 + 1) < b.size; omega⟩, by show (a.size - ((ia4 + K) + 1)) + (b.size - (ib4 + 1)) + (j + 1) ≤ _; omega⟩
    · rw [if_neg zk]
      have m5 := m4
      have h5 : ∀ y ∈ a.toList.drop ia4, lt x y = true := by
        have h5' := k3
        rw [show ia4 + K = ia4 by omega] at h5'
        exact h5'
      refine wpS_bind (wpS_elem hx ?_)
      have m6 := pushB m5 hx2 h5
      by_cases e6 : ib4 + 1 = b.size
      · rw [if_pos (by rw [e6]; exact beq_self_eq_true _)]
        exact wpS_pure (.inl ⟨_, rfl, done m6 e6 ev5⟩)
      rw [if_neg (fun z => e6 (eq_of_beq z))]
      obtain ⟨y, hy, hy2, hym⟩ := arr_at (a := a) (i := ia4) (by omega)
      refine wpS_bind (wpS_elem hy ?_)
      refine wpS_bind (wpS_gal hc O (ev5.1.trans hk) (ua y hym) (by omega) ub sb (fun z hz => (ne y hym z hz).symm) fun K2 q1 q2 q3 => ?_)
      dsimp only
      by_cases zk2 : K2 > 0
      · rw [if_pos zk2]
        have m7 := runB (k := K2) m6 (fun x' hx' => head_all O sa ua (ub x' (List.mem_of_mem_drop (List.mem_of_mem_take hx'))) hy2 (q2 x' hx'))
        have h7 := q3
        by_cases e7 : ib4 + 1 + K2 = b.size
        · rw [if_pos (by rw [e7]; exact beq_self_eq_true _)]
          exact wpS_pure (.inl ⟨_, rfl, done m7 e7 ev5⟩)
        rw [if_neg (fun z => e7 (eq_of_beq z))]
        refine wpS_bind (wpS_elem hy ?_)
        have m8 := pushA m7 hy2 h7
        by_cases e8 : ia4 + 1 + 1 = a.size
        · rw [if_pos (by rw [e8]; exact beq_self_eq_true _)]
          exact wpS_pure (.inl ⟨_, rfl, last m8 e8 ev5⟩)
        rw [if_neg (fun z => e8 (eq_of_beq z))]
        split
        · exact wpS_pure (.inr ⟨rfl, ev5, ⟨m8, by show ia4 + 1 + 1 < a.size; omega, by show (ib4 + 1 + K2) < b.size; omega⟩, by show (a.size - (ia4 + 1)) + (b.size - (ib4 + 1 + K2)) ≤ _; omega⟩)
        · exact wpS_pure ⟨rfl, ev5, ⟨m8, by show ia4 + 1 + 1 < a.size; omega, by show (ib4 + 1 + K2) < b.size; omega⟩, by show (a.size - (ia4 + 1)) + (b.size - (ib4 + 1 + K2)) + (j + 1) ≤ _; omega⟩
      · rw [if_neg zk2]
        have m7 := m6
        have h7 : ∀ x' ∈ b.toList.drop (ib4 + 1), lt y x' = true := by
          have h7' := q3
          rw [show ib4 + 1 + K2 = ib4 + 1 by omega] at h7'
          exact h7'
        refine wpS_bind (wpS_elem hy ?_)
        have m8 := pushA m7 hy2 h7
        by_cases e8 : ia4 + 1 + 1 = a.size
        · rw [if_pos (by rw [e8]; exact beq_self_eq_true _)]
          exact wpS_pure (.inl ⟨_, rfl, last m8 e8 ev5⟩)
        rw [if_neg (fun z => e8 (eq_of_beq z))]
        split
        · exact wpS_pure (.inr ⟨rfl, ev5, ⟨m8, by show ia4 + 1 + 1 < a.size; omega, by show (ib4 + 1) < b.size; omega⟩, by show (a.size - (ia4 + 1)) + (b.size - (ib4 + 1)) ≤ _; omega⟩)
        · exact wpS_pure ⟨rfl, ev5, ⟨m8, by show ia4 + 1 + 1 < a.size; omega, by show (ib4 + 1) < b.size; omega⟩, by show (a.size - (ia4 + 1)) + (b.size - (ib4 + 1)) + (j + 1) ≤ _; omega⟩
end
end L2

namespace L2
open PySem PySem.W PyProof.Rows
/-! ### two runs merged from above: what is laid -/
def mergeHiX : Array Keyed → Array Keyed → StateT SortSt Sem (Array Keyed) := sortPriv% PySem.Builtin.mergeHi
section
variable {prog : Program} {w : World} {A : Around} {E : Value → Shared → Prop} {s : Shared} {κ : SortKind} {U : Keyed → Prop} {lt : Keyed → Keyed → Bool}
structure MrgH (lt : Keyed → Keyed → Bool) (a b : List Keyed) (o : List Keyed) (na nb : Nat) : Prop where
  perm : o.Perm (a.drop na ++ b.drop nb)
  up : UpU lt o.reverse
  la : ∀ x ∈ o, ∀ y ∈ a.take na, lt y x = true
  lb : ∀ x ∈ o, ∀ y ∈ b.take nb, lt y x = true
theorem cutK (a : List Keyed) {k n : Nat} (hk : k ≤ n) : a.take n = a.take k ++ (a.take n).drop k := by
  have h := (List.take_append_drop k (a.take n)).symm
  rwa [List.take_take, Nat.min_eq_left hk] at h
theorem cutD (a : List Keyed) {k n : Nat} (hk : k ≤ n) (hn : n ≤ a.length) : a.drop k = (a.take n).drop k ++ a.drop n := by
  have h := congrArg (List.drop k) (List.take_append_drop n a).symm
  rwa [List.drop_append_of_le_length (by rw [List.length_take]; omega)] at h
theorem MrgH.nextA {a b o : List Keyed} {na nb k : Nat} (h : MrgH lt a b o na nb) (ha : UpU lt a) (hn : na ≤ a.length) (hkn : k ≤ na) (hk : ∀ x ∈ (a.take na).drop k, ∀ y ∈ b.take nb, lt y x = true) : MrgH lt a b (o ++ ((a.take na).drop k).reverse) k nb := by
  have hd : UpU lt (a.take na) := List.Pairwise.sublist (List.take_sublist _ _) ha
  have hc := cutK a hkn
  refine ⟨?_, ?_, ?_, ?_⟩
  · rw [cutD a hkn hn]
    refine (List.Perm.append h.perm (List.reverse_perm _)).trans ?_
    refine List.perm_append_comm.trans ?_
    rw [List.append_assoc]
  · rw [List.reverse_append, List.reverse_reverse]
    exact List.pairwise_append.mpr ⟨List.Pairwise.sublist (List.drop_sublist _ _) hd, h.up, fun x hx y hy => h.la y (List.mem_reverse.mp hy) x (List.mem_of_mem_drop hx)⟩
  · intro x hx y hy
    rcases List.mem_append.mp hx with hx | hx
    · exact h.la x hx y (by rw [hc]; exact List.mem_append_left _ hy)
    · have hd' := hd
      rw [hc] at hd'
      exact (List.pairwise_append.mp hd').2.2 y hy x (List.mem_reverse.mp hx)
  · intro x hx y hy
    rcases List.mem_append.mp hx with hx | hx
    · exact h.lb x hx y hy
    · exact hk x (List.mem_reverse.mp hx) y hy
theorem MrgH.swap {a b o : List Keyed} {na nb : Nat} (h : MrgH lt a b o na nb) : MrgH lt b a o nb na := ⟨h.perm.trans List.perm_append_comm, h.up, h.lb, h.la⟩
theorem MrgH.nextB {a b o : List Keyed} {na nb k : Nat} (h : MrgH lt a b o na nb) (hb : UpU lt b) (hn : nb ≤ b.length) (hkn : k ≤ nb) (hk : ∀ x ∈ (b.take nb).drop k, ∀ y ∈ a.take na, lt y x = true) : MrgH lt a b (o ++ ((b.take nb).drop k).reverse) na k := (h.swap.nextA hb hn hkn hk).swap
/-- all of a is laid: the rest of b before it -/
theorem MrgH.endA {a b o : List Keyed} {nb : Nat} (h : MrgH lt a b o 0 nb) (hb : UpU lt b) : (b.take nb ++ o.reverse).Perm (a ++ b) ∧ UpU lt (b.take nb ++ o.reverse) := by
  refine ⟨?_, List.pairwise_append.mpr ⟨List.Pairwise.sublist (List.take_sublist _ _) hb, h.up, fun x hx y hy => h.lb y (List.mem_reverse.mp hy) x hx⟩⟩
  refine (List.Perm.append_left _ ((List.reverse_perm _).trans h.perm)).trans ?_
  refine (List.perm_append_comm_assoc _ _ _).trans ?_
  rw [List.take_append_drop]
  exact List.Perm.refl _
/-- the rest of b, then the rest of a, which is greater than it -/
theorem MrgH.endB {a b o : List Keyed} {na nb : Nat} (h : MrgH lt a b o na nb) (ha : UpU lt a) (hb : UpU lt b) (hg : ∀ x ∈ b.take nb, ∀ y ∈ a, lt x y = true) : (b.take nb ++ a.take na ++ o.reverse).Perm (a ++ b) ∧ UpU lt (b.take nb ++ a.take na ++ o.reverse) := by
  refine ⟨?_, List.pairwise_append.mpr ⟨List.pairwise_append.mpr ⟨List.Pairwise.sublist (List.take_sublist _ _) hb, List.Pairwise.sublist (List.take_sublist _ _) ha, fun x hx y hy => hg x hx y (List.mem_of_mem_take hy)⟩, h.up, fun x hx y hy => ?_⟩⟩
  · refine (List.Perm.append_left _ ((List.reverse_perm _).trans h.perm)).trans ?_
    rw [List.append_assoc, ← List.append_assoc (List.take na a), List.take_append_drop]
    refine (List.perm_append_comm_assoc _ _ _).trans ?_
    rw [List.take_append_drop]
  · rcases List.mem_append.mp hx with hx | hx
    · exact h.lb y (List.mem_reverse.mp hy) x hx
    · exact h.la y (List.mem_reverse.mp hy) x hx
theorem ext_0 (a : Array Keyed) (k : Nat) : (a.extract 0 k).toList = a.toList.take k := by
  rw [Array.toList_extract]
  rfl
theorem ext_r (a : Array Keyed) (k n : Nat) : (a.extract k n).reverse.toList = ((a.toList.take n).drop k).reverse := by
  rw [Array.toList_reverse, Array.toList_extract, List.drop_take]
theorem top_one {l : List Keyed} {n : Nat} {x : Keyed} (hn : 1 ≤ n) (h : l[n - 1]? = some x) : (l.take n).drop (n - 1) = [x] := by
  rw [List.drop_take, show n - (n - 1) = 1 by omega]
  exact take_one h
theorem tail_all (O : OrdU U lt) {l : List Keyed} (hl : UpU lt l) (ul : ∀ z ∈ l, U z) {x y : Keyed} {n : Nat} (hx : U x) (hn : 1 ≤ n) (hy : l[n - 1]? = some y) (h : lt y x = true) : ∀ z ∈ l.take n, lt z x = true := fun z hz => by
  have hd : UpU lt (l.take n) := List.Pairwise.sublist (List.take_sublist _ _) hl
  have hz' : z ∈ l := List.mem_of_mem_take hz
  rw [cutK l (Nat.sub_le n 1), top_one hn hy] at hz hd
  rcases List.mem_append.mp hz with hz | hz
  · exact O.tr z y x (ul z hz') (ul y (List.mem_of_getElem? hy)) hx ((List.pairwise_append.mp hd).2.2 z hz y List.mem_cons_self) h
  · rw [List.mem_singleton.mp hz]
    exact h
/-- gallop over a stretch of an array -/
theorem wpS_galG (hc : CmpU prog w A s κ U lt) (O : OrdU U lt) {st : SortSt} (hk : kindOf st = κ) {left : Bool} {key : Keyed} {arr : Array Keyed} {base n hint : Nat} (hkey : U key) (hb : base + n ≤ arr.size) (hh : hint < n) (hu : ∀ z ∈ (arr.toList.drop base).take n, U z) (hup : UpU lt ((arr.toList.drop base).take n)) (hne : ∀ z ∈ (arr.toList.drop base).take n, z ≠ key)
    {Q : Option Nat → SortSt → Prop} (h : ∀ K, K ≤ n → (∀ x ∈ (arr.toList.drop base).take K, lt x key = true) → (∀ x ∈ ((arr.toList.drop base).take n).drop K, lt key x = true) → Q (some K) st) : wpS (model prog w) A E s (gallopX left key arr base n hint) Q st := by
  obtain ⟨K, k1, k2, k3⟩ := stands O hkey hup hu hne
  rw [List.length_take, List.length_drop, Array.length_toList] at k1
  have k1' : K ≤ n := by omega
  rw [List.take_take, Nat.min_eq_left k1'] at k2
  refine wpS_gallop hc hk hkey hh k1' (fun i hi => ?_) (h K k1' k2 k3)
  obtain ⟨x, hx, hx2, hxm⟩ := arr_at (a := arr) (i := base + i) (by omega)
  have hx3 : ((arr.toList.drop base).take n)[i]? = some x := by rw [List.getElem?_take_of_lt hi, List.getElem?_drop]; exact hx2
  have hxu := hu x (List.mem_of_getElem? hx3)
  refine ⟨x, hx, hxu, fun _ => ?_, fun _ => ?_⟩
  · by_cases z : i < K
    · rw [decide_eq_true z]
      exact k2 x (List.mem_of_getElem? (i := i) (by rw [List.getElem?_take_of_lt z, List.getElem?_drop]; exact hx2))
    · rw [decide_eq_false z]
      exact O.asym hkey hxu (k3 x (List.mem_of_getElem? (i := i - K) (by rw [List.getElem?_drop, show K + (i - K) = i by omega]; exact hx3)))
  · by_cases z : K ≤ i
    · rw [decide_eq_true z]
      exact k3 x (List.mem_of_getElem? (i := i - K) (by rw [List.getElem?_drop, show K + (i - K) = i by omega]; exact hx3))
    · rw [decide_eq_false z]
      exact O.asym hxu hkey (k2 x (List.mem_of_getElem? (i := i) (by rw [List.getElem?_take_of_lt (by omega), List.getElem?_drop]; exact hx2)))
def StH (lt : Keyed → Keyed → Bool) (a b out : Array Keyed) (na nb : Nat) : Prop := MrgH lt a.toList b.toList out.toList na nb ∧ (1 ≤ na ∧ na ≤ a.size) ∧ 2 ≤ nb ∧ nb ≤ b.size
end
end L2

namespace L2
open PySem PySem.W PyProof.Rows
/-! ### two runs merged from above -/
section
variable {prog : Program} {w : World} {A : Around} {E : Value → Shared → Prop} {s : Shared} {κ : SortKind} {U : Keyed → Prop} {lt : Keyed → Keyed → Bool}
set_option maxHeartbeats 8000000 in
theorem wpS_mergeHi (hc : CmpU prog w A s κ U lt) (O : OrdU U lt) {st : SortSt} (hk : kindOf st = κ) {a b : Array Keyed} (ha : 1 ≤ a.size) (hb : 1 ≤ b.size) (ua : ∀ x ∈ a.toList, U x) (ub : ∀ x ∈ b.toList, U x) (sa : UpU lt a.toList) (sb : UpU lt b.toList) (ne : ∀ x ∈ a.toList, ∀ y ∈ b.toList, x ≠ y)
    (h0 : ∀ x ∈ a.toList, lt (b[0]'(by omega)) x = true) (hl : ∀ x ∈ b.toList, lt x (a[a.size - 1]'(by omega)) = true)
    {Q : Array Keyed → SortSt → Prop} (h : ∀ (r : Array Keyed) (st' : SortSt), Eqv st st' → r.toList.Perm (a.toList ++ b.toList) → UpU lt r.toList → Q r st') : wpS (model prog w) A E s (mergeHiX a b) Q st := by
  have lenA : a.toList.length = a.size := Array.length_toList
  have lenB : b.toList.length = b.size := Array.length_toList
  have b0 : b.toList[0]? = some (b[0]'(by omega)) := by
    rw [Array.getElem?_toList, Array.getElem?_eq_getElem (show 0 < b.size by omega)]
  have firstB : ∀ x ∈ b.toList.take 1, ∀ y ∈ a.toList, lt x y = true := fun x hx y hy => by
    have h1 : b.toList.take 1 = [b[0]'(by omega)] := take_one (i := 0) b0
    rw [h1] at hx
    rw [List.mem_singleton.mp hx]
    exact h0 y hy
  have done : ∀ {out : Array Keyed} {na nb : Nat} {st' : SortSt}, MrgH lt a.toList b.toList out.toList na nb → na = 0 → Eqv st st' → GoodM lt a b st (a.extract 0 na ++ b.extract 0 nb ++ out.reverse) st' := fun {out na nb st'} m e ev => by
    subst e
    obtain ⟨p1, p2⟩ := m.endA sb
    have el : (a.extract 0 0 ++ b.extract 0 nb ++ out.reverse).toList = b.toList.take nb ++ out.toList.reverse := by
      rw [Array.toList_append, Array.toList_append, ext_0, ext_0, Array.toList_reverse]
      rfl
    exact ⟨ev, by rw [el]; exact p1, by rw [el]; exact p2⟩
  have last : ∀ {out : Array Keyed} {na nb : Nat} {st' : SortSt}, MrgH lt a.toList b.toList out.toList na nb → nb = 1 → Eqv st st' → GoodM lt a b st (b.extract 0 nb ++ a.extract 0 na ++ out.reverse) st' := fun {out na nb st'} m e ev => by
    subst e
    obtain ⟨p1, p2⟩ := m.endB sa sb firstB
    have el : (b.extract 0 1 ++ a.extract 0 na ++ out.reverse).toList = b.toList.take 1 ++ a.toList.take na ++ out.toList.reverse := by
      rw [Array.toList_append, Array.toList_append, ext_0, ext_0, Array.toList_reverse]
    exact ⟨ev, by rw [el]; exact p1, by rw [el]; exact p2⟩
  have pushA : ∀ {out : Array Keyed} {na nb : Nat} {x : Keyed}, MrgH lt a.toList b.toList out.toList na nb → 1 ≤ na → na ≤ a.size → a.toList[na - 1]? = some x → (∀ y ∈ b.toList.take nb, lt y x = true) → MrgH lt a.toList b.toList (out.push x).toList (na - 1) nb := fun {out na nb x} m h1 h2 hx hy => by
    have := m.nextA (k := na - 1) sa (by omega) (by omega) (by rw [top_one h1 hx]; intro z hz; rw [List.mem_singleton.mp hz]; exact hy)
    rw [top_one h1 hx] at this
    rw [Array.toList_push]
    exact this
  have pushB : ∀ {out : Array Keyed} {na nb : Nat} {x : Keyed}, MrgH lt a.toList b.toList out.toList na nb → 1 ≤ nb → nb ≤ b.size → b.toList[nb - 1]? = some x → (∀ y ∈ a.toList.take na, lt y x = true) → MrgH lt a.toList b.toList (out.push x).toList na (nb - 1) := fun {out na nb x} m h1 h2 hx hy => by
    have := m.nextB (k := nb - 1) sb (by omega) (by omega) (by rw [top_one h1 hx]; intro z hz; rw [List.mem_singleton.mp hz]; exact hy)
    rw [top_one h1 hx] at this
    rw [Array.toList_push]
    exact this
  have runA : ∀ {out : Array Keyed} {na nb k : Nat}, MrgH lt a.toList b.toList out.toList na nb → na ≤ a.size → k ≤ na → (∀ x ∈ (a.toList.take na).drop k, ∀ y ∈ b.toList.take nb, lt y x = true) → MrgH lt a.toList b.toList (out ++ (a.extract k na).reverse).toList k nb := fun m h1 h2 hk => by
    rw [Array.toList_append, ext_r]
    exact m.nextA sa (by omega) h2 hk
  have runB : ∀ {out : Array Keyed} {na nb k : Nat}, MrgH lt a.toList b.toList out.toList na nb → nb ≤ b.size → k ≤ nb → (∀ x ∈ (b.toList.take nb).drop k, ∀ y ∈ a.toList.take na, lt y x = true) → MrgH lt a.toList b.toList (out ++ (b.extract k nb).reverse).toList na k := fun m h1 h2 hk => by
    rw [Array.toList_append, ext_r]
    exact m.nextB sb (by omega) h2 hk
  have firstK : ∀ {n K : Nat} {y : Keyed}, y ∈ a.toList → K ≤ n → 1 ≤ n → (∀ x ∈ (b.toList.take n).drop K, lt y x = true) → 0 < K := fun {n K y} hy h1 h2 h3 => by
    refine Nat.pos_of_ne_zero fun z => ?_
    subst z
    have h4 := h3 (b[0]'(by omega)) (List.mem_of_getElem? (i := 0) (by rw [List.drop_zero, List.getElem?_take_of_lt (by omega)]; exact b0))
    rw [O.asym (ub _ (List.mem_of_getElem? b0)) (ua y hy) (h0 y hy)] at h4
    cases h4
  refine wpS_bind (wpS_lift (wpAny_rule ⟨rfl, ?_⟩))
  dsimp only
  have ha0 : a[a.size - 1]? = some (a[a.size - 1]'(by omega)) := Array.getElem?_eq_getElem (by omega)
  refine wpS_bind (wpS_elem ha0 ?_)
  have m0 : MrgH lt a.toList b.toList (#[a[a.size - 1]'(by omega)] : Array Keyed).toList (a.size - 1) b.size := by
    have hx : a.toList[a.size - 1]? = some (a[a.size - 1]'(by omega)) := by rw [Array.getElem?_toList]; exact ha0
    have := pushA (out := #[]) (na := a.size) (nb := b.size) ⟨by rw [List.drop_of_length_le (by omega), List.drop_of_length_le (by omega)]; exact List.Perm.refl _, .nil, (fun x hx => by cases hx), (fun x hx => by cases hx)⟩ ha (Nat.le_refl _) hx (fun y hy => hl y (List.mem_of_mem_take hy))
    exact this
  generalize (#[a[a.size - 1]'(by omega)] : Array Keyed) = out0 at m0
  by_cases e1 : a.size - 1 = 0
  · rw [if_pos (by rw [e1]; rfl)]
    obtain ⟨g1, g2, g3⟩ := done m0 e1 (Eqv.refl st)
    exact wpS_pure (h _ _ g1 g2 g3)
  rw [if_neg (fun z => e1 (eq_of_beq z))]
  by_cases e2 : b.size = 1
  · rw [if_pos (by rw [e2]; rfl)]
    obtain ⟨g1, g2, g3⟩ := last m0 e2 (Eqv.refl st)
    exact wpS_pure (h _ _ g1 g2 g3)
  rw [if_neg (fun z => e2 (eq_of_beq z))]
  refine wpS_bind (wpS_get ?_)
  refine wpS_bind (wpS_mono (wpS_forRange (I := fun i c st' => c.1 = none ∧ Eqv st st' ∧ StH lt a b c.2.2.2.1 c.2.1 c.2.2.1 ∧ c.2.1 + c.2.2.1 + i ≤ a.size + b.size) (Q := fun c st' => ∃ r, c.1 = some r ∧ GoodM lt a b st r st') ?_ ?_ ⟨rfl, Eqv.refl st, ⟨m0, by show 1 ≤ a.size - 1 ∧ a.size - 1 ≤ a.size; omega, by show 2 ≤ b.size ∧ b.size ≤ b.size; omega⟩, by show (a.size - 1) + b.size + 0 ≤ _; omega⟩) ?_)
  rotate_left
  · rintro ⟨r, na, nb, out, mg⟩ st' ⟨_, _, hS, hm⟩
    have h1 : 1 ≤ na := hS.2.1.1
    have h2 : na + nb + max 0 (a.size + b.size) ≤ a.size + b.size := hm
    omega
  · rintro ⟨r, na, nb, out, mg⟩ st' ⟨r', hr, hg⟩
    have hr' : r = some r' := hr
    subst hr'
    exact wpS_pure (h _ _ hg.1 hg.2.1 hg.2.2)
  rintro i ⟨r, na, nb, out, mg⟩ st1 _ hi ⟨hr, ev1, hS, hm⟩
  have hr' : r = none := hr
  subst hr'
  have hS : StH lt a b out na nb := hS
  have hm : na + nb + i ≤ a.size + b.size := hm
  dsimp only
  refine wpS_bind (wpS_mono (wpS_forRange (I := fun j c st' => c.1 = none ∧ Eqv st st' ∧ StH lt a b c.2.2.2.1 c.2.1 c.2.2.1 ∧ c.2.1 + c.2.2.1 + j ≤ na + nb) (Q := fun c st' => (∃ r, c.1 = some r ∧ GoodM lt a b st r st') ∨ (c.1 = none ∧ Eqv st st' ∧ StH lt a b c.2.2.2.1 c.2.1 c.2.2.1 ∧ c.2.1 + c.2.2.1 + 1 ≤ na + nb)) ?_ ?_ ⟨rfl, ev1, hS, Nat.le_refl _⟩) ?_)
  rotate_left
  · rintro ⟨r, na2, nb2, out2, ac, bc⟩ st' ⟨_, _, hS2, hm2⟩
    have h1 : 1 ≤ na2 := hS2.2.1.1
    have h2 : na2 + nb2 + max 0 (a.size + b.size) ≤ na + nb := hm2
    omega
  rotate_left
  · rintro j ⟨r, na2, nb2, o2, ac, bc⟩ st2 _ hj ⟨hr2, ev2, hS2, hm2⟩
    have hr2' : r = none := hr2
    subst hr2'
    obtain ⟨m2, b1, b2⟩ : StH lt a b o2 na2 nb2 := hS2
    have hm2 : na2 + nb2 + j ≤ na + nb := hm2
    obtain ⟨x, hx, hx2, hxm⟩ := arr_at (a := b) (i := nb2 - 1) (by omega)
    obtain ⟨y, hy, hy2, hym⟩ := arr_at (a := a) (i := na2 - 1) (by omega)
    dsimp only
    refine wpS_bind (wpS_elem hx (wpS_bind (wpS_elem hy (wpS_bind (wpS_ltU hc (ev2.1.trans hk) (ub x hxm) (ua y hym) ?_)))))
    dsimp only
    cases c : lt x y with
    | true =>
      rw [if_pos rfl]
      refine wpS_bind (wpS_elem hy ?_)
      have m3 := pushA m2 b1.1 b1.2 hy2 (tail_all O sb ub (ua y hym) (by omega) hx2 c)
      by_cases e : na2 - 1 = 0
      · rw [if_pos (by rw [e]; rfl)]
        exact wpS_pure (.inl ⟨_, rfl, done m3 e ev2⟩)
      · rw [if_neg (fun z => e (eq_of_beq z))]
        by_cases z : ac + 1 ≥ mg
        · rw [if_pos z]
          exact wpS_pure (.inr ⟨rfl, ev2, ⟨m3, by show 1 ≤ na2 - 1 ∧ na2 - 1 ≤ a.size; omega, b2⟩, by show (na2 - 1) + nb2 + 1 ≤ _; omega⟩)
        · rw [if_neg z]
          exact wpS_pure ⟨rfl, ev2, ⟨m3, by show 1 ≤ na2 - 1 ∧ na2 - 1 ≤ a.size; omega, b2⟩, by show (na2 - 1) + nb2 + (j + 1) ≤ _; omega⟩
    | false =>
      rw [if_neg (by decide)]
      refine wpS_bind (wpS_elem hx ?_)
      have c2 := O.tot x y (ub x hxm) (ua y hym) (fun z => ne y hym x hxm z.symm) c
      have m3 := pushB m2 (by omega) b2.2 hx2 (tail_all O sa ua (ub x hxm) b1.1 hy2 c2)
      by_cases e : nb2 - 1 = 1
      · rw [if_pos (by rw [e]; rfl)]
        exact wpS_pure (.inl ⟨_, rfl, last m3 e ev2⟩)
      · rw [if_neg (fun z => e (eq_of_beq z))]
        by_cases z : bc + 1 ≥ mg
        · rw [if_pos z]
          exact wpS_pure (.inr ⟨rfl, ev2, ⟨m3, b1, by show 2 ≤ nb2 - 1 ∧ nb2 - 1 ≤ b.size; omega⟩, by show na2 + (nb2 - 1) + 1 ≤ _; omega⟩)
        · rw [if_neg z]
          exact wpS_pure ⟨rfl, ev2, ⟨m3, b1, by show 2 ≤ nb2 - 1 ∧ nb2 - 1 ≤ b.size; omega⟩, by show na2 + (nb2 - 1) + (j + 1) ≤ _; omega⟩
  rintro ⟨r, na3, nb3, o3, ac, bc⟩ st3 hQ3
  rcases hQ3 with ⟨r', hr3, hg⟩ | ⟨hr3, ev3, hS3, hm3⟩
  · have hr3' : r = some r' := hr3
    subst hr3'
    exact wpS_pure ⟨r', rfl, hg⟩
  have hr3' : r = none := hr3
  subst hr3'
  have hS3 : StH lt a b o3 na3 nb3 := hS3
  have hm3 : na3 + nb3 + 1 ≤ na + nb := hm3
  dsimp only
  refine wpS_bind (wpS_lift (wpAny_rule ⟨rfl, ?_⟩))
  refine wpS_bind (wpS_mono (wpS_forRange (I := fun j c st' => c.1 = none ∧ Eqv st st' ∧ StH lt a b c.2.2.2.1 c.2.1 c.2.2.1 ∧ c.2.1 + c.2.2.1 + j ≤ na3 + nb3) (Q := fun c st' => (∃ r, c.1 = some r ∧ GoodM lt a b st r st') ∨ (c.1 = none ∧ Eqv st st' ∧ StH lt a b c.2.2.2.1 c.2.1 c.2.2.1 ∧ c.2.1 + c.2.2.1 ≤ na3 + nb3)) ?_ ?_ ⟨rfl, ev3, hS3, Nat.le_refl _⟩) ?_)
  rotate_left
  · rintro ⟨r, na4, nb4, o4, mg4, ac4, bc4⟩ st4 ⟨hr4, ev4, hS4, hm4⟩
    have hm4 : na4 + nb4 + max 0 (a.size + b.size) ≤ na3 + nb3 := hm4
    exact .inr ⟨hr4, ev4, hS4, by show na4 + nb4 ≤ _; omega⟩
  · rintro ⟨r, na4, nb4, o4, mg4, ac4, bc4⟩ st4 hQ4
    rcases hQ4 with ⟨r', hr4, hg⟩ | ⟨hr4, ev4, hS4, hm4⟩
    · have hr4' : r = some r' := hr4
      subst hr4'
      exact wpS_pure ⟨r', rfl, hg⟩
    have hr4' : r = none := hr4
    subst hr4'
    have hm4 : na4 + nb4 ≤ na3 + nb3 := hm4
    dsimp only
    refine wpS_bind (wpS_mg fun st5 ev5 => ?_)
    exact wpS_pure ⟨rfl, ev4.trans ev5, hS4, by show na4 + nb4 + (i + 1) ≤ _; omega⟩
  rintro j ⟨r, na4, nb4, o4, mg4, ac4, bc4⟩ st4 _ hj ⟨hr4, ev4, hS4, hm4⟩
  have hr4' : r = none := hr4
  subst hr4'
  obtain ⟨m4, b1, b2⟩ : StH lt a b o4 na4 nb4 := hS4
  have hm4 : na4 + nb4 + j ≤ na3 + nb3 := hm4
  obtain ⟨x, hx, hx2, hxm⟩ := arr_at (a := b) (i := nb4 - 1) (by omega)
  dsimp only
  by_cases z : mg4 > 1
  · rw [if_pos z]
    refine wpS_bind (wpS_mg fun st5 ev45 => ?_)
    have ev5 := ev4.trans ev45
    refine wpS_bind (wpS_elem hx ?_)
    refine wpS_bind (wpS_galG (arr := a) (base := 0) hc O (ev5.1.trans hk) (ub x hxm) (by omega) (by omega) (fun z hz => ua z (List.mem_of_mem_take hz)) (List.Pairwise.sublist (List.take_sublist _ _) sa) (fun z hz => ne z (List.mem_of_mem_take hz) x hxm) fun K k1 k2 k3 => ?_)
    dsimp only
    by_cases zk : na4 - K > 0
    · rw [if_pos zk]
      have m5 := runA (k := K) m4 (by omega) k1 (fun x' hx' => tail_all O sb ub (ua x' (List.mem_of_mem_take (List.mem_of_mem_drop hx'))) (by omega) hx2 (k3 x' hx'))
      have h5 : ∀ z ∈ a.toList.take K, lt z x = true := k2
      by_cases e5 : K = 0
      · rw [if_pos (by rw [e5]; rfl)]
        exact wpS_pure (.inl ⟨_, rfl, done m5 e5 ev5⟩)
      rw [if_neg (fun z => e5 (eq_of_beq z))]
      refine wpS_bind (wpS_elem hx ?_)
      have m6 := pushB m5 (by omega) (by omega) hx2 h5
      by_cases e6 : nb4 - 1 = 1
      · rw [if_pos (by rw [e6]; rfl)]
        exact wpS_pure (.inl ⟨_, rfl, last m6 e6 ev5⟩)
      rw [if_neg (fun z => e6 (eq_of_beq z))]
      obtain ⟨y, hy, hy2, hym⟩ := arr_at (a := a) (i := K - 1) (by omega)
      refine wpS_bind (wpS_elem hy ?_)
      refine wpS_bind (wpS_galG (arr := b) (base := 0) hc O (ev5.1.trans hk) (ua y hym) (by omega) (by omega) (fun z hz => ub z (List.mem_of_mem_take hz)) (List.Pairwise.sublist (List.take_sublist _ _) sb) (fun z hz => (ne y hym z (List.mem_of_mem_take hz)).symm) fun K2 q1 q2 q3 => ?_)
      have kl := firstK hym q1 (by omega) q3
      dsimp only
      by_cases zk2 : nb4 - 1 - K2 > 0
      · rw [if_pos zk2]
        have m7 := runB (k := K2) m6 (by omega) q1 (fun x' hx' => tail_all O sa ua (ub x' (List.mem_of_mem_take (List.mem_of_mem_drop hx'))) (by omega) hy2 (q3 x' hx'))
        have h7 : ∀ z ∈ b.toList.take K2, lt z y = true := q2
        by_cases e7 : K2 = 1
        · rw [if_pos (by rw [e7]; rfl)]
          exact wpS_pure (.inl ⟨_, rfl, last m7 e7 ev5⟩)
        rw [if_neg (fun z => e7 (eq_of_beq z)), if_neg (fun z => Nat.ne_of_gt kl (eq_of_beq z))]
        refine wpS_bind (wpS_elem hy ?_)
        have m8 := pushA m7 (by omega) (by omega) hy2 h7
        by_cases e8 : K - 1 = 0
        · rw [if_pos (by rw [e8]; rfl)]
          exact wpS_pure (.inl ⟨_, rfl, done m8 e8 ev5⟩)
        rw [if_neg (fun z => e8 (eq_of_beq z))]
        split
        · exact wpS_pure (.inr ⟨rfl, ev5, ⟨m8, by show 1 ≤ K - 1 ∧ K - 1 ≤ a.size; omega, by show 2 ≤ K2 ∧ K2 ≤ b.size; omega⟩, by show (K - 1) + K2 ≤ _; omega⟩)
        · exact wpS_pure ⟨rfl, ev5, ⟨m8, by show 1 ≤ K - 1 ∧ K - 1 ≤ a.size; omega, by show 2 ≤ K2 ∧ K2 ≤ b.size; omega⟩, by show (K - 1) + K2 + (j + 1) ≤ _; omega⟩
      · rw [if_neg zk2]
        have m7 := m6
        have h7 : ∀ z ∈ b.toList.take (nb4 - 1), lt z y = true := by
          have h7' : ∀ z ∈ b.toList.take K2, lt z y = true := q2
          rw [show K2 = nb4 - 1 by omega] at h7'
          exact h7'
        refine wpS_bind (wpS_elem hy ?_)
        have m8 := pushA m7 (by omega) (by omega) hy2 h7
        by_cases e8 : K - 1 = 0
        · rw [if_pos (by rw [e8]; rfl)]
          exact wpS_pure (.inl ⟨_, rfl, done m8 e8 ev5⟩)
        rw [if_neg (fun z => e8 (eq_of_beq z))]
        split
        · exact wpS_pure (.inr ⟨rfl, ev5, ⟨m8, by show 1 ≤ K - 1 ∧ K - 1 ≤ a.size; omega, by show 2 ≤ (nb4 - 1) ∧ (nb4 - 1) ≤ b.size; omega⟩, by show (K - 1) + (nb4 - 1) ≤ _; omega⟩)
        · exact wpS_pure ⟨rfl, ev5, ⟨m8, by show 1 ≤ K - 1 ∧ K - 1 ≤ a.size; omega, by show 2 ≤ (nb4 - 1) ∧ (nb4 - 1) ≤ b.size; omega⟩, by show (K - 1) + (nb4 - 1) + (j + 1) ≤ _; omega⟩
    · rw [if_neg zk]
      have m5 := m4
      have h5 : ∀ z ∈ a.toList.take na4, lt z x = true := by
        have h5' : ∀ z ∈ a.toList.take K, lt z x = true := k2
        rw [show K = na4 by omega] at h5'
        exact h5'
      refine wpS_bind (wpS_elem hx ?_)
      have m6 := pushB m5 (by omega) (by omega) hx2 h5
      by_cases e6 : nb4 - 1 = 1
      · rw [if_pos (by rw [e6]; rfl)]
        exact wpS_pure (.inl ⟨_, rfl, last m6 e6 ev5⟩)
      rw [if_neg (fun z => e6 (eq_of_beq z))]
      obtain ⟨y, hy, hy2, hym⟩ := arr_at (a := a) (i := na4 - 1) (by omega)
      refine wpS_bind (wpS_elem hy ?_)
      refine wpS_bind (wpS_galG (arr := b) (base := 0) hc O (ev5.1.trans hk) (ua y hym) (by omega) (by omega) (fun z hz => ub z (List.mem_of_mem_take hz)) (List.Pairwise.sublist (List.take_sublist _ _) sb) (fun z hz => (ne y hym z (List.mem_of_mem_take hz)).symm) fun K2 q1 q2 q3 => ?_)
      have kl := firstK hym q1 (by omega) q3
      dsimp only
      by_cases zk2 : nb4 - 1 - K2 > 0
      · rw [if_pos zk2]
        have m7 := runB (k := K2) m6 (by omega) q1 (fun x' hx' => tail_all O sa ua (ub x' (List.mem_of_mem_take (List.mem_of_mem_drop hx'))) (by omega) hy2 (q3 x' hx'))
        have h7 : ∀ z ∈ b.toList.take K2, lt z y = true := q2
        by_cases e7 : K2 = 1
        · rw [if_pos (by rw [e7]; rfl)]
          exact wpS_pure (.inl ⟨_, rfl, last m7 e7 ev5⟩)
        rw [if_neg (fun z => e7 (eq_of_beq z)), if_neg (fun z => Nat.ne_of_gt kl (eq_of_beq z))]
        refine wpS_bind (wpS_elem hy ?_)
        have m8 := pushA m7 (by omega) (by omega) hy2 h7
        by_cases e8 : na4 - 1 = 0
        · rw [if_pos (by rw [e8]; rfl)]
          exact wpS_pure (.inl ⟨_, rfl, done m8 e8 ev5⟩)
        rw [if_neg (fun z => e8 (eq_of_beq z))]
        split
        · exact wpS_pure (.inr ⟨rfl, ev5, ⟨m8, by show 1 ≤ na4 - 1 ∧ na4 - 1 ≤ a.size; omega, by show 2 ≤ K2 ∧ K2 ≤ b.size; omega⟩, by show (na4 - 1) + K2 ≤ _; omega⟩)
        · exact wpS_pure ⟨rfl, ev5, ⟨m8, by show 1 ≤ na4 - 1 ∧ na4 - 1 ≤ a.size; omega, by show 2 ≤ K2 ∧ K2 ≤ b.size; omega⟩, by show (na4 - 1) + K2 + (j + 1) ≤ _; omega⟩
      · rw [if_neg zk2]
        have m7 := m6
        have h7 : ∀ z ∈ b.toList.take (nb4 - 1), lt z y = true := by
          have h7' : ∀ z ∈ b.toList.take K2, lt z y = true := q2
          rw [show K2 = nb4 - 1 by omega] at h7'
          exact h7'
        refine wpS_bind (wpS_elem hy ?_)
        have m8 := pushA m7 (by omega) (by omega) hy2 h7
        by_cases e8 : na4 - 1 = 0
        · rw [if_pos (by rw [e8]; rfl)]
          exact wpS_pure (.inl ⟨_, rfl, done m8 e8 ev5⟩)
        rw [if_neg (fun z => e8 (eq_of_beq z))]
        split
        · exact wpS_pure (.inr ⟨rfl, ev5, ⟨m8, by show 1 ≤ na4 - 1 ∧ na4 - 1 ≤ a.size; omega, by show 2 ≤ (nb4 - 1) ∧ (nb4 - 1) ≤ b.size; omega⟩, by show (na4 - 1) + (nb4 - 1) ≤ _; omega⟩)
        · exact wpS_pure ⟨rfl, ev5, ⟨m8, by show 1 ≤ na4 - 1 ∧ na4 - 1 ≤ a.size; omega, by show 2 ≤ (nb4 - 1) ∧ (nb4 - 1) ≤ b.size; omega⟩, by show (na4 - 1) + (nb4 - 1) + (j + 1) ≤ _; omega⟩
  · rw [if_neg z]
    refine wpS_bind (wpS_mg fun st5 ev45 => ?_)
    have ev5 := ev4.trans ev45
    refine wpS_bind (wpS_elem hx ?_)
    refine wpS_bind (wpS_galG (arr := a) (base := 0) hc O (ev5.1.trans hk) (ub x hxm) (by omega) (by omega) (fun z hz => ua z (List.mem_of_mem_take hz)) (List.Pairwise.sublist (List.take_sublist _ _) sa) (fun z hz => ne z (List.mem_of_mem_take hz) x hxm) fun K k1 k2 k3 => ?_)
    dsimp only
    by_cases zk : na4 - K > 0
    · rw [if_pos zk]
      have m5 := runA (k := K) m4 (by omega) k1 (fun x' hx' => tail_all O sb ub (ua x' (List.mem_of_mem_take (List.mem_of_mem_drop hx'))) (by omega) hx2 (k3 x' hx'))
      have h5 : ∀ z ∈ a.toList.take K, lt z x = true := k2
      by_cases e5 : K = 0
      · rw [if_pos (by rw [e5]; rfl)]
        exact wpS_pure (.inl ⟨_, rfl, done m5 e5 ev5⟩)
      rw [if_neg (fun z => e5 (eq_of_beq z))]
      refine wpS_bind (wpS_elem hx ?_)
      have m6 := pushB m5 (by omega) (by omega) hx2 h5
      by_cases e6 : nb4 - 1 = 1
      · rw [if_pos (by rw [e6]; rfl)]
        exact wpS_pure (.inl ⟨_, rfl, last m6 e6 ev5⟩)
      rw [if_neg (fun z => e6 (eq_of_beq z))]
      obtain ⟨y, hy, hy2, hym⟩ := arr_at (a := a) (i := K - 1) (by omega)
      refine wpS_bind (wpS_elem hy ?_)
      refine wpS_bind (wpS_galG (arr := b) (base := 0) hc O (ev5.1.trans hk) (ua y hym) (by omega) (by omega) (fun z hz => ub z (List.mem_of_mem_take hz)) (List.Pairwise.sublist (List.take_sublist _ _) sb) (fun z hz => (ne y hym z (List.mem_of_mem_take hz)).symm) fun K2 q1 q2 q3 => ?_)
      have kl := firstK hym q1 (by omega) q3
      dsimp only
      by_cases zk2 : nb4 - 1 - K2 > 0
      · rw [if_pos zk2]
        have m7 := runB (k := K2) m6 (by omega) q1 (fun x' hx' => tail_all O sa ua (ub x' (List.mem_of_mem_take (List.mem_of_mem_drop hx'))) (by omega) hy2 (q3 x' hx'))
        have h7 : ∀ z ∈ b.toList.take K2, lt z y = true := q2
        by_cases e7 : K2 = 1
        · rw [if_pos (by rw [e7]; rfl)]
          exact wpS_pure (.inl ⟨_, rfl, last m7 e7 ev5⟩)
        rw [if_neg (fun z => e7 (eq_of_beq z)), if_neg (fun z => Nat.ne_of_gt kl (eq_of_beq z))]
        refine wpS_bind (wpS_elem hy ?_)
        have m8 := pushA m7 (by omega) (by omega) hy2 h7
        by_cases e8 : K - 1 = 0
        · rw [if_pos (by rw [e8]; rfl)]
          exact wpS_pure (.inl ⟨_, rfl, done m8 e8 ev5⟩)
        rw [if_neg (fun z => e8 (eq_of_beq z))]
        split
        · exact wpS_pure (.inr ⟨rfl, ev5, ⟨m8, by show 1 ≤ K - 1 ∧ K - 1 ≤ a.size; omega, by show 2 ≤ K2 ∧ K2 ≤ b.size; omega⟩, by show (K - 1) + K2 ≤ _; omega⟩)
        · exact wpS_pure ⟨rfl, ev5, ⟨m8, by show 1 ≤ K - 1 ∧ K - 1 ≤ a.size; omega, by show 2 ≤ K2 ∧ K2 ≤ b.size; omega⟩, by show (K - 1) + K2 + (j + 1) ≤ _; omega⟩
      · rw [if_neg zk2]
        have m7 := m6
        have h7 : ∀ z ∈ b.toList.take (nb4 - 1), lt z y = true := by
          have h7' : ∀ z ∈ b.toList.take K2, lt z y = true := q2
          rw [show K2 = nb4 - 1 by omega] at h7'
          exact h7'
        refine wpS_bind (wpS_elem hy ?_)
        have m8 := pushA m7 (by omega) (by omega) hy2 h7
        by_cases e8 : K - 1 = 0
        · rw [if_pos (by rw [e8]; rfl)]
          exact wpS_pure (.inl ⟨_, rfl, done m8 e8 ev5⟩)
        rw [if_neg (fun z => e8 (eq_of_beq z))]
        split
        · exact wpS_pure (.inr ⟨rfl, ev5, ⟨m8, by show 1 ≤ K - 1 ∧ K - 1 ≤ a.size; omega, by show 2 ≤ (nb4 - 1) ∧ (nb4 - 1) ≤ b.size; omega⟩, by show (K - 1) + (nb4 - 1) ≤ _; omega⟩)
        · exact wpS_pure ⟨rfl, ev5, ⟨m8, by show 1 ≤ K - 1 ∧ K - 1 ≤ a.size; omega, by show 2 ≤ (nb4 - 1) ∧ (nb4 - 1) ≤ b.size; omega⟩, by show (K - 1) + (nb4 - 1) + (j + 1) ≤ _; omega⟩
    · rw [if_neg zk]
      have m5 := m4
      have h5 : ∀ z ∈ a.toList.take na4, lt z x = true := by
        have h5' : ∀ z ∈ a.toList.take K, lt z x = true := k2
        rw [show K = na4 by omega] at h5'
        exact h5'
      refine wpS_bind (wpS_elem hx ?_)
      have m6 := pushB m5 (by omega) (by omega) hx2 h5
      by_cases e6 : nb4 - 1 = 1
      · rw [if_pos (by rw [e6]; rfl)]
        exact wpS_pure (.inl ⟨_, rfl, last m6 e6 ev5⟩)
      rw [if_neg (fun z => e6 (eq_of_beq z))]
      obtain ⟨y, hy, hy2, hym⟩ := arr_at (a := a) (i := na4 - 1) (by omega)
      refine wpS_bind (wpS_elem hy ?_)
      refine wpS_bind (wpS_galG (arr := b) (base := 0) hc O (ev5.1.trans hk) (ua y hym) (by omega) (by omega) (fun z hz => ub z (List.mem_of_mem_take hz)) (List.Pairwise.sublist (List.take_sublist _ _) sb) (fun z hz => (ne y hym z (List.mem_of_mem_take hz)).symm) fun K2 q1 q2 q3 => ?_)
      have kl := firstK hym q1 (by omega) q3
      dsimp only
      by_cases zk2 : nb4 - 1 - K2 > 0
      · rw [if_pos zk2]
        have m7 := runB (k := K2) m6 (by omega) q1 (fun x' hx' => tail_all O sa ua (ub x' (List.mem_of_mem_take (List.mem_of_mem_drop hx'))) (by omega) hy2 (q3 x' hx'))
        have h7 : ∀ z ∈ b.toList.take K2, lt z y = true := q2
        by_cases e7 : K2 = 1
        · rw [if_pos (by rw [e7]; rfl)]
          exact wpS_pure (.inl ⟨_, rfl, last m7 e7 ev5⟩)
        rw [if_neg (fun z => e7 (eq_of_beq z)), if_neg (fun z => Nat.ne_of_gt kl (eq_of_beq z))]
        refine wpS_bind (wpS_elem hy ?_)
        have m8 := pushA m7 (by omega) (by omega) hy2 h7
        by_cases e8 : na4 - 1 = 0
        · rw [if_pos (by rw [e8]; rfl)]
          exact wpS_pure (.inl ⟨_, rfl, done m8 e8 ev5⟩)
        rw [if_neg (fun z => e8 (eq_of_beq z))]
        split
        · exact wpS_pure (.inr ⟨rfl, ev5, ⟨m8, by show 1 ≤ na4 - 1 ∧ na4 - 1 ≤ a.size; omega, by show 2 ≤ K2 ∧ K2 ≤ b.size; omega⟩, by show (na4 - 1) + K2 ≤ _; omega⟩)
        · exact wpS_pure ⟨rfl, ev5, ⟨m8, by show 1 ≤ na4 - 1 ∧ na4 - 1 ≤ a.size; omega, by show 2 ≤ K2 ∧ K2 ≤ b.size; omega⟩, by show (na4 - 1) + K2 + (j + 1) ≤ _; omega⟩
      · rw [if_neg zk2]
        have m7 := m6
        have h7 : ∀ z ∈ b.toList.take (nb4 - 1), lt z y = true := by
          have h7' : ∀ z ∈ b.toList.take K2, lt z y = true := q2
          rw [show K2 = nb4 - 1 by omega] at h7'
          exact h7'
        refine wpS_bind (wpS_elem hy ?_)
        have m8 := pushA m7 (by omega) (by omega) hy2 h7
        by_cases e8 : na4 - 1 = 0
        · rw [if_pos (by rw [e8]; rfl)]
          exact wpS_pure (.inl ⟨_, rfl, done m8 e8 ev5⟩)
        rw [if_neg (fun z => e8 (eq_of_beq z))]
        split
        · exact wpS_pure (.inr ⟨rfl, ev5, ⟨m8, by show 1 ≤ na4 - 1 ∧ na4 - 1 ≤ a.size; omega, by show 2 ≤ (nb4 - 1) ∧ (nb4 - 1) ≤ b.size; omega⟩, by show (na4 - 1) + (nb4 - 1) ≤ _; omega⟩)
        · exact wpS_pure ⟨rfl, ev5, ⟨m8, by show 1 ≤ na4 - 1 ∧ na4 - 1 ≤ a.size; omega, by show 2 ≤ (nb4 - 1) ∧ (nb4 - 1) ≤ b.size; omega⟩, by show (na4 - 1) + (nb4 - 1) + (j + 1) ≤ _; omega⟩
end
end L2

namespace L2
open PySem PySem.W PyProof.Rows
/-! ### runs counted and made longer at any place -/
def gK (arr : Array Keyed) (i : Nat) : Keyed := arr.getD i (Value.none, Value.none)
structure ArrU (U : Keyed → Prop) (arr : Array Keyed) : Prop where
  u : ∀ x ∈ arr.toList, U x
  nd : arr.toList.Nodup
section
variable {prog : Program} {w : World} {A : Around} {E : Value → Shared → Prop} {s : Shared} {κ : SortKind} {U : Keyed → Prop} {lt : Keyed → Keyed → Bool}
theorem gK_at {arr : Array Keyed} {i : Nat} (h : i < arr.size) : arr[i]? = some (gK arr i) := by
  unfold gK
  rw [Array.getD_eq_getD_getElem?, Array.getElem?_eq_getElem h]
  rfl
theorem gK_of {arr : Array Keyed} {i : Nat} {x : Keyed} (h : arr[i]? = some x) : gK arr i = x := by
  unfold gK
  rw [Array.getD_eq_getD_getElem?, h]
  rfl
theorem ArrU.at {arr : Array Keyed} (h : ArrU U arr) {i : Nat} (hi : i < arr.size) : U (gK arr i) := h.u _ (Array.mem_toList_iff.mpr (Array.mem_of_getElem? (gK_at hi)))
theorem ArrU.ne {arr : Array Keyed} (h : ArrU U arr) {i j : Nat} (hi : i < arr.size) (hj : j < arr.size) (e : i ≠ j) : gK arr i ≠ gK arr j := fun z => by
  have a1 := gK_at hi
  have a2 := gK_at hj
  rw [z] at a1
  rw [← Array.getElem?_toList] at a1 a2
  have hi' : i < arr.toList.length := by rw [Array.length_toList]; exact hi
  have hj' : j < arr.toList.length := by rw [Array.length_toList]; exact hj
  rw [List.getElem?_eq_getElem hi'] at a1
  rw [List.getElem?_eq_getElem hj'] at a2
  rcases Nat.lt_or_gt_of_ne e with h' | h'
  · exact (List.pairwise_iff_getElem.mp h.nd i j hi' hj' h') ((Option.some.inj a1).trans (Option.some.inj a2).symm)
  · exact (List.pairwise_iff_getElem.mp h.nd j i hj' hi' h') ((Option.some.inj a2).trans (Option.some.inj a1).symm)
theorem ArrU.perm {arr arr' : Array Keyed} (h : ArrU U arr) (p : arr'.Perm arr) : ArrU U arr' :=
  have p' := Array.perm_iff_toList_perm.mp p
  ⟨fun x hx => h.u x (p'.mem_iff.mp hx), p'.nodup_iff.mpr h.nd⟩
/-- the same but for the places from lo on -/
structure Keeps (lo : Nat) (st st' : SortSt) : Prop where
  kind : kindOf st' = kindOf st
  pend : pendingOf st' = pendingOf st
  fail : failedOf st' = failedOf st
  perm : (arrOf st').Perm (arrOf st)
  low : ∀ k, k < lo → gK (arrOf st') k = gK (arrOf st) k
theorem Keeps.refl (lo : Nat) (st : SortSt) : Keeps lo st st := ⟨rfl, rfl, rfl, Array.Perm.refl _, fun _ _ => rfl⟩
theorem Keeps.trans {lo : Nat} {a b c : SortSt} (h : Keeps lo a b) (k : Keeps lo b c) : Keeps lo a c := ⟨k.kind.trans h.kind, k.pend.trans h.pend, k.fail.trans h.fail, k.perm.trans h.perm, fun i hi => (k.low i hi).trans (h.low i hi)⟩
theorem Keeps.size {lo : Nat} {a b : SortSt} (h : Keeps lo a b) : (arrOf b).size = (arrOf a).size := h.perm.size_eq
def UpI (lt : Keyed → Keyed → Bool) (arr : Array Keyed) (lo m : Nat) : Prop := ∀ i j, lo ≤ i → i < j → j < lo + m → lt (gK arr i) (gK arr j) = true
def DownI (lt : Keyed → Keyed → Bool) (arr : Array Keyed) (lo m : Nat) : Prop := ∀ i j, lo ≤ i → i < j → j < lo + m → lt (gK arr j) (gK arr i) = true
theorem upI_ext (O : OrdU U lt) {arr : Array Keyed} (P : ArrU U arr) {lo m : Nat} (hm : lo + m < arr.size) (h1 : 1 ≤ m) (h : UpI lt arr lo m) (e : lt (gK arr (lo + m - 1)) (gK arr (lo + m)) = true) : UpI lt arr lo (m + 1) := fun i j hlo hij hj => by
  by_cases ej : j = lo + m
  · subst ej
    by_cases ei : i = lo + m - 1
    · rw [ei]; exact e
    · exact O.tr _ _ _ (P.at (by omega)) (P.at (by omega)) (P.at hm) (h i (lo + m - 1) hlo (by omega) (by omega)) e
  · exact h i j hlo hij (by omega)
theorem downI_ext (O : OrdU U lt) {arr : Array Keyed} (P : ArrU U arr) {lo m : Nat} (hm : lo + m < arr.size) (h1 : 1 ≤ m) (h : DownI lt arr lo m) (e : lt (gK arr (lo + m)) (gK arr (lo + m - 1)) = true) : DownI lt arr lo (m + 1) := fun i j hlo hij hj => by
  by_cases ej : j = lo + m
  · subst ej
    by_cases ei : i = lo + m - 1
    · rw [ei]; exact e
    · exact O.tr _ _ _ (P.at hm) (P.at (by omega)) (P.at (by omega)) e (h i (lo + m - 1) hlo (by omega) (by omega))
  · exact h i j hlo hij (by omega)
theorem wpS_ltAtU (hc : CmpU prog w A s κ U lt) {st : SortSt} (hk : kindOf st = κ) (hA : ArrU U (arrOf st)) {i j : Nat} (hi : i < (arrOf st).size) (hj : j < (arrOf st).size) {Q : Option Bool → SortSt → Prop} (h : Q (some (lt (gK (arrOf st) i) (gK (arrOf st) j))) st) : wpS (model prog w) A E s (ltAt' i j) Q st := by
  rw [ltAt'_eq]
  refine wpS_bind (wpS_get ?_)
  exact wpS_bind (wpS_elem (gK_at hi) (wpS_bind (wpS_elem (gK_at hj) (wpS_ltU hc hk (hA.at hi) (hA.at hj) h))))
theorem wpS_ascU (O : OrdU U lt) {st : SortSt} (hA : ArrU U (arrOf st)) {lo nrem a : Nat} (hn : lo + nrem ≤ (arrOf st).size) (ha : 1 ≤ a) (han : a ≤ nrem) (hu : UpI lt (arrOf st) lo a) {β : Type} {f : Nat → Option β × Nat → StateT SortSt Sem (ForInStep (Option β × Nat))}
    (hf : ∀ i n R, 1 ≤ n → n < nrem → (lt (gK (arrOf st) (lo + n)) (gK (arrOf st) (lo + n - 1)) = true → R (.done (none, n)) st) → (lt (gK (arrOf st) (lo + n)) (gK (arrOf st) (lo + n - 1)) = false → R (.yield (none, n + 1)) st) → wpS (model prog w) A E s (f i (none, n)) R st) :
    wpS (model prog w) A E s (forIn [a:nrem] (none, a) f) (fun c st' => st' = st ∧ ∃ n, c = (none, n) ∧ a ≤ n ∧ n ≤ nrem ∧ UpI lt (arrOf st) lo n ∧ (n < nrem → lt (gK (arrOf st) (lo + n)) (gK (arrOf st) (lo + n - 1)) = true)) st := by
  refine wpS_forRange (I := fun i c st' => st' = st ∧ c = (none, i) ∧ UpI lt (arrOf st) lo i) ?_ ?_ ⟨rfl, rfl, hu⟩
  · rintro i c st' h1 h2 ⟨rfl, rfl, g⟩
    refine hf i i _ (by omega) h2 (fun z => ⟨rfl, i, rfl, h1, Nat.le_of_lt h2, g, fun _ => z⟩) fun z => ⟨rfl, rfl, ?_⟩
    exact upI_ext O hA (by omega) (by omega) g (O.tot _ _ (hA.at (by omega)) (hA.at (by omega)) (hA.ne (by omega) (by omega) (by omega)) z)
  · rintro c st' ⟨rfl, rfl, g⟩
    rw [show max a nrem = nrem by omega] at g ⊢
    exact ⟨rfl, nrem, rfl, han, Nat.le_refl _, g, fun z => absurd z (Nat.lt_irrefl _)⟩
theorem rev_gK {arr : Array Keyed} {lo m i : Nat} (hm : lo + m ≤ arr.size) : gK (mirror arr lo (lo + m) ((lo + m - lo) / 2)) i = if lo ≤ i ∧ i < lo + m then gK arr (lo + (lo + m) - 1 - i) else gK arr i := by
  unfold gK
  rw [Array.getD_eq_getD_getElem?, getElem?_mirror_all hm]
  split
  · rw [Array.getD_eq_getD_getElem?]
  · rw [Array.getD_eq_getD_getElem?]
theorem wpS_countRunU (hc : CmpU prog w A s κ U lt) (O : OrdU U lt) {st : SortSt} (hk : kindOf st = κ) (hA : ArrU U (arrOf st)) {lo nrem : Nat} (hn : lo + nrem ≤ (arrOf st).size) (h1 : 1 ≤ nrem) {Q : Option Nat → SortSt → Prop}
    (h : ∀ m st', 1 ≤ m → m ≤ nrem → Keeps lo st st' → UpI lt (arrOf st') lo m → Q (some m) st') : wpS (model prog w) A E s (countRun' lo nrem) Q st := by
  refine wpS_bind (wpS_mono (wpS_ascU O hA hn (Nat.le_refl 1) h1 (fun i j _ _ _ => by omega) fun i n R n1 n2 r1 r2 => ?_) fun c st' hcc => ?_)
  · dsimp only
    refine wpS_bind (wpS_ltAtU hc hk hA (by omega) (by omega) ?_)
    dsimp only
    cases c : lt (gK (arrOf st) (lo + n)) (gK (arrOf st) (lo + n - 1)) with
    | true => rw [if_pos rfl]; exact wpS_pure (r1 c)
    | false => rw [if_neg (by decide)]; exact wpS_pure (r2 c)
  obtain ⟨rfl, n, rfl, g1, g2, g3, g4⟩ := hcc
  dsimp only
  by_cases e : n = nrem
  · rw [if_pos (by rw [e]; exact beq_self_eq_true _)]
    exact wpS_pure (h n _ g1 g2 (Keeps.refl _ _) g3)
  rw [if_neg (fun z => e (eq_of_beq z))]
  by_cases e1 : n > 1
  · rw [if_pos e1]
    refine wpS_bind (wpS_ltAtU hc hk hA (by omega) (by omega) ?_)
    rw [g3 lo (lo + n - 1) (Nat.le_refl _) (by omega) (by omega)]
    dsimp only
    rw [if_pos rfl]
    exact wpS_pure (h n _ g1 g2 (Keeps.refl _ _) g3)
  rw [if_neg e1]
  have en : n = 1 := by omega
  subst en
  refine wpS_bind (wpS_lift (wpAny_rule ⟨rfl, ?_⟩))
  have hd : DownI lt (arrOf st') lo (1 + 1) := downI_ext O hA (by omega) (Nat.le_refl _) (fun i j _ _ _ => by omega) (g4 (by omega))
  refine wpS_bind (wpS_mono (wpS_forRange (I := fun i c st2 => st2 = st' ∧ c = (none, i, 0) ∧ DownI lt (arrOf st') lo i) (Q := fun c st2 => st2 = st' ∧ ∃ n, c = (none, n, 0) ∧ 2 ≤ n ∧ n ≤ nrem ∧ DownI lt (arrOf st') lo n) ?_ ?_ ⟨rfl, rfl, hd⟩) ?_)
  · rintro i c st2 i1 i2 ⟨rfl, rfl, g⟩
    dsimp only
    refine wpS_bind (wpS_ltAtU hc hk hA (by omega) (by omega) ?_)
    dsimp only
    cases c : lt (gK (arrOf st2) (lo + i)) (gK (arrOf st2) (lo + i - 1)) with
    | true =>
      rw [if_pos rfl, if_neg (by omega)]
      exact wpS_pure ⟨rfl, rfl, downI_ext O hA (by omega) (by omega) g c⟩
    | false =>
      rw [if_neg (by decide)]
      refine wpS_bind (wpS_ltAtU hc hk hA (by omega) (by omega) ?_)
      rw [O.tot _ _ (hA.at (by omega)) (hA.at (by omega)) (hA.ne (by omega) (by omega) (by omega)) c]
      dsimp only
      rw [if_pos rfl]
      exact wpS_pure ⟨rfl, i, rfl, i1, Nat.le_of_lt i2, g⟩
  · rintro c st2 ⟨rfl, rfl, g⟩
    rw [show max (1 + 1) nrem = nrem by omega] at g ⊢
    exact ⟨rfl, nrem, rfl, by omega, Nat.le_refl _, g⟩
  rintro c st2 ⟨rfl, n, rfl, n1, n2, g⟩
  dsimp only
  rw [if_neg (by omega)]
  refine wpS_bind (wpS_reverse ?_)
  have kp : Keeps lo st2 (setArr st2 (mirror (arrOf st2) lo (lo + n) ((lo + n - lo) / 2))) := ⟨rfl, rfl, rfl, mirror_perm _ _ _ _, fun k hkl => by
    show gK (mirror (arrOf st2) lo (lo + n) ((lo + n - lo) / 2)) k = _
    rw [rev_gK (by omega), if_neg (by omega)]⟩
  have hu : UpI lt (arrOf (setArr st2 (mirror (arrOf st2) lo (lo + n) ((lo + n - lo) / 2)))) lo n := fun i j i1 i2 i3 => by
    show lt (gK (mirror (arrOf st2) lo (lo + n) ((lo + n - lo) / 2)) i) (gK (mirror (arrOf st2) lo (lo + n) ((lo + n - lo) / 2)) j) = true
    rw [rev_gK (by omega), rev_gK (by omega), if_pos ⟨i1, by omega⟩, if_pos ⟨by omega, i3⟩]
    exact g _ _ (by omega) (by omega) (by omega)
  generalize setArr st2 (mirror (arrOf st2) lo (lo + n) ((lo + n - lo) / 2)) = st3 at kp hu ⊢
  have hA3 := hA.perm kp.perm
  have hs3 := kp.size
  have hk3 := kp.kind.trans hk
  refine wpS_bind (wpS_mono (wpS_ascU O hA3 (by omega) (by omega) n2 hu fun i m R m1 m2 r1 r2 => ?_) fun c st' hcc => ?_)
  · dsimp only
    refine wpS_bind (wpS_ltAtU hc hk3 hA3 (by omega) (by omega) ?_)
    dsimp only
    cases c : lt (gK (arrOf st3) (lo + m)) (gK (arrOf st3) (lo + m - 1)) with
    | true => rw [if_pos rfl]; exact wpS_pure (r1 c)
    | false => rw [if_neg (by decide)]; exact wpS_pure (r2 c)
  obtain ⟨rfl, m, rfl, m1, m2, m3, m4⟩ := hcc
  exact wpS_pure (h m _ (by omega) m2 kp m3)
theorem bubble_gK {arr : Array Keyed} {lo k l i : Nat} (hk : lo + k < arr.size) (hl : l ≤ k) : gK (bubble arr (lo + k) (lo + k - (lo + l))) i = if i = lo + l then gK arr (lo + k) else if lo + l < i ∧ i ≤ lo + k then gK arr (i - 1) else gK arr i := by
  unfold gK
  simp only [Array.getD_eq_getD_getElem?]
  rw [getElem?_bubble hk (lo + k - (lo + l)) (by omega), show lo + k - (lo + k - (lo + l)) = lo + l by omega]
  split
  · rfl
  · split
    · rfl
    · rfl
theorem wpS_binarySortU (hc : CmpU prog w A s κ U lt) (O : OrdU U lt) {st : SortSt} (hk : kindOf st = κ) (hA : ArrU U (arrOf st)) {lo n ok : Nat} (hn : lo + n ≤ (arrOf st).size) (hok : 1 ≤ ok) (hon : ok ≤ n) (hu : UpI lt (arrOf st) lo ok) {Q : Bool → SortSt → Prop}
    (h : ∀ st', Keeps lo st st' → UpI lt (arrOf st') lo n → Q true st') : wpS (model prog w) A E s (binarySort' lo n ok) Q st := by
  rw [binarySort'_eq]
  refine wpS_bind (wpS_mono (wpS_forRange (I := fun k c st' => c = (none, ()) ∧ Keeps lo st st' ∧ UpI lt (arrOf st') lo k) (Q := fun c st' => c = (none, ()) ∧ Keeps lo st st' ∧ UpI lt (arrOf st') lo n) ?step ?fin ?init) ?post)
  case post =>
    rintro c st' ⟨rfl, kp, hs'⟩
    exact wpS_pure (h st' kp hs')
  case init =>
    rw [show max ok 1 = ok by omega]
    exact ⟨rfl, Keeps.refl _ _, hu⟩
  case fin =>
    rintro c st' ⟨hc, kp, hs'⟩
    rw [show max (max ok 1) n = n by omega] at hs'
    exact ⟨hc, kp, hs'⟩
  case step =>
    rintro k c st' hak hkn ⟨rfl, kp, hs'⟩
    have hA' := hA.perm kp.perm
    have hsz := kp.size
    have hk' := kp.kind.trans hk
    have hkk : lo + k < (arrOf st').size := by omega
    refine wpS_bind (wpS_mono (wpS_forRange (I := fun x c st'' => st'' = st' ∧ ∃ l r, c = (none, l, r) ∧ l ≤ r ∧ r ≤ k ∧ r - l ≤ k - x ∧
        (∀ i, lo ≤ i → i < lo + l → lt (gK (arrOf st') i) (gK (arrOf st') (lo + k)) = true) ∧ (∀ i, lo + r ≤ i → i < lo + k → lt (gK (arrOf st') (lo + k)) (gK (arrOf st') i) = true))
      (Q := fun c st'' => st'' = st' ∧ ∃ l r, c = (none, l, r) ∧ l ≤ k ∧
        (∀ i, lo ≤ i → i < lo + l → lt (gK (arrOf st') i) (gK (arrOf st') (lo + k)) = true) ∧ (∀ i, lo + l ≤ i → i < lo + k → lt (gK (arrOf st') (lo + k)) (gK (arrOf st') i) = true)) ?istep ?ifin ?iinit) ?ipost)
    case iinit => exact ⟨rfl, 0, k, rfl, by omega, by omega, by omega, fun i h1 h2 => by omega, fun i h1 h2 => by omega⟩
    case ifin =>
      rintro c st'' ⟨rfl, l, r, rfl, hlr, hrk, hm, hlo, hhi⟩
      have : l = r := by omega
      subst this
      exact ⟨rfl, l, l, rfl, hrk, hlo, hhi⟩
    case istep =>
      rintro x c st'' _ hxk ⟨rfl, l, r, rfl, hlr, hrk, hm, hlo, hhi⟩
      dsimp only
      by_cases hge : l ≥ r
      · rw [if_pos hge]
        have : l = r := by omega
        subst this
        exact wpS_pure ⟨rfl, l, l, rfl, hrk, hlo, hhi⟩
      · rw [if_neg hge]
        have q1 : l ≤ (l + r) / 2 := by omega
        have q2 : (l + r) / 2 < r := by omega
        refine wpS_bind (wpS_ltAtU hc hk' hA' hkk (by omega) ?_)
        dsimp only
        cases c : lt (gK (arrOf st'') (lo + k)) (gK (arrOf st'') (lo + (l + r) / 2)) with
        | true =>
          rw [if_pos rfl]
          refine wpS_pure ⟨rfl, l, (l + r) / 2, rfl, q1, by omega, by omega, hlo, fun i h1 h2 => ?_⟩
          by_cases ei : i = lo + (l + r) / 2
          · rw [ei]; exact c
          · exact O.tr _ _ _ (hA'.at hkk) (hA'.at (by omega)) (hA'.at (by omega)) c (hs' _ _ (by omega) (by omega) (by omega))
        | false =>
          rw [if_neg (by decide)]
          have c2 := O.tot _ _ (hA'.at hkk) (hA'.at (by omega)) (hA'.ne hkk (by omega) (by omega)) c
          refine wpS_pure ⟨rfl, (l + r) / 2 + 1, r, rfl, by omega, hrk, by omega, fun i h1 h2 => ?_, hhi⟩
          by_cases ei : i = lo + (l + r) / 2
          · rw [ei]; exact c2
          · exact O.tr _ _ _ (hA'.at (by omega)) (hA'.at (by omega)) (hA'.at hkk) (hs' _ _ h1 (by omega) (by omega)) c2
    case ipost =>
      rintro c st'' ⟨rfl, l, r, rfl, hlk, hlo, hhi⟩
      show wpS _ _ _ _ (do moveDown' (lo + k) (lo + l); pure (ForInStep.yield (none, ()))) _ _
      rw [moveDown'_eq]
      refine wpS_bind (wpS_modify (wpS_pure ⟨rfl, kp.trans ⟨rfl, rfl, rfl, bubble_perm _ _ _, fun i hi => ?_⟩, fun i j i1 i2 i3 => ?_⟩))
      · show gK (bubble (arrOf st'') (lo + k) (lo + k - (lo + l))) i = _
        rw [bubble_gK hkk hlk, if_neg (by omega), if_neg (by omega)]
      · show lt (gK (bubble (arrOf st'') (lo + k) (lo + k - (lo + l))) i) (gK (bubble (arrOf st'') (lo + k) (lo + k - (lo + l))) j) = true
        rw [bubble_gK hkk hlk, bubble_gK hkk hlk]
        by_cases ei : i = lo + l
        · rw [if_pos ei, if_neg (by omega), if_pos (by omega)]
          exact hhi (j - 1) (by omega) (by omega)
        · rw [if_neg ei]
          by_cases ej : j = lo + l
          · rw [if_pos ej, if_neg (by omega)]
            exact hlo i i1 (by omega)
          · rw [if_neg ej]
            by_cases e2 : lo + l < i
            · rw [if_pos (by omega), if_pos (by omega)]
              exact hs' (i - 1) (j - 1) (by omega) (by omega) (by omega)
            · rw [if_neg (by omega)]
              by_cases e3 : lo + l < j
              · rw [if_pos (by omega)]
                exact hs' i (j - 1) i1 (by omega) (by omega)
              · rw [if_neg (by omega)]
                exact hs' i j i1 i2 (by omega)
end
end L2

namespace L2
open PySem PySem.W PyProof.Rows
/-! ### two runs that stand side by side made one -/
section
variable {prog : Program} {w : World} {A : Around} {E : Value → Shared → Prop} {s : Shared} {κ : SortKind} {U : Keyed → Prop} {lt : Keyed → Keyed → Bool}
theorem wpS_set {M : Model} {σ : Type} {st st' : σ} {Q : PUnit → σ → Prop} (h : Q ⟨⟩ st') : wpS M A E s (set st' : StateT σ Sem PUnit) Q st := by
  unfold wpS; rw [StateT.run_set]; exact wpAny_pure ⟨rfl, h⟩
theorem seg_at {arr : Array Keyed} {lo n i : Nat} (h : lo + n ≤ arr.size) (hi : i < n) : ((arr.toList.drop lo).take n)[i]? = some (gK arr (lo + i)) := by
  rw [List.getElem?_take_of_lt hi, List.getElem?_drop, Array.getElem?_toList]
  exact gK_at (by omega)
theorem seg_len {arr : Array Keyed} {lo n : Nat} (h : lo + n ≤ arr.size) : ((arr.toList.drop lo).take n).length = n := by
  rw [List.length_take, List.length_drop, Array.length_toList]
  omega
theorem seg_mem {arr : Array Keyed} {lo n : Nat} (h : lo + n ≤ arr.size) {x : Keyed} (hx : x ∈ (arr.toList.drop lo).take n) : ∃ i, lo ≤ i ∧ i < lo + n ∧ x = gK arr i := by
  obtain ⟨i, hi, e⟩ := List.mem_iff_getElem.mp hx
  have hi' := hi
  rw [seg_len h] at hi'
  have := seg_at h hi'
  rw [List.getElem?_eq_getElem hi] at this
  exact ⟨lo + i, by omega, by omega, e.symm.trans (Option.some.inj this)⟩
theorem mem_seg {arr : Array Keyed} {lo n : Nat} (h : lo + n ≤ arr.size) {i : Nat} (h1 : lo ≤ i) (h2 : i < lo + n) : gK arr i ∈ (arr.toList.drop lo).take n := by
  have := seg_at h (i := i - lo) (by omega)
  rw [show lo + (i - lo) = i by omega] at this
  exact List.mem_of_getElem? this
theorem upU_of {arr : Array Keyed} {lo n : Nat} (h : lo + n ≤ arr.size) (hu : UpI lt arr lo n) : UpU lt ((arr.toList.drop lo).take n) := by
  refine List.pairwise_iff_getElem.mpr fun i j hi hj hij => ?_
  have hi' := hi
  have hj' := hj
  rw [seg_len h] at hi' hj'
  have e1 := seg_at h hi'
  have e2 := seg_at h hj'
  rw [List.getElem?_eq_getElem hi] at e1
  rw [List.getElem?_eq_getElem hj] at e2
  rw [Option.some.inj e1, Option.some.inj e2]
  exact hu _ _ (by omega) (by omega) (by omega)
theorem mem_segD {arr : Array Keyed} {lo n K : Nat} (h : lo + n ≤ arr.size) {i : Nat} (h1 : lo + K ≤ i) (h2 : i < lo + n) : gK arr i ∈ ((arr.toList.drop lo).take n).drop K := by
  refine List.mem_of_getElem? (i := i - lo - K) ?_
  rw [List.getElem?_drop, show K + (i - lo - K) = i - lo by omega, seg_at h (by omega), show lo + (i - lo) = i by omega]
/-- a list written over a stretch of an array -/
theorem lay_at (base : Nat) : ∀ (r : List Keyed) (j0 : Nat) (arr : Array Keyed), base + j0 + r.length ≤ arr.size →
    ((r.zipIdx j0).foldl (fun a (x : Keyed × Nat) => a.setIfInBounds (base + x.2) x.1) arr).size = arr.size ∧ ∀ k, ((r.zipIdx j0).foldl (fun a (x : Keyed × Nat) => a.setIfInBounds (base + x.2) x.1) arr)[k]? = if base + j0 ≤ k ∧ k < base + j0 + r.length then r[k - (base + j0)]? else arr[k]?
  | [], j0, arr, _ => ⟨rfl, fun k => by rw [if_neg (by rw [List.length_nil]; omega)]; rfl⟩
  | x :: r, j0, arr, h => by
    rw [List.length_cons] at h
    obtain ⟨i1, i2⟩ := lay_at base r (j0 + 1) (arr.setIfInBounds (base + j0) x) (by rw [Array.size_setIfInBounds]; omega)
    rw [List.zipIdx_cons, List.foldl_cons]
    refine ⟨i1.trans Array.size_setIfInBounds, fun k => ?_⟩
    rw [i2 k, Array.getElem?_setIfInBounds, List.length_cons]
    by_cases c1 : base + (j0 + 1) ≤ k ∧ k < base + (j0 + 1) + r.length
    · rw [if_pos c1, if_pos (by omega), show k - (base + j0) = k - (base + (j0 + 1)) + 1 by omega, List.getElem?_cons_succ]
    · rw [if_neg c1]
      by_cases c2 : base + j0 = k
      · rw [if_pos c2, if_pos (by omega), if_pos (by omega), show k - (base + j0) = 0 by omega]
        rfl
      · rw [if_neg c2, if_neg (by omega)]
theorem ext_seg (arr : Array Keyed) (p q : Nat) : (arr.extract p q).toList = (arr.toList.drop p).take (q - p) := Array.toList_extract
set_option maxHeartbeats 4000000 in
theorem wpS_mergeAtU (hc : CmpU prog w A s κ U lt) (O : OrdU U lt) {st : SortSt} (hk : kindOf st = κ) (hA : ArrU U (arrOf st)) (hf : failedOf st = none) {i sa na nb pw pw' : Nat} (hp1 : (pendingOf st)[i]? = some (sa, na, pw)) (hp2 : (pendingOf st)[i + 1]? = some (sa + na, nb, pw')) (ha : 1 ≤ na) (hb : 1 ≤ nb) (hn : sa + na + nb ≤ (arrOf st).size)
    (hua : UpI lt (arrOf st) sa na) (hub : UpI lt (arrOf st) (sa + na) nb) {Q : Bool → SortSt → Prop}
    (h : ∀ st' : SortSt, PyProof.Rows.kindOf st' = PyProof.Rows.kindOf st → failedOf st' = none → pendingOf st' = ((pendingOf st).setIfInBounds i (sa, na + nb, pw)).eraseIdxIfInBounds (i + 1) → (arrOf st').Perm (arrOf st) → (∀ k, k < sa ∨ sa + na + nb ≤ k → gK (arrOf st') k = gK (arrOf st) k) → UpI lt (arrOf st') sa (na + nb) → Q true st') : wpS (model prog w) A E s (mergeAt' i) Q st := by
  refine wpS_bind (wpS_get ?_)
  show wpS (model prog w) A E s (match ((pendingOf st)[i]?, (pendingOf st)[i + 1]?) with | _ => _) Q st
  rw [hp1, hp2]
  dsimp only
  refine wpS_bind (wpS_set ?_)
  show wpS (model prog w) A E s _ Q (setPending st (((pendingOf st).setIfInBounds i (sa, na + nb, pw)).eraseIdxIfInBounds (i + 1)))
  generalize hst1 : setPending st (((pendingOf st).setIfInBounds i (sa, na + nb, pw)).eraseIdxIfInBounds (i + 1)) = st1
  have k1 : PyProof.Rows.kindOf st1 = κ := by subst hst1; exact hk
  have k2 : failedOf st1 = none := by subst hst1; exact hf
  have k3 : pendingOf st1 = ((pendingOf st).setIfInBounds i (sa, na + nb, pw)).eraseIdxIfInBounds (i + 1) := by subst hst1; rfl
  have k4 : arrOf st1 = arrOf st := by subst hst1; rfl
  have segU : ∀ {lo n : Nat}, ∀ z ∈ ((arrOf st).toList.drop lo).take n, U z := fun z hz => hA.u z (List.mem_of_mem_drop (List.mem_of_mem_take hz))
  refine wpS_bind (wpS_elem (gK_at (arr := arrOf st) (by omega)) ?_)
  refine wpS_bind (wpS_galG hc O k1 (hA.at (by omega)) (by omega) (by omega) segU (upU_of (by omega) hua) (fun z hz => ?_) fun K q1 q2 q3 => ?_)
  · obtain ⟨j, j1, j2, rfl⟩ := seg_mem (by omega) hz
    exact hA.ne (by omega) (by omega) (by omega)
  have q2' : ∀ j, sa ≤ j → j < sa + K → lt (gK (arrOf st) j) (gK (arrOf st) (sa + na)) = true := fun j h1 h2 => q2 _ (mem_seg (by omega) h1 h2)
  have q3' : ∀ j, sa + K ≤ j → j < sa + na → lt (gK (arrOf st) (sa + na)) (gK (arrOf st) j) = true := fun j h1 h2 => q3 _ (mem_segD (by omega) h1 h2)
  have up1 : ∀ j t, sa ≤ j → j < sa + K → sa + na ≤ t → t < sa + na + nb → lt (gK (arrOf st) j) (gK (arrOf st) t) = true := fun j t h1 h2 h3 h4 => by
    by_cases e : t = sa + na
    · rw [e]; exact q2' j h1 h2
    · exact O.tr _ _ _ (hA.at (by omega)) (hA.at (by omega)) (hA.at (by omega)) (q2' j h1 h2) (hub _ _ (Nat.le_refl _) (by omega) h4)
  dsimp only
  by_cases e : na - K = 0
  · rw [if_pos (by rw [e]; rfl)]
    refine wpS_pure (h st1 (k1.trans hk.symm) k2 k3 (by rw [k4]) (fun k _ => by rw [k4]) ?_)
    rw [k4]
    intro i' j h1 h2 h3
    by_cases c1 : j < sa + na
    · exact hua _ _ h1 h2 c1
    · by_cases c2 : i' < sa + na
      · exact up1 _ _ h1 (by omega) (by omega) (by omega)
      · exact hub _ _ (by omega) h2 (by omega)
  rw [if_neg (fun z => e (eq_of_beq z))]
  refine wpS_bind (wpS_elem (gK_at (arr := arrOf st) (by omega)) ?_)
  rw [show sa + K + (na - K) - 1 = sa + na - 1 by omega]
  refine wpS_bind (wpS_galG hc O k1 (hA.at (by omega)) (by omega) (by omega) segU (upU_of (by omega) hub) (fun z hz => ?_) fun K2 p1 p2 p3 => ?_)
  · obtain ⟨j, j1, j2, rfl⟩ := seg_mem (by omega) hz
    exact hA.ne (by omega) (by omega) (by omega)
  have p2' : ∀ j, sa + na ≤ j → j < sa + na + K2 → lt (gK (arrOf st) j) (gK (arrOf st) (sa + na - 1)) = true := fun j h1 h2 => p2 _ (mem_seg (by omega) h1 h2)
  have p3' : ∀ j, sa + na + K2 ≤ j → j < sa + na + nb → lt (gK (arrOf st) (sa + na - 1)) (gK (arrOf st) j) = true := fun j h1 h2 => p3 _ (mem_segD (by omega) h1 h2)
  have up2 : ∀ t j, sa ≤ t → t < sa + na → sa + na + K2 ≤ j → j < sa + na + nb → lt (gK (arrOf st) t) (gK (arrOf st) j) = true := fun t j h1 h2 h3 h4 => by
    by_cases e : t = sa + na - 1
    · rw [e]; exact p3' j h3 h4
    · exact O.tr _ _ _ (hA.at (by omega)) (hA.at (by omega)) (hA.at (by omega)) (hua _ _ h1 (by omega) (by omega)) (p3' j h3 h4)
  have K2p : 0 < K2 := by
    refine Nat.pos_of_ne_zero fun z => ?_
    subst z
    have h4 := p3' (sa + na) (by omega) (by omega)
    rw [O.asym (hA.at (by omega)) (hA.at (by omega)) (q3' (sa + na - 1) (by omega) (by omega))] at h4
    cases h4
  dsimp only
  rw [if_neg (fun z => Nat.ne_of_gt K2p (eq_of_beq z))]
  have hxs : ((arrOf st).extract (sa + K) (sa + na)).size = na - K := by rw [Array.size_extract]; omega
  have hys : ((arrOf st).extract (sa + na) (sa + na + K2)).size = K2 := by rw [Array.size_extract]; omega
  have hy0 : ∀ hh, ((arrOf st).extract (sa + na) (sa + na + K2))[0]'hh = gK (arrOf st) (sa + na) := fun hh => by
    rw [Array.getElem_extract]
    exact (gK_of (arr := arrOf st) (i := sa + na + 0) (Array.getElem?_eq_getElem (by omega))).symm
  have hxl : ∀ hh, ((arrOf st).extract (sa + K) (sa + na))[((arrOf st).extract (sa + K) (sa + na)).size - 1]'hh = gK (arrOf st) (sa + na - 1) := fun hh => by
    rw [Array.getElem_extract]
    have e2 : sa + K + (((arrOf st).extract (sa + K) (sa + na)).size - 1) = sa + na - 1 := by omega
    rw [← e2]
    exact (gK_of (arr := arrOf st) (Array.getElem?_eq_getElem (by omega))).symm
  have xm : ∀ z ∈ ((arrOf st).extract (sa + K) (sa + na)).toList, ∃ j, sa + K ≤ j ∧ j < sa + na ∧ z = gK (arrOf st) j := fun z hz => by
    rw [ext_seg] at hz
    obtain ⟨j, j1, j2, j3⟩ := seg_mem (by omega) hz
    exact ⟨j, j1, by omega, j3⟩
  have ym : ∀ z ∈ ((arrOf st).extract (sa + na) (sa + na + K2)).toList, ∃ j, sa + na ≤ j ∧ j < sa + na + K2 ∧ z = gK (arrOf st) j := fun z hz => by
    rw [ext_seg] at hz
    obtain ⟨j, j1, j2, j3⟩ := seg_mem (by omega) hz
    exact ⟨j, j1, by omega, j3⟩
  have xU : ∀ z ∈ ((arrOf st).extract (sa + K) (sa + na)).toList, U z := fun z hz => by
    obtain ⟨j, j1, j2, rfl⟩ := xm z hz
    exact hA.at (by omega)
  have yU : ∀ z ∈ ((arrOf st).extract (sa + na) (sa + na + K2)).toList, U z := fun z hz => by
    obtain ⟨j, j1, j2, rfl⟩ := ym z hz
    exact hA.at (by omega)
  have xS : UpU lt ((arrOf st).extract (sa + K) (sa + na)).toList := by
    rw [ext_seg]
    exact upU_of (by omega) fun i' j h1 h2 h3 => hua _ _ (by omega) h2 (by omega)
  have yS : UpU lt ((arrOf st).extract (sa + na) (sa + na + K2)).toList := by
    rw [ext_seg]
    exact upU_of (by omega) fun i' j h1 h2 h3 => hub _ _ (by omega) h2 (by omega)
  have xyN : ∀ x ∈ ((arrOf st).extract (sa + K) (sa + na)).toList, ∀ y ∈ ((arrOf st).extract (sa + na) (sa + na + K2)).toList, x ≠ y := fun x hx y hy => by
    obtain ⟨j, j1, j2, rfl⟩ := xm x hx
    obtain ⟨t, t1, t2, rfl⟩ := ym y hy
    exact hA.ne (by omega) (by omega) (by omega)
  have x0 : ∀ x ∈ ((arrOf st).extract (sa + K) (sa + na)).toList, lt (((arrOf st).extract (sa + na) (sa + na + K2))[0]'(by omega)) x = true := fun x hx => by
    obtain ⟨j, j1, j2, rfl⟩ := xm x hx
    rw [hy0]
    exact q3' j j1 j2
  have yl : ∀ y ∈ ((arrOf st).extract (sa + na) (sa + na + K2)).toList, lt y (((arrOf st).extract (sa + K) (sa + na))[((arrOf st).extract (sa + K) (sa + na)).size - 1]'(by omega)) = true := fun y hy => by
    obtain ⟨j, j1, j2, rfl⟩ := ym y hy
    rw [hxl]
    exact p2' j j1 j2
  have fin : ∀ (r : Array Keyed) (st2 : SortSt), Eqv st1 st2 → r.toList.Perm (((arrOf st).extract (sa + K) (sa + na)).toList ++ ((arrOf st).extract (sa + na) (sa + na + K2)).toList) → UpU lt r.toList → Q true (setArr st2 (r.toList.zipIdx.foldl (fun a x => a.setIfInBounds (sa + K + x.snd) x.fst) (arrOf st2))) := fun r st2 ev hp hu => by
    have hl : r.toList.length = na - K + K2 := by rw [hp.length_eq, List.length_append, Array.length_toList, Array.length_toList, hxs, hys]
    have ea : arrOf st2 = arrOf st := ev.2.1.trans k4
    obtain ⟨z1, z2⟩ := lay_at (sa + K) r.toList 0 (arrOf st2) (by rw [ea]; omega)
    generalize (r.toList.zipIdx.foldl (fun a x => a.setIfInBounds (sa + K + x.snd) x.fst) (arrOf st2)) = L at z1 z2 ⊢
    rw [ea] at z1
    have zk : ∀ k, k < sa + K ∨ sa + na + K2 ≤ k → gK L k = gK (arrOf st) k := fun k hk => by
      unfold gK
      rw [Array.getD_eq_getD_getElem?, z2 k, if_neg (by omega), ea, Array.getD_eq_getD_getElem?]
    have zr : ∀ k, sa + K ≤ k → k < sa + na + K2 → r.toList[k - (sa + K)]? = some (gK L k) := fun k h1 h2 => by
      have e3 := gK_at (arr := L) (i := k) (by omega)
      rw [z2 k, if_pos (by omega)] at e3
      exact e3
    have zt : ∀ k, sa + K ≤ k → k < sa + na + K2 → ∃ t, sa + K ≤ t ∧ t < sa + na + K2 ∧ gK L k = gK (arrOf st) t := fun k h1 h2 => by
      have hm := hp.mem_iff.mp (List.mem_of_getElem? (zr k h1 h2))
      rcases List.mem_append.mp hm with hm | hm
      · obtain ⟨j, j1, j2, j3⟩ := xm _ hm
        exact ⟨j, j1, by omega, j3⟩
      · obtain ⟨j, j1, j2, j3⟩ := ym _ hm
        exact ⟨j, by omega, j2, j3⟩
    refine h (setArr st2 L) (ev.1.trans (k1.trans hk.symm)) (ev.2.2.2.trans k2) (ev.2.2.1.trans k3) ?_ (fun k hk => zk k (by omega)) fun i' j h1 h2 h3 => ?_
    · refine Array.perm_iff_toList_perm.mpr ?_
      have lt1 : ((arrOf st).toList.take (sa + K)).length = sa + K := by rw [List.length_take, Array.length_toList]; omega
      have eL : L.toList = (arrOf st).toList.take (sa + K) ++ (r.toList ++ (arrOf st).toList.drop (sa + K + (na - K + K2))) := by
        refine List.ext_getElem? fun k => ?_
        rw [Array.getElem?_toList, z2 k]
        by_cases c1 : k < sa + K
        · rw [if_neg (by omega), List.getElem?_append_left (by rw [lt1]; exact c1), List.getElem?_take_of_lt c1, Array.getElem?_toList, ea]
        · rw [List.getElem?_append_right (by rw [lt1]; omega), lt1]
          by_cases c2 : k < sa + K + (na - K + K2)
          · rw [if_pos (by omega), List.getElem?_append_left (by omega)]
            rfl
          · rw [if_neg (by omega), List.getElem?_append_right (by omega), List.getElem?_drop, Array.getElem?_toList, ea]
            congr 1
            omega
      have el : (arrOf st).toList = (arrOf st).toList.take (sa + K) ++ (((arrOf st).toList.drop (sa + K)).take (na - K + K2) ++ (arrOf st).toList.drop (sa + K + (na - K + K2))) := by
        have e7 := List.take_append_drop (na - K + K2) ((arrOf st).toList.drop (sa + K))
        rw [List.drop_drop] at e7
        rw [e7, List.take_append_drop]
      show L.toList.Perm (arrOf st).toList
      rw [eL]
      refine List.Perm.trans (List.Perm.append_left _ (List.Perm.append_right _ ?_)) (List.Perm.of_eq el.symm)
      refine hp.trans (List.Perm.of_eq ?_)
      rw [ext_seg, ext_seg, List.take_add, List.drop_drop, show sa + na - (sa + K) = na - K by omega, show sa + na + K2 - (sa + na) = K2 by omega, show sa + K + (na - K) = sa + na by omega]
    · show lt (gK L i') (gK L j) = true
      by_cases a1 : i' < sa + K
      · rw [zk i' (.inl a1)]
        have go : ∀ t, i' < t → t < sa + na + nb → lt (gK (arrOf st) i') (gK (arrOf st) t) = true := fun t t1 t2 => by
          by_cases c : t < sa + na
          · exact hua _ _ h1 t1 c
          · exact up1 _ _ h1 a1 (by omega) t2
        by_cases a2 : j < sa + K ∨ sa + na + K2 ≤ j
        · rw [zk j a2]
          exact go j h2 (by omega)
        · obtain ⟨t, t1, t2, t3⟩ := zt j (by omega) (by omega)
          rw [t3]
          exact go t (by omega) (by omega)
      · by_cases a2 : i' < sa + na + K2
        · by_cases a3 : j < sa + na + K2
          · have e5 := zr i' (by omega) a2
            have e6 := zr j (by omega) a3
            have l5 : i' - (sa + K) < r.toList.length := by omega
            have l6 : j - (sa + K) < r.toList.length := by omega
            rw [List.getElem?_eq_getElem l5] at e5
            rw [List.getElem?_eq_getElem l6] at e6
            rw [← Option.some.inj e5, ← Option.some.inj e6]
            exact List.pairwise_iff_getElem.mp hu _ _ l5 l6 (by omega)
          · obtain ⟨t, t1, t2, t3⟩ := zt i' (by omega) a2
            rw [t3, zk j (.inr (by omega))]
            by_cases c : t < sa + na
            · exact up2 _ _ (by omega) c (by omega) (by omega)
            · exact hub _ _ (by omega) (by omega) (by omega)
        · rw [zk i' (.inr (by omega)), zk j (.inr (by omega))]
          exact hub _ _ (by omega) h2 (by omega)
  split
  · refine wpS_bind (wpS_mergeLo hc O k1 (by omega) (by omega) xU yU xS yS xyN x0 yl fun r st2 ev hp hu => wpS_bind (wpS_modify (wpS_bind (wpS_get ?_))))
    show wpS (model prog w) A E s (pure (failedOf st2).isNone) Q _
    rw [ev.2.2.2, k2]
    exact wpS_pure (fin r st2 ev hp hu)
  · refine wpS_bind (wpS_mergeHi hc O k1 (by omega) (by omega) xU yU xS yS xyN x0 yl fun r st2 ev hp hu => wpS_bind (wpS_modify (wpS_bind (wpS_get ?_))))
    show wpS (model prog w) A E s (pure (failedOf st2).isNone) Q _
    rw [ev.2.2.2, k2]
    exact wpS_pure (fin r st2 ev hp hu)
end
end L2

namespace L2
open PySem PySem.W PyProof.Rows
/-! ### the stack of runs, and the whole sort of any length -/
def ChainU (lt : Keyed → Keyed → Bool) (arr : Array Keyed) : List (Nat × Nat × Nat) → Nat → Nat → Prop
  | [], b, e => b = e
  | x :: r, b, e => x.1 = b ∧ 1 ≤ x.2.1 ∧ UpI lt arr b x.2.1 ∧ ChainU lt arr r (b + x.2.1) e
section
variable {prog : Program} {w : World} {A : Around} {E : Value → Shared → Prop} {s : Shared} {κ : SortKind} {U : Keyed → Prop} {lt : Keyed → Keyed → Bool}
theorem ChainU.le {arr : Array Keyed} : ∀ {p : List (Nat × Nat × Nat)} {b e : Nat}, ChainU lt arr p b e → b + p.length ≤ e
  | [], b, e, h => by
    have : b = e := h
    rw [List.length_nil]
    omega
  | x :: r, b, e, ⟨_, h2, _, h4⟩ => by
    have := h4.le
    rw [List.length_cons]
    omega
theorem ChainU.keep {arr arr' : Array Keyed} : ∀ {p : List (Nat × Nat × Nat)} {b e : Nat}, ChainU lt arr p b e → (∀ k, b ≤ k → k < e → gK arr' k = gK arr k) → ChainU lt arr' p b e
  | [], _, _, h, _ => h
  | x :: r, b, e, ⟨h1, h2, h3, h4⟩, hk => by
    have l := h4.le
    refine ⟨h1, h2, fun i j i1 i2 i3 => ?_, h4.keep fun k k1 k2 => hk k (by omega) k2⟩
    rw [hk i i1 (by omega), hk j (by omega) (by omega)]
    exact h3 i j i1 i2 i3
theorem ChainU.app {arr : Array Keyed} : ∀ {p q : List (Nat × Nat × Nat)} {b e : Nat}, ChainU lt arr (p ++ q) b e → ∃ m, ChainU lt arr p b m ∧ ChainU lt arr q m e
  | [], _, b, _, h => ⟨b, rfl, h⟩
  | x :: r, q, b, e, ⟨h1, h2, h3, h4⟩ => by
    obtain ⟨m, a1, a2⟩ := ChainU.app (p := r) h4
    exact ⟨m, ⟨h1, h2, h3, a1⟩, a2⟩
theorem ChainU.join {arr : Array Keyed} : ∀ {p q : List (Nat × Nat × Nat)} {b m e : Nat}, ChainU lt arr p b m → ChainU lt arr q m e → ChainU lt arr (p ++ q) b e
  | [], _, b, m, _, h, h' => by
    have : b = m := h
    subst this
    exact h'
  | x :: r, q, b, m, e, ⟨h1, h2, h3, h4⟩, h' => ⟨h1, h2, h3, ChainU.join (p := r) h4 h'⟩
theorem split2 {p : List (Nat × Nat × Nat)} {i : Nat} (h : i + 1 < p.length) : ∃ u x y v, p = u ++ x :: y :: v ∧ u.length = i := by
  refine ⟨p.take i, p[i], p[i + 1], p.drop (i + 1 + 1), ?_, by rw [List.length_take]; omega⟩
  rw [← List.drop_eq_getElem_cons h, ← List.drop_eq_getElem_cons (show i < p.length by omega), List.take_append_drop]
structure GoodR (κ : SortKind) (lt : Keyed → Keyed → Bool) (a₀ : Array Keyed) (st : SortSt) (e : Nat) : Prop where
  kind : PyProof.Rows.kindOf st = κ
  fail : failedOf st = none
  perm : (arrOf st).Perm a₀
  chain : ChainU lt (arrOf st) (pendingOf st).toList 0 e
theorem wpS_mergeC (hc : CmpU prog w A s κ U lt) (O : OrdU U lt) {a₀ : Array Keyed} (hA : ArrU U a₀) {st : SortSt} {e : Nat} (G : GoodR κ lt a₀ st e) (he : e ≤ a₀.size) {i : Nat} (hi : i + 1 < (pendingOf st).size) {Q : Bool → SortSt → Prop}
    (h : ∀ st' : SortSt, GoodR κ lt a₀ st' e → (pendingOf st').size + 1 = (pendingOf st).size → (∀ k, e ≤ k → gK (arrOf st') k = gK (arrOf st) k) → Q true st') : wpS (model prog w) A E s (mergeAt' i) Q st := by
  obtain ⟨u, ⟨sa, na, pw⟩, ⟨sb, nb, pw'⟩, v, hp, hu⟩ := split2 (p := (pendingOf st).toList) (i := i) (by rw [Array.length_toList]; exact hi)
  have ch := G.chain
  rw [hp] at ch
  obtain ⟨m, c1, c2⟩ := ch.app
  obtain ⟨d1, d2, d3, f1, f2, f3, f4⟩ := c2
  have d1 : sa = m := d1
  have f1 : sb = m + na := f1
  subst d1
  subst f1
  have d2 : 1 ≤ na := d2
  have f2 : 1 ≤ nb := f2
  have d3 : UpI lt (arrOf st) sa na := d3
  have f3 : UpI lt (arrOf st) (sa + na) nb := f3
  have f4 : ChainU lt (arrOf st) v (sa + na + nb) e := f4
  have l1 := f4.le
  have hsz := G.perm.size_eq
  have hp1 : (pendingOf st)[i]? = some (sa, na, pw) := by
    rw [← Array.getElem?_toList, hp, List.getElem?_append_right (by omega), hu, Nat.sub_self]
    rfl
  have hp2 : (pendingOf st)[i + 1]? = some (sa + na, nb, pw') := by
    rw [← Array.getElem?_toList, hp, List.getElem?_append_right (by omega), hu, show i + 1 - i = 1 by omega]
    rfl
  refine wpS_mergeAtU hc O G.kind (hA.perm G.perm) G.fail hp1 hp2 d2 f2 (by omega) d3 f3 fun st' g1 g2 g3 g4 g5 g6 => ?_
  have hl : (pendingOf st').toList = u ++ (sa, na + nb, pw) :: v := by
    rw [g3, Array.eraseIdxIfInBounds, dif_pos (by rw [Array.size_setIfInBounds]; exact hi), Array.toList_eraseIdx, Array.toList_setIfInBounds, hp, ← hu, List.set_append_right _ _ (Nat.le_refl _), Nat.sub_self, List.set_cons_zero, List.eraseIdx_append_of_length_le (Nat.le_succ _), show u.length + 1 - u.length = 1 by omega]
    rfl
  refine h st' ⟨g1.trans G.kind, g2, g4.trans G.perm, ?_⟩ ?_ fun k hk => g5 k (.inr (by omega))
  · rw [hl]
    refine ChainU.join (c1.keep fun k k1 k2 => g5 k (.inl k2)) ⟨rfl, by show 1 ≤ na + nb; omega, g6, ?_⟩
    show ChainU lt (arrOf st') v (sa + (na + nb)) e
    rw [← Nat.add_assoc]
    exact f4.keep fun k k1 k2 => g5 k (.inr k1)
  · have e1 := congrArg List.length hl
    have e2 := congrArg List.length hp
    rw [Array.length_toList, List.length_append, List.length_cons] at e1 e2
    rw [List.length_cons] at e2
    omega
theorem ChainU.mod {arr : Array Keyed} {f : Nat × Nat × Nat → Nat × Nat × Nat} (hf : ∀ x, (f x).1 = x.1 ∧ (f x).2.1 = x.2.1) : ∀ {p : List (Nat × Nat × Nat)} {i b e : Nat}, ChainU lt arr p b e → ChainU lt arr (p.modify i f) b e
  | [], i, b, e, h => by
    rw [List.modify_nil]
    exact h
  | x :: r, 0, b, e, ⟨h1, h2, h3, h4⟩ => by
    rw [List.modify_zero_cons]
    refine ⟨(hf x).1.trans h1, ?_, ?_, ?_⟩
    · rw [(hf x).2]; exact h2
    · rw [(hf x).2]; exact h3
    · rw [(hf x).2]; exact h4
  | x :: r, i + 1, b, e, ⟨h1, h2, h3, h4⟩ => by
    rw [List.modify_succ_cons]
    exact ⟨h1, h2, h3, ChainU.mod hf h4⟩
theorem GoodR.push {a₀ : Array Keyed} {st : SortSt} {e n : Nat} (G : GoodR κ lt a₀ st e) (h1 : 1 ≤ n) (hu : UpI lt (arrOf st) e n) : GoodR κ lt a₀ (setPending st ((pendingOf st).push (e, n, 0))) (e + n) := by
  refine ⟨G.kind, G.fail, G.perm, ?_⟩
  show ChainU lt (arrOf st) ((pendingOf st).push (e, n, 0)).toList 0 (e + n)
  rw [Array.toList_push]
  exact ChainU.join G.chain ⟨rfl, h1, hu, rfl⟩
theorem GoodR.mod {a₀ : Array Keyed} {st : SortSt} {e i : Nat} {f : Nat × Nat × Nat → Nat × Nat × Nat} (hf : ∀ x, (f x).1 = x.1 ∧ (f x).2.1 = x.2.1) (G : GoodR κ lt a₀ st e) : GoodR κ lt a₀ (setPending st ((pendingOf st).modify i f)) e := by
  refine ⟨G.kind, G.fail, G.perm, ?_⟩
  show ChainU lt (arrOf st) ((pendingOf st).modify i f).toList 0 e
  rw [Array.toList_modify]
  exact ChainU.mod hf G.chain
theorem UpI.keep {arr arr' : Array Keyed} {lo n : Nat} (h : UpI lt arr lo n) (hk : ∀ k, lo ≤ k → gK arr' k = gK arr k) : UpI lt arr' lo n := fun i j i1 i2 i3 => by
  rw [hk i i1, hk j (by omega)]
  exact h i j i1 i2 i3
theorem ite_bd {c : Prop} [Decidable c] {x y n : Nat} (h1 : x + 1 < n) (h2 : y + 1 < n) : (if c then x else y) + 1 < n := by split <;> assumption
set_option maxHeartbeats 4000000 in
theorem wpS_sortRunsU (hc : CmpU prog w A s κ U lt) (O : OrdU U lt) {a₀ : Array Keyed} (hA : ArrU U a₀) {st : SortSt} (hk : PyProof.Rows.kindOf st = κ) (hf : failedOf st = none) (hp : pendingOf st = #[]) (ha : arrOf st = a₀) (h2 : 2 ≤ a₀.size) {Q : Unit → SortSt → Prop}
    (h : ∀ st' : SortSt, (arrOf st').Perm a₀ → failedOf st' = none → UpI lt (arrOf st') 0 a₀.size → Q () st') : wpS (model prog w) A E s sortRuns' Q st := by
  rw [sortRuns'_eq]
  refine wpS_bind (wpS_get ?_)
  try dsimp only
  rw [ha]
  generalize minRun' a₀.size a₀.size 0 = mr
  refine wpS_bind (wpS_mono (wpS_forRange (I := fun i c st' => c.1 = none ∧ GoodR κ lt a₀ st' c.2 ∧ c.2 ≤ a₀.size ∧ i ≤ c.2) (Q := fun c st' => c.1 = none ∧ GoodR κ lt a₀ st' a₀.size) ?_ ?_ ⟨rfl, ⟨hk, hf, by rw [ha], by rw [hp]; rfl⟩, Nat.zero_le _, Nat.zero_le _⟩) ?_)
  rotate_left
  · rintro ⟨r, lo⟩ st' ⟨hr, G, h3, h4⟩
    have h4 : max 0 a₀.size ≤ lo := h4
    have h3 : lo ≤ a₀.size := h3
    have e : lo = a₀.size := by omega
    subst e
    exact ⟨hr, G⟩
  · rintro ⟨r, lo⟩ st' ⟨hr, G⟩
    have hr' : r = none := hr
    subst hr'
    try dsimp only
    refine wpS_bind (wpS_mono (wpS_forRange (I := fun i c st2 => c = (none, ()) ∧ GoodR κ lt a₀ st2 a₀.size ∧ (pendingOf st2).size + i ≤ a₀.size) (Q := fun c st2 => c = (none, ()) ∧ GoodR κ lt a₀ st2 a₀.size ∧ (pendingOf st2).size ≤ 1) ?_ ?_ ⟨rfl, G, by have e5 := G.chain.le; rw [Array.length_toList] at e5; omega⟩) ?_)
    · rintro i c st2 _ hi ⟨rfl, G2, h5⟩
      refine wpS_bind (wpS_get ?_)
      try dsimp only
      by_cases z : (pendingOf st2).size ≤ 1
      · rw [if_pos z]
        exact wpS_pure ⟨rfl, G2, z⟩
      rw [if_neg z]
      refine wpS_bind (wpS_mergeC hc O hA G2 (Nat.le_refl _) (ite_bd (by omega) (by omega)) fun st3 G3 s3 _ => ?_)
      rw [if_neg (by decide)]
      exact wpS_pure ⟨rfl, G3, by omega⟩
    · rintro c st2 ⟨rfl, G2, h5⟩
      exact ⟨rfl, G2, by omega⟩
    · rintro c st2 ⟨rfl, G2, h5⟩
      try dsimp only
      refine wpS_pure (h st2 G2.perm G2.fail ?_)
      have ch := G2.chain
      rw [← Array.length_toList] at h5
      generalize (pendingOf st2).toList = p at ch h5
      cases p with
      | nil =>
        have e0 : 0 = a₀.size := ch
        omega
      | cons x r =>
        rw [List.length_cons] at h5
        have er : r = [] := List.eq_nil_of_length_eq_zero (by omega)
        subst er
        obtain ⟨_, _, c3, c4⟩ := ch
        have c4 : 0 + x.2.1 = a₀.size := c4
        rw [Nat.zero_add] at c4
        rw [← c4]
        exact c3
  rintro i ⟨r, lo⟩ st1 _ hi ⟨hr, G, h3, h4⟩
  have hr' : r = none := hr
  subst hr'
  have h3 : lo ≤ a₀.size := h3
  have h4 : i ≤ lo := h4
  have G : GoodR κ lt a₀ st1 lo := G
  try dsimp only
  by_cases e : lo ≥ a₀.size
  · rw [if_pos e]
    have e' : lo = a₀.size := by omega
    subst e'
    exact wpS_pure ⟨rfl, G⟩
  rw [if_neg e]
  have hsz := G.perm.size_eq
  refine wpS_bind (wpS_countRunU hc O G.kind (hA.perm G.perm) (by omega) (by omega) fun m st2 m1 m2 kp hu => ?_)
  try dsimp only
  have G2 : GoodR κ lt a₀ st2 lo := ⟨kp.kind.trans G.kind, kp.fail.trans G.fail, kp.perm.trans G.perm, by rw [kp.pend]; exact G.chain.keep fun k _ k2 => kp.low k k2⟩
  by_cases zm : m < mr
  · rw [if_pos zm]
    refine wpS_bind (wpS_lift (wpAny_rule ⟨rfl, ?_⟩))
    have hsz2 := G2.perm.size_eq
    refine wpS_bind (wpS_binarySortU hc O G2.kind (hA.perm G2.perm) (by omega) m1 (by omega) hu fun st3 kp3 hu3 => ?_)
    have G3 : GoodR κ lt a₀ st3 lo := ⟨kp3.kind.trans G2.kind, kp3.fail.trans G2.fail, kp3.perm.trans G2.perm, by rw [kp3.pend]; exact G2.chain.keep fun k _ k2 => kp3.low k k2⟩
    try dsimp only
    rw [if_neg (by decide)]
    have n1 : 1 ≤ min (a₀.size - lo) mr := by omega
    refine wpS_bind (wpS_get ?_)
    try dsimp only
    cases hb : (pendingOf st3).back? with
    | none =>
      try dsimp only
      exact wpS_bind (wpS_modify (wpS_pure ⟨rfl, G3.push n1 hu3, by show lo + (min (a₀.size - lo) mr) ≤ a₀.size; omega, by show i + 1 ≤ lo + (min (a₀.size - lo) mr); omega⟩))
    | some x =>
      obtain ⟨s1, n1', pw1⟩ := x
      try dsimp only
      refine wpS_bind (wpS_mono (wpS_forRange (I := fun _ c st' => c = (none, ()) ∧ GoodR κ lt a₀ st' lo ∧ UpI lt (arrOf st') lo (min (a₀.size - lo) mr)) (Q := fun c st' => c = (none, ()) ∧ GoodR κ lt a₀ st' lo ∧ UpI lt (arrOf st') lo (min (a₀.size - lo) mr)) ?_ (fun c st' hh => hh) ⟨rfl, G3, hu3⟩) ?_)
      · rintro j c st4 _ _ ⟨rfl, G4, hu4⟩
        refine wpS_bind (wpS_get ?_)
        try dsimp only
        by_cases z : (pendingOf st4).size > 1
        · obtain ⟨q, hq⟩ : ∃ q, (pendingOf st4)[(pendingOf st4).size - 2]? = some q := ⟨_, Array.getElem?_eq_getElem (by omega)⟩
          rw [if_pos z, hq]
          obtain ⟨q1, q2, q3⟩ := q
          try dsimp only
          split
          · exact wpS_pure ⟨rfl, G4, hu4⟩
          · refine wpS_bind (wpS_mergeC hc O hA G4 h3 (by omega) fun st5 G5 _ g5 => ?_)
            try dsimp only
            rw [if_neg (by decide)]
            exact wpS_pure ⟨rfl, G5, hu4.keep g5⟩
        · rw [if_neg z]
          exact wpS_pure ⟨rfl, G4, hu4⟩
      · rintro c st4 ⟨rfl, G4, hu4⟩
        try dsimp only
        refine wpS_bind (wpS_modify (wpS_bind (wpS_modify (wpS_pure ⟨rfl, GoodR.push (GoodR.mod ?_ G4) n1 hu4, by show lo + (min (a₀.size - lo) mr) ≤ a₀.size; omega, by show i + 1 ≤ lo + (min (a₀.size - lo) mr); omega⟩))))
        exact fun _ => ⟨rfl, rfl⟩
  · rw [if_neg zm]
    have n1 := m1
    have hu3 := hu
    have G3 := G2
    obtain ⟨st3, est⟩ : ∃ q, q = st2 := ⟨_, rfl⟩
    subst est
    refine wpS_bind (wpS_get ?_)
    try dsimp only
    cases hb : (pendingOf st3).back? with
    | none =>
      try dsimp only
      exact wpS_bind (wpS_modify (wpS_pure ⟨rfl, G3.push n1 hu3, by show lo + m ≤ a₀.size; omega, by show i + 1 ≤ lo + m; omega⟩))
    | some x =>
      obtain ⟨s1, n1', pw1⟩ := x
      try dsimp only
      refine wpS_bind (wpS_mono (wpS_forRange (I := fun _ c st' => c = (none, ()) ∧ GoodR κ lt a₀ st' lo ∧ UpI lt (arrOf st') lo m) (Q := fun c st' => c = (none, ()) ∧ GoodR κ lt a₀ st' lo ∧ UpI lt (arrOf st') lo m) ?_ (fun c st' hh => hh) ⟨rfl, G3, hu3⟩) ?_)
      · rintro j c st4 _ _ ⟨rfl, G4, hu4⟩
        refine wpS_bind (wpS_get ?_)
        try dsimp only
        by_cases z : (pendingOf st4).size > 1
        · obtain ⟨q, hq⟩ : ∃ q, (pendingOf st4)[(pendingOf st4).size - 2]? = some q := ⟨_, Array.getElem?_eq_getElem (by omega)⟩
          rw [if_pos z, hq]
          obtain ⟨q1, q2, q3⟩ := q
          try dsimp only
          split
          · exact wpS_pure ⟨rfl, G4, hu4⟩
          · refine wpS_bind (wpS_mergeC hc O hA G4 h3 (by omega) fun st5 G5 _ g5 => ?_)
            try dsimp only
            rw [if_neg (by decide)]
            exact wpS_pure ⟨rfl, G5, hu4.keep g5⟩
        · rw [if_neg z]
          exact wpS_pure ⟨rfl, G4, hu4⟩
      · rintro c st4 ⟨rfl, G4, hu4⟩
        try dsimp only
        refine wpS_bind (wpS_modify (wpS_bind (wpS_modify (wpS_pure ⟨rfl, GoodR.push (GoodR.mod ?_ G4) n1 hu4, by show lo + m ≤ a₀.size; omega, by show i + 1 ≤ lo + m; omega⟩))))
        exact fun _ => ⟨rfl, rfl⟩
end
end L2

namespace L2
open PySem PySem.W PySem.Spec PyProof.Rows
/-! ### sorted of a list of pairs of numbers, all unlike, of any length -/
def intVU : Option Value → Int
  | some (.int a _) => a
  | _ => 0
def pairOfU (h : Heap) : Value → Int × Int
  | .ref a => match h.get? a with
    | some o => match o.data with
      | .seq xs _ => (intVU xs[0]?, intVU xs[1]?)
      | _ => (0, 0)
    | none => (0, 0)
  | _ => (0, 0)
theorem TupsI.pair {h : Heap} {vs : List Value} {ps : List (Int × Int)} (T : TupsI h vs ps) {i : Nat} (hi : i < ps.length) : pairOfU h (vs.getD i Value.none) = prAt ps i := by
  obtain ⟨a, o, t, u, n, e1, e2, e3⟩ := T.at hi
  rw [e1]
  unfold pairOfU
  dsimp only
  rw [e2]
  dsimp only
  rw [e3]
  rfl
theorem perm_map_inv {α β : Type} {f : α → β} {l m : List β} (p : l.Perm m) : ∀ r : List α, m = r.map f → ∃ r' : List α, r'.Perm r ∧ l = r'.map f := by
  induction p with
  | nil => exact fun r e => ⟨r, List.Perm.refl _, e⟩
  | cons x _ ih =>
    intro r e
    cases r with
    | nil => cases e
    | cons y r =>
      rw [List.map_cons] at e
      obtain ⟨e1, e2⟩ := List.cons.inj e
      obtain ⟨r', h1, h2⟩ := ih r e2
      exact ⟨y :: r', h1.cons y, by rw [List.map_cons, ← h2, e1]⟩
  | swap x y l =>
    intro r e
    match r, e with
    | a :: b :: r, e =>
      rw [List.map_cons, List.map_cons] at e
      obtain ⟨e1, e2⟩ := List.cons.inj e
      obtain ⟨e3, e4⟩ := List.cons.inj e2
      exact ⟨b :: a :: r, List.Perm.swap a b r, by rw [List.map_cons, List.map_cons, e1, e3, e4]⟩
  | trans _ _ ih1 ih2 =>
    intro r e
    obtain ⟨r2, h1, h2⟩ := ih2 r e
    obtain ⟨r1, h3, h4⟩ := ih1 r2 h2
    exact ⟨r1, h3.trans h1, h4⟩
theorem lex_self (p : Int × Int) : lexB p p = false := by
  cases e : lexB p p with
  | false => rfl
  | true =>
    have := lexB_iff.mp e
    omega
section
variable {prog : Program} {w : World} {A : Around} {E : Value → Shared → Prop} {s : Shared}
def itemU (vs : List Value) (i : Nat) : Keyed := (vs.getD i Value.none, vs.getD i Value.none)
theorem run_pairs {vs : List Value} {ps : List (Int × Int)} (T : TupsI s.heap vs ps) (nd : ps.Nodup) (h2 : 2 ≤ vs.length) :
    wpAny (model prog w) A ((sortRuns').run (SortSt.mk' (tuples' true) (vs.toArray.zip vs.toArray) #[] 7 none)) (fun r s' => s' = s ∧ ∃ π : List Nat, π.Perm (List.range ps.length) ∧ (π.map (prAt ps)).Pairwise (fun a b => lexB a b = true) ∧ (arrOf r.2).map (·.2) = List.toArray (π.map fun i => vs.getD i Value.none) ∧ failedOf r.2 = none) E s := by
  have hl := T.len
  have ez : (vs.toArray.zip vs.toArray).toList = (List.range ps.length).map (itemU vs) := by
    rw [Array.toList_zip]
    refine List.ext_getElem? fun i => ?_
    rw [List.getElem?_map]
    by_cases c : i < vs.length
    · rw [List.getElem?_range (by omega), List.getElem?_eq_getElem (by rw [List.length_zip]; show i < min vs.length vs.length; omega), List.getElem_zip]
      show some (vs[i], vs[i]) = some (itemU vs i)
      unfold itemU
      rw [List.getD_eq_getElem?_getD, List.getElem?_eq_getElem c]
      rfl
    · rw [List.getElem?_eq_none (by rw [List.length_zip]; show min vs.length vs.length ≤ i; omega), List.getElem?_eq_none (by rw [List.length_range]; omega)]
      rfl
  have hc : CmpU prog w A s (tuples' true) (fun x => ∃ i, i < ps.length ∧ x = itemU vs i) (fun x y => lexB (pairOfU s.heap x.1) (pairOfU s.heap y.1)) := ⟨by
    rintro x y ⟨i, hi, rfl⟩ ⟨j, hj, rfl⟩ C hC
    have e1 : pairOfU s.heap (itemU vs i).1 = prAt ps i := T.pair hi
    have e2 : pairOfU s.heap (itemU vs j).1 = prAt ps j := T.pair hj
    have hC : C (lexB (pairOfU s.heap (itemU vs i).1) (pairOfU s.heap (itemU vs j).1)) s := hC
    rw [e1, e2] at hC
    exact tups_lt T hi hj hC⟩
  have O : OrdU (fun x => ∃ i, i < ps.length ∧ x = itemU vs i) (fun x y : Keyed => lexB (pairOfU s.heap x.1) (pairOfU s.heap y.1)) := by
    refine ⟨fun x y z _ _ _ a b => ?_, ?_, fun x _ => lex_self _⟩
    · have a := lexB_iff.mp a
      have b := lexB_iff.mp b
      exact lexB_iff.mpr (by omega)
    · rintro x y ⟨i, hi, rfl⟩ ⟨j, hj, rfl⟩ ne hlt
      have e1 : pairOfU s.heap (itemU vs i).1 = prAt ps i := T.pair hi
      have e2 : pairOfU s.heap (itemU vs j).1 = prAt ps j := T.pair hj
      have hlt : lexB (pairOfU s.heap (itemU vs i).1) (pairOfU s.heap (itemU vs j).1) = false := hlt
      show lexB (pairOfU s.heap (itemU vs j).1) (pairOfU s.heap (itemU vs i).1) = true
      rw [e1, e2] at *
      exact (lex_ord nd).tot i j hi hj (fun z => ne (by rw [z])) hlt
  have hA : ArrU (fun x => ∃ i, i < ps.length ∧ x = itemU vs i) (vs.toArray.zip vs.toArray) := by
    refine ⟨fun x hx => ?_, ?_⟩
    · rw [ez] at hx
      obtain ⟨i, hi, rfl⟩ := List.mem_map.mp hx
      exact ⟨i, List.mem_range.mp hi, rfl⟩
    · rw [ez]
      refine List.pairwise_map.mpr (List.pairwise_iff_getElem.mpr fun i j hi hj hij z => ?_)
      rw [List.length_range] at hi hj
      rw [List.getElem_range, List.getElem_range] at z
      have e1 : pairOfU s.heap (itemU vs i).1 = prAt ps i := T.pair hi
      have e2 : pairOfU s.heap (itemU vs j).1 = prAt ps j := T.pair hj
      rw [z, e2] at e1
      have a1 := pr_get hi
      have a2 := pr_get hj
      rw [← e1] at a1
      rw [List.getElem?_eq_getElem hi] at a1
      rw [List.getElem?_eq_getElem hj] at a2
      exact (List.pairwise_iff_getElem.mp nd i j hi hj hij) ((Option.some.inj a1).trans (Option.some.inj a2).symm)
  have hsz : (vs.toArray.zip vs.toArray).size = ps.length := by rw [← Array.length_toList, ez, List.length_map, List.length_range]
  refine wpAny_mono (wpS_sortRunsU (E := E) (Q := fun _ st' => ∃ π : List Nat, π.Perm (List.range ps.length) ∧ (π.map (prAt ps)).Pairwise (fun a b => lexB a b = true) ∧ (arrOf st').map (·.2) = List.toArray (π.map fun i => vs.getD i Value.none) ∧ failedOf st' = none) hc O hA rfl rfl rfl rfl (by omega) fun st' p1 p2 p3 => ?_) (fun r s' hr => hr) fun _ _ e => e
  have hs' := p1.size_eq
  obtain ⟨π, q1, q2⟩ := perm_map_inv (Array.perm_iff_toList_perm.mp p1) (List.range ps.length) ez
  have hπ : ∀ i ∈ π, i < ps.length := fun i hi => List.mem_range.mp (q1.mem_iff.mp hi)
  refine ⟨π, q1, ?_, ?_, p2⟩
  · have hu := upU_of (lo := 0) (n := (vs.toArray.zip vs.toArray).size) (by omega) p3
    rw [List.drop_zero, List.take_of_length_le (by rw [Array.length_toList]; omega), q2] at hu
    refine List.pairwise_map.mpr ((List.pairwise_map.mp hu).imp_of_mem fun {a b} ha hb hab => ?_)
    have e1 : pairOfU s.heap (itemU vs a).1 = prAt ps a := T.pair (hπ a ha)
    have e2 : pairOfU s.heap (itemU vs b).1 = prAt ps b := T.pair (hπ b hb)
    have hab : lexB (pairOfU s.heap (itemU vs a).1) (pairOfU s.heap (itemU vs b).1) = true := hab
    rw [e1, e2] at hab
    exact hab
  · apply Array.toList_inj.mp
    rw [Array.toList_map, q2, List.map_map]
    rfl
theorem sort_pairsU {a : Addr} {vs : List Value} {ps : List (Int × Int)} {n : Nat} {P : Fin → Shared → Prop} (ho : s.heap.get? a = some (seqObj "list" vs.toArray n)) (T : TupsI s.heap vs ps) (nd : ps.Nodup) (h64 : vs.length < 1000000)
    (h : ∀ π : List Nat, π.Perm (List.range ps.length) → (π.map (prAt ps)).Pairwise (fun a b => lexB a b = true) → P (.done (.ret .none)) { s with heap := sortedHeap s.heap a vs (List.toArray (π.map fun i => vs.getD i Value.none)) }) :
    wpAny (model prog w) A (Builtin.«list.sort» ⟨[.ref a], []⟩) P E s := by
  rw [list_sort_plain]
  have ha : a < s.heap.objs.size := Heap.lt_size ho
  have hl := T.len
  refine wpAny_bind (listItems_at ho rfl ?_)
  refine wpAny_bind (listUpdate_at ho rfl ?_ (by rw [List.size_toArray, sizeLine_eq]; omega) (Nat.zero_le _))
  obtain ⟨e1, ho1⟩ : ∃ e1, (s.heap.update a (Obj.mapSeq fun _ => #[])).get? a = some (seqObj "list" #[] e1) := ⟨_, get?_update_seq ho (fun _ => #[])⟩
  refine wpAny_bind (seqEpoch_at ho1 rfl ?_)
  refine wpAny_bind (wpAny_newTuple ?_ (by show vs.length ≤ _; rw [sizeLine_eq]; omega))
  refine wpAny_bind (wpAny_newList ?_ (Nat.zero_le _))
  refine wpAny_holding ?_
  have ho6 : (((s.heap.update a (Obj.mapSeq fun _ => #[])).push (seqObj "tuple" vs.toArray 0)).push (seqObj "list" #[] 0)).get? a = some (seqObj "list" #[] e1) := Heap.get?_push_of_some _ (Heap.get?_push_of_some _ ho1)
  have T6 : TupsI (((s.heap.update a (Obj.mapSeq fun _ => #[])).push (seqObj "tuple" vs.toArray 0)).push (seqObj "list" #[] 0)) vs ps := T.keep fun b o e hc => by
    have nb : b ≠ a := fun z => by
      rw [z, ho] at e
      cases e
      exact absurd (show Value.type "list" = Value.type "tuple" from hc) (by decide)
    exact Heap.get?_push_of_some _ (Heap.get?_push_of_some _ ((Heap.get?_update_ne _ _ _ _ nb).trans e))
  show wpAny (model prog w) A _ P E { s with heap := ((s.heap.update a (Obj.mapSeq fun _ => #[])).push (seqObj "tuple" vs.toArray 0)).push (seqObj "list" #[] 0) }
  dsimp only
  by_cases h2 : vs.toArray.size < 2
  · rw [if_pos h2, if_pos h2]
    refine wpAny_bind (wpAny_pure ?_)
    rw [StateT.run_pure]
    refine wpAny_bind (wpAny_pure ?_)
    dsimp only
    refine wpAny_bind (seqEpoch_at ho6 rfl ?_)
    have hfin := h (List.range ps.length) (List.Perm.refl _) (by
      rw [List.size_toArray, hl] at h2
      refine List.pairwise_iff_getElem.mpr fun i j hi hj hij => ?_
      rw [List.length_map, List.length_range] at hj
      omega)
    rw [← hl, range_getD] at hfin
    have ez : ((vs.toArray.zip vs.toArray).map fun x => x.2) = vs.toArray := by
      apply Array.toList_inj.mp
      rw [Array.toList_map, Array.toList_zip]
      exact List.map_snd_zip (Nat.le_refl _)
    refine wpAny_bind (listUpdate_at ho6 rfl ?_ (Nat.zero_le _) (by show ((vs.toArray.zip vs.toArray).map fun x => x.2).size ≤ _; rw [ez, List.size_toArray, sizeLine_eq]; omega))
    simp only [bne_self_eq_false, Bool.false_eq_true, if_false]
    refine wpAny_pure ?_
    show P _ { s with heap := sortedHeap s.heap a vs ((vs.toArray.zip vs.toArray).map fun x => x.2) }
    rw [ez]
    exact hfin
  · rw [if_neg h2, if_neg h2]
    rw [List.size_toArray] at h2
    obtain ⟨fs, k1, k2, k3⟩ := T6.firsts
    refine wpAny_bind (kat_kind (T := .type "int") k1 (by omega) (fun v hv => ?_) rfl ?_)
    · obtain ⟨i, t, rfl⟩ := k3 v hv
      exact Looks.now
    refine wpAny_bind (wpAny_mono (run_pairs (s := { s with heap := ((s.heap.update a (Obj.mapSeq fun _ => #[])).push (seqObj "tuple" vs.toArray 0)).push (seqObj "list" #[] 0) }) T6 nd (by omega)) ?_ fun _ _ e => e)
    rintro ⟨⟨⟩, st'⟩ s' ⟨rfl, π, hp, hu, es, hf⟩
    dsimp only at es hf ⊢
    have hpl : π.length = ps.length := by rw [hp.length_eq, List.length_range]
    refine wpAny_bind (seqEpoch_at ho6 rfl ?_)
    refine wpAny_bind (listUpdate_at ho6 rfl ?_ (Nat.zero_le _) (by show ((arrOf st').map fun x => x.2).size ≤ _; rw [es, List.size_toArray, List.length_map, hpl, sizeLine_eq]; omega))
    rw [hf]
    simp only [bne_self_eq_false, Bool.false_eq_true, if_false]
    refine wpAny_pure ?_
    show P _ { s with heap := sortedHeap s.heap a vs ((arrOf st').map fun x => x.2) }
    rw [es]
    exact h π hp hu
theorem sorted_pairsU {l : Addr} {vs : List Value} {ps : List (Int × Int)} {Q : Value → Shared → Prop} (hl : s.heap.IsList l vs.toArray) (T : TupsI s.heap vs ps) (nd : ps.Nodup) (h64 : vs.length < 1000000)
    (h : ∀ π : List Nat, π.Perm (List.range ps.length) → (π.map (prAt ps)).Pairwise (fun a b => lexB a b = true) → Q (.ref (s.heap.objs.size + 1)) { s with heap := sortedAll s.heap vs (List.toArray (π.map fun i => vs.getD i Value.none)) }) :
    wpAny (model prog w) A (call (.builtin "sorted") [.ref l]) Q E s := by
  refine Calls.call_function_entry kind_sorted plain_sorted entry_sorted (args_sorted1 _) ?_
  unfold Builtin.«sorted»
  refine wpAny_bind (m := checkCount "sorted" 1 1 _) (wpAny_pure ?_)
  refine wpAny_bind (collect_list hl ?_ (by rw [sizeLine_eq]; omega))
  refine wpAny_bind (wpAny_newList ?_ (by rw [sizeLine_eq]; omega))
  have hsz : ((s.heap.push (seqObj "list" #[] 0)).update s.heap.objs.size (Obj.mapSeq (· ++ vs.toArray))).objs.size = s.heap.objs.size + 1 := by
    rw [Heap.size_update, size_push']
  have hoL : (((s.heap.push (seqObj "list" #[] 0)).update s.heap.objs.size (Obj.mapSeq (· ++ vs.toArray))).push (seqObj "list" vs.toArray 0)).get? (s.heap.objs.size + 1) = some (seqObj "list" vs.toArray 0) := by
    rw [← hsz]; exact Heap.get?_push_size _ rfl
  have keep : ∀ b o, s.heap.get? b = some o → (((s.heap.push (seqObj "list" #[] 0)).update s.heap.objs.size (Obj.mapSeq (· ++ vs.toArray))).push (seqObj "list" vs.toArray 0)).get? b = some o := fun b o q => by
    have hlt : b < s.heap.objs.size := Heap.lt_size q
    rw [Heap.get?_push_ne _ _ _ (by rw [hsz]; exact Nat.ne_of_lt (Nat.lt_succ_of_lt hlt)), Heap.get?_update_ne _ _ _ _ (Nat.ne_of_lt hlt), Heap.get?_push_ne _ _ _ (Nat.ne_of_lt hlt)]
    exact q
  show wpAny _ _ _ _ _ { s with heap := ((s.heap.push (seqObj "list" #[] 0)).update s.heap.objs.size (Obj.mapSeq (· ++ vs.toArray))).push (seqObj "list" vs.toArray 0) }
  rw [hsz]
  refine wpAny_bind (wpAny_holding (wpAny_call_entry slot_list_sort ⟨_, hoL, rfl⟩ entry_list_sort (sort_pairsU (s := { s with heap := ((s.heap.push (seqObj "list" #[] 0)).update s.heap.objs.size (Obj.mapSeq (· ++ vs.toArray))).push (seqObj "list" vs.toArray 0) }) hoL (T.keep fun b o e _ => keep b o e) nd h64 fun π a1 a2 => ⟨_, rfl, ?_⟩) (args_list_sort _)))
  exact wpAny_pure ⟨_, rfl, h π a1 a2⟩
end
section
variable {X : Cx}
theorem call_sortedPU : CallR X (.builtin "sorted") (fun xs H Q => ∃ (a : Addr) (zs : List V) (ps : List (Int × Int)), xs = [.ref a] ∧ H a = some (.lst zs) ∧ PrsV H zs ps ∧ ps.length < 1000000 ∧ ps.Nodup ∧
    ∀ (l : Addr) (ys : List V) (qs : List (Int × Int)), qs.Perm ps → qs.Pairwise (fun a b => lexB a b = true) → PrsV H ys qs → H l = none → Q (.ref l) (upd H l (.lst ys))) := by
  intro pins s σ H xs us Q I r h
  obtain ⟨a, zs, ps, rfl, hH, hP, hl, nd, q⟩ := h
  obtain ⟨u, rfl, rx⟩ := vals1 r
  cases rx
  obtain ⟨its, r', pl, hz⟩ := I.list (SqL.of (K := X.K) hH)
  have hlen := r'.length
  have hzl := hP.1
  refine sorted_pairsU pl.isList (tups_of I r' hP) nd (by omega) fun π a1 a2 => ?_
  obtain ⟨e, he⟩ := sortedAll_at s.heap its (List.toArray (π.map fun i => its.getD i Value.none))
  have hπ : ∀ i ∈ π, i < ps.length := fun i hi => List.mem_range.mp (a1.mem_iff.mp hi)
  have hpl : π.length = ps.length := by rw [a1.length_eq, List.length_range]
  have hperm : (π.map (prAt ps)).Perm ps := by
    have := a1.map (prAt ps)
    have e2 : (List.range ps.length).map (prAt ps) = ps := by
      refine List.ext_getElem? fun i => ?_
      rw [List.getElem?_map]
      by_cases h : i < ps.length
      · rw [List.getElem?_range h, pr_get h]
        rfl
      · rw [List.getElem?_eq_none (by rw [List.length_range]; omega), List.getElem?_eq_none (by omega)]
        rfl
    rw [e2] at this
    exact this
  refine ⟨.ref _, _, I.laid (t' := s.toks) (o := .lst (π.map fun i => zs.getD i .non)) (fun b ob q => sortedAll_old q) (Nat.le_succ _) ?_, rfl, q _ _ _ hperm a2 (hP.order hπ) (I.hok.fresh (Nat.le_succ _))⟩
  exact ⟨by rw [List.length_map, sizeLine_eq]; omega, π.map fun i => its.getD i Value.none, e, vals_getD r' π (fun i hi => by have := hπ i hi; omega), he⟩
end
end L2

namespace L2
open PySem PySem.Spec PyProof.Rows PySem.SeqAt PySem.MeetsSeq
/-! ### any of truths; min and max of a pair of numbers -/
section
variable {X : Cx}
theorem call_anyB (hc : X.calm = true) : CallR X (.builtin "any") (fun xs H Q => ∃ (p : Addr) (bs : List Bool), xs = [.ref p] ∧ SqL X.K H p (bs.map V.bl) ∧ Q (.bl (bs.any id)) H) := by
  intro pins s σ H xs us Q I r h
  obtain ⟨p, bs, rfl, hq, q⟩ := h
  obtain ⟨u, rfl, ru⟩ := vals1 r
  cases ru
  obtain ⟨its, rv, pl, _⟩ := I.list hq
  obtain rfl := vals_bl rv
  have hlt : p < s.heap.objs.size := by obtain ⟨o, _, e, _⟩ := pl; exact Heap.lt_size e
  refine call_any_walk (wpAny_pyIter_list pl.isList ?_)
  refine ⟨s.heap.objs.size, [s.heap.objs.size, p], [s.heap.objs.size], _, _, _, fun i => bs.getD i false, rfl, Walks.list (show X.A.in1.handled = none from I.ok.hd hc) _ p (Nat.ne_of_lt hlt) (bs.map Value.bool).toArray, ⟨⟨_, Heap.get?_push_size _ rfl, rfl, rfl⟩, pl.isList.push _⟩, ?_, ?_⟩
  · intro i v s' Q' E' hP hQ'
    have hv : bs[i]?.map Value.bool = some v := by simpa using hP
    obtain ⟨b, hb, rfl⟩ := Option.map_eq_some_iff.mp hv
    have e2 : bs.getD i false = b := by rw [List.getD_eq_getElem?_getD, hb]; rfl
    have hQ2 : Q' (bs.getD i false) s' := hQ'
    rw [e2] at hQ2
    exact wpAny_truthy_bool hQ2
  · intro h' tk kk
    have e3 : (List.range (bs.map Value.bool).toArray.size).any (fun i => bs.getD i false) = bs.any id := by
      rw [List.size_toArray, List.length_map, Bool.eq_iff_iff, List.any_eq_true, List.any_eq_true]
      constructor
      · rintro ⟨i, hi, hv⟩
        have hi' := List.mem_range.mp hi
        rw [List.getD_eq_getElem?_getD, List.getElem?_eq_getElem hi'] at hv
        exact ⟨_, List.getElem_mem hi', hv⟩
      · rintro ⟨b, hb, hv⟩
        obtain ⟨i, hi, rfl⟩ := List.getElem_of_mem hb
        refine ⟨i, List.mem_range.mpr hi, ?_⟩
        rw [List.getD_eq_getElem?_getD, List.getElem?_eq_getElem hi]
        exact hv
    rw [e3]
    refine ⟨.bl (bs.any id), H, I.kept (h' := h') (t' := tk) fun b o e => kk b o (fun z => ?_) (Heap.get?_push_of_some _ e), rfl, q⟩
    rw [List.mem_singleton.mp z] at e
    exact absurd (Heap.lt_size e) (Nat.lt_irrefl _)
theorem pair_walk {pins : List (Addr × Obj)} {σ : St} {H : Hp} {s : Shared} (I : Inv X pins σ H s) {p : Addr} {i j : Int} (hp : H p = some (.tup [.int i, .int j])) :
    ∃ t u : Tok, s.heap.IsTuple p (intItems #[(i, t), (j, u)]) ∧ p < s.heap.objs.size ∧ (s.heap.push { cls := .type "tuple_iterator", data := .fields #[.ref p, .int 0 0] }).objs.size = s.heap.objs.size + 1 := by
  obtain ⟨its, r', ht, _⟩ := I.tuple (SqT.of (K := X.K) hp)
  obtain ⟨u1, u2, rfl, ⟨t1, rfl⟩, ⟨t2, rfl⟩⟩ := Vals.two r'
  obtain ⟨o, ho, hc, n, hd⟩ := ht
  exact ⟨t1, t2, ⟨o, ho, hc, n, by rw [hd]; simp [intItems]⟩, Heap.lt_size ho, Heap.size_push ..⟩
theorem best_two {g : Int → Int → Bool} {i j : Int} {t u : Tok} {v : Value} (h : (intItems #[(i, t), (j, u)])[argBest (fun a b => g (numAt #[(i, t), (j, u)] a) (numAt #[(i, t), (j, u)] b)) ((intItems #[(i, t), (j, u)]).size - 1)]? = some v) : ∃ k, v = .int (if g j i = true then j else i) k := by
  have e : argBest (fun a b => g (numAt #[(i, t), (j, u)] a) (numAt #[(i, t), (j, u)] b)) ((intItems #[(i, t), (j, u)]).size - 1) = if g j i = true then 1 else 0 := by
    have hs : (intItems #[(i, t), (j, u)]).size - 1 = 1 := by simp [intItems]
    rw [hs]
    simp [argBest, numAt]
  rw [e] at h
  by_cases c : g j i = true
  · rw [if_pos c] at h ⊢
    exact ⟨u, by simpa [intItems] using h.symm⟩
  · rw [if_neg c] at h ⊢
    exact ⟨t, by simpa [intItems] using h.symm⟩
theorem call_minP (hc : X.calm = true) : CallR X (.builtin "min") (fun xs H Q => ∃ (p : Addr) (i j : Int), xs = [.ref p] ∧ H p = some (.tup [.int i, .int j]) ∧ Q (.int (if j < i then j else i)) H) := by
  intro pins s σ H xs us Q I r h
  obtain ⟨p, i, j, rfl, hp, q⟩ := h
  obtain ⟨x, rfl, rx⟩ := vals1 r
  cases rx
  obtain ⟨t, u, hT, hlt, hsz⟩ := pair_walk I hp
  refine call_min_walk (wpAny_pyIter_tuple hT ?_)
  refine ⟨_, [_, p], [_], _, _, _, _, rfl, Walks.tuple (A := X.A.in1) (show X.A.in1.handled = none from I.ok.hd hc) _ p (Nat.ne_of_lt hlt) (intItems #[(i, t), (j, u)]), ⟨⟨_, Heap.get?_push_size _ rfl, rfl, rfl⟩, hT.push _⟩, fun c hcc => ?_, by simp [intItems], CmpOf.ints_lt (numAt #[(i, t), (j, u)]) (fun _ _ => intItems_at), fun v h' tk hP hk => ?_⟩
  · show c < (s.heap.push _).objs.size
    rw [Heap.size_push]
    rcases List.mem_cons.mp hcc with rfl | hcc
    · exact Nat.lt_succ_self _
    · rw [List.mem_singleton.mp hcc]; exact Nat.lt_succ_of_lt hlt
  · obtain ⟨k, rfl⟩ := best_two (g := fun a b => decide (a < b)) hP
    refine ⟨.int (if j < i then j else i), H, I.kept (h' := h') (t' := tk) fun b o e => hk b o (fun z => ?_) (Heap.get?_push_of_some _ e), ⟨k, ?_⟩, q⟩
    · rw [List.mem_singleton.mp z] at e
      exact absurd (Heap.lt_size e) (Nat.lt_irrefl _)
    · by_cases c : j < i
      · rw [if_pos c, if_pos (decide_eq_true c)]
      · rw [if_neg c, if_neg (by rw [decide_eq_false c]; decide)]
theorem call_maxP (hc : X.calm = true) : CallR X (.builtin "max") (fun xs H Q => ∃ (p : Addr) (i j : Int), xs = [.ref p] ∧ H p = some (.tup [.int i, .int j]) ∧ Q (.int (if j > i then j else i)) H) := by
  intro pins s σ H xs us Q I r h
  obtain ⟨p, i, j, rfl, hp, q⟩ := h
  obtain ⟨x, rfl, rx⟩ := vals1 r
  cases rx
  obtain ⟨t, u, hT, hlt, hsz⟩ := pair_walk I hp
  refine call_max_walk (wpAny_pyIter_tuple hT ?_)
  refine ⟨_, [_, p], [_], _, _, _, _, rfl, Walks.tuple (A := X.A.in1) (show X.A.in1.handled = none from I.ok.hd hc) _ p (Nat.ne_of_lt hlt) (intItems #[(i, t), (j, u)]), ⟨⟨_, Heap.get?_push_size _ rfl, rfl, rfl⟩, hT.push _⟩, fun c hcc => ?_, by simp [intItems], CmpOf.ints_gt (numAt #[(i, t), (j, u)]) (fun _ _ => intItems_at), fun v h' tk hP hk => ?_⟩
  · show c < (s.heap.push _).objs.size
    rw [Heap.size_push]
    rcases List.mem_cons.mp hcc with rfl | hcc
    · exact Nat.lt_succ_self _
    · rw [List.mem_singleton.mp hcc]; exact Nat.lt_succ_of_lt hlt
  · obtain ⟨k, rfl⟩ := best_two (g := fun a b => decide (a > b)) hP
    refine ⟨.int (if j > i then j else i), H, I.kept (h' := h') (t' := tk) fun b o e => hk b o (fun z => ?_) (Heap.get?_push_of_some _ e), ⟨k, ?_⟩, q⟩
    · rw [List.mem_singleton.mp z] at e
      exact absurd (Heap.lt_size e) (Nat.lt_irrefl _)
    · by_cases c : j > i
      · rw [if_pos c, if_pos (decide_eq_true c)]
      · rw [if_neg c, if_neg (by rw [decide_eq_false c]; decide)]
end
end L2

namespace Mr
open PySem L2
/-! ### reaches as they are told: pairs of places, leaders, the first row -/
structure FormN (ks : List Nat) (s : Nat) : Prop where
  len : ks.length = 2 * s - 1
  fit : ∀ m, m < ks.length → ks.getD m 0 % 2 ≠ m % 2 ∧ ks.getD m 0 ≤ m + 1 ∧ ks.getD m 0 + m ≤ 2 * s - 1
def fN (m a : Nat) : Nat := (m + 1 - a) / 2
def alM (m a : Nat) : List (Int × Int) := (List.range ((m + 1) / 2 - fN m a)).map fun k => (((fN m a + k : Nat) : Int), ((m - (fN m a + k) : Nat) : Int))
def alT (ks : List Nat) : Nat → List (Int × Int)
  | 0 => []
  | n + 1 => alT ks n ++ alM n (ks.getD n 0)
def unM (s m a : Nat) : List (Int × Int) := if 1 ≤ fN m a ∧ m + 1 - fN m a < s then [(((fN m a - 1 : Nat) : Int), ((m + 1 - fN m a : Nat) : Int))] else []
def unT (ks : List Nat) (s : Nat) : Nat → List (Int × Int)
  | 0 => []
  | n + 1 => unT ks s n ++ unM s n (ks.getD n 0)
def InP (s : Nat) (qs : List (Int × Int)) : Prop := ∀ q ∈ qs, 0 ≤ q.1 ∧ q.1 < q.2 ∧ q.2 < (s : Int)
theorem al_mem {m a : Nat} {q : Int × Int} (h : q ∈ alM m a) : ∃ k : Nat, fN m a ≤ k ∧ k < (m + 1) / 2 ∧ q = ((k : Int), ((m - k : Nat) : Int)) := by
  obtain ⟨k, hk, rfl⟩ := List.mem_map.mp h
  have := List.mem_range.mp hk
  exact ⟨fN m a + k, by omega, by omega, rfl⟩
theorem al_sum {m a : Nat} {q : Int × Int} (h : q ∈ alM m a) : q.1 + q.2 = (m : Int) := by
  obtain ⟨k, h1, h2, rfl⟩ := al_mem h
  show (k : Int) + ((m - k : Nat) : Int) = _
  omega
theorem al_in {ks : List Nat} {s m : Nat} (F : FormN ks s) (hm : m < ks.length) {q : Int × Int} (h : q ∈ alM m (ks.getD m 0)) : 0 ≤ q.1 ∧ q.1 < q.2 ∧ q.2 < (s : Int) := by
  obtain ⟨k, h1, h2, rfl⟩ := al_mem h
  obtain ⟨f1, f2, f3⟩ := F.fit m hm
  unfold fN at h1
  show 0 ≤ (k : Int) ∧ (k : Int) < ((m - k : Nat) : Int) ∧ ((m - k : Nat) : Int) < _
  omega
theorem alT_in {ks : List Nat} {s : Nat} (F : FormN ks s) : ∀ {n : Nat}, n ≤ ks.length → ∀ q ∈ alT ks n, (0 ≤ q.1 ∧ q.1 < q.2 ∧ q.2 < (s : Int)) ∧ q.1 + q.2 < (n : Int)
  | 0, _, q, h => by cases h
  | n + 1, hn, q, h => by
    rcases List.mem_append.mp h with h | h
    · have := alT_in F (by omega) q h
      exact ⟨this.1, by omega⟩
    · have := al_sum h
      exact ⟨al_in F (by omega) h, by omega⟩
theorem alM_nd (m a : Nat) : (alM m a).Nodup := by
  unfold alM
  refine List.pairwise_map.mpr (List.pairwise_lt_range.imp fun {i j} h => ?_)
  intro e
  have := congrArg Prod.fst e
  have e2 : ((fN m a + i : Nat) : Int) = ((fN m a + j : Nat) : Int) := this
  omega
theorem alT_nd {ks : List Nat} {s : Nat} (F : FormN ks s) : ∀ {n : Nat}, n ≤ ks.length → (alT ks n).Nodup
  | 0, _ => .nil
  | n + 1, hn => by
    refine List.nodup_append.mpr ⟨alT_nd F (by omega), alM_nd _ _, fun a ha b hb e => ?_⟩
    have h1 := (alT_in F (by omega) a ha).2
    have h2 := al_sum hb
    rw [← e] at h2
    omega
theorem alT_len {ks : List Nat} {s : Nat} (F : FormN ks s) (hs : s ≤ 16) : ∀ {n : Nat}, n ≤ ks.length → (alT ks n).length ≤ 8 * n
  | 0, _ => Nat.le_refl _
  | n + 1, hn => by
    have ih := alT_len F hs (n := n) (by omega)
    obtain ⟨f1, f2, f3⟩ := F.fit n (by omega)
    show (alT ks n ++ alM n (ks.getD n 0)).length ≤ _
    rw [List.length_append]
    unfold alM fN
    rw [List.length_map, List.length_range]
    omega
theorem un_mem {s m a : Nat} {q : Int × Int} (h : q ∈ unM s m a) : 1 ≤ fN m a ∧ m + 1 - fN m a < s ∧ q = (((fN m a - 1 : Nat) : Int), ((m + 1 - fN m a : Nat) : Int)) := by
  unfold unM at h
  split at h
  · rename_i c
    exact ⟨c.1, c.2, List.mem_singleton.mp h⟩
  · cases h
theorem unT_in {ks : List Nat} {s : Nat} (F : FormN ks s) : ∀ {n : Nat}, n ≤ ks.length → ∀ q ∈ unT ks s n, (0 ≤ q.1 ∧ q.1 < q.2 ∧ q.2 < (s : Int)) ∧ q.1 + q.2 < (n : Int)
  | 0, _, q, h => by cases h
  | n + 1, hn, q, h => by
    rcases List.mem_append.mp h with h | h
    · have := unT_in F (by omega) q h
      exact ⟨this.1, by omega⟩
    · obtain ⟨h1, h2, rfl⟩ := un_mem h
      obtain ⟨f1, f2, f3⟩ := F.fit n (by omega)
      unfold fN at h1 h2 ⊢
      show (0 ≤ (((n + 1 - ks.getD n 0) / 2 - 1 : Nat) : Int) ∧ (((n + 1 - ks.getD n 0) / 2 - 1 : Nat) : Int) < ((n + 1 - (n + 1 - ks.getD n 0) / 2 : Nat) : Int) ∧ ((n + 1 - (n + 1 - ks.getD n 0) / 2 : Nat) : Int) < _) ∧ (((n + 1 - ks.getD n 0) / 2 - 1 : Nat) : Int) + ((n + 1 - (n + 1 - ks.getD n 0) / 2 : Nat) : Int) < _
      omega
theorem unT_nd {ks : List Nat} {s : Nat} (F : FormN ks s) : ∀ {n : Nat}, n ≤ ks.length → (unT ks s n).Nodup
  | 0, _ => .nil
  | n + 1, hn => by
    refine List.nodup_append.mpr ⟨unT_nd F (by omega), ?_, fun a ha b hb e => ?_⟩
    · unfold unM
      split
      · exact List.nodup_cons.mpr ⟨List.not_mem_nil, .nil⟩
      · exact .nil
    · have h1 := (unT_in F (by omega) a ha).2
      obtain ⟨h2, h3, rfl⟩ := un_mem hb
      obtain ⟨f1, f2, f3⟩ := F.fit n (by omega)
      rw [e] at h1
      unfold fN at h1 h2 h3
      have h4 : (((n + 1 - ks.getD n 0) / 2 - 1 : Nat) : Int) + ((n + 1 - (n + 1 - ks.getD n 0) / 2 : Nat) : Int) < (n : Int) := h1
      omega
theorem unT_len (ks : List Nat) (s : Nat) : ∀ n : Nat, (unT ks s n).length ≤ n
  | 0 => Nat.le_refl _
  | n + 1 => by
    have ih := unT_len ks s n
    show (unT ks s n ++ unM s n (ks.getD n 0)).length ≤ _
    rw [List.length_append]
    unfold unM
    split
    · show _ + 1 ≤ _; omega
    · show _ + 0 ≤ _; omega
/-! leaders -/
def leadF (ls : List Nat) (q : Int × Int) : List Nat :=
  let a := ls.getD q.1.toNat 0
  let b := ls.getD q.2.toNat 0
  ls.map fun x => if x = (if b > a then b else a) then (if b < a then b else a) else x
def leadN (qs : List (Int × Int)) (s : Nat) : List Nat := qs.foldl leadF (List.range s)
theorem leadF_ok {s : Nat} {ls : List Nat} {q : Int × Int} (hl : ls.length = s) (hx : ∀ x ∈ ls, x < s) (hq : 0 ≤ q.1 ∧ q.1 < q.2 ∧ q.2 < (s : Int)) : (leadF ls q).length = s ∧ ∀ x ∈ leadF ls q, x < s := by
  have ga : ∀ i : Int, 0 ≤ i → i < (s : Int) → ls.getD i.toNat 0 < s := fun i h0 h1 => by
    have hi : i.toNat < ls.length := by omega
    rw [List.getD_eq_getElem?_getD, List.getElem?_eq_getElem hi]
    exact hx _ (List.getElem_mem hi)
  have h1 := ga q.1 hq.1 (by omega)
  have h2 := ga q.2 (by omega) hq.2.2
  refine ⟨by unfold leadF; rw [List.length_map, hl], fun x h => ?_⟩
  obtain ⟨y, hy, rfl⟩ := List.mem_map.mp h
  have := hx y hy
  generalize ls.getD q.1.toNat 0 = a at h1
  generalize ls.getD q.2.toNat 0 = b at h2
  by_cases c : y = if b > a then b else a
  · rw [if_pos c]
    split <;> omega
  · rw [if_neg c]
    exact this
theorem lead_ok {s : Nat} : ∀ {qs : List (Int × Int)} {ls : List Nat}, InP s qs → ls.length = s → (∀ x ∈ ls, x < s) → (qs.foldl leadF ls).length = s ∧ ∀ x ∈ qs.foldl leadF ls, x < s
  | [], ls, _, h1, h2 => ⟨h1, h2⟩
  | q :: qs, ls, hq, h1, h2 => by
    have := leadF_ok h1 h2 (hq q List.mem_cons_self)
    exact lead_ok (qs := qs) (ls := leadF ls q) (fun r hr => hq r (List.mem_cons_of_mem _ hr)) this.1 this.2
theorem leadN_ok {s : Nat} {qs : List (Int × Int)} (h : InP s qs) : (leadN qs s).length = s ∧ ∀ x ∈ leadN qs s, x < s := lead_ok h List.length_range fun x hx => List.mem_range.mp hx
def unL (ls : List Nat) (us : List (Int × Int)) : List (Int × Int) := us.map fun q => (((ls.getD q.1.toNat 0 : Nat) : Int), ((ls.getD q.2.toNat 0 : Nat) : Int))
def mxP (q : Int × Int) : Int := if q.2 > q.1 then q.2 else q.1
def mnP (q : Int × Int) : Int := if q.2 < q.1 then q.2 else q.1
def barr (told : List Nat) (place : Nat) (ul : List (Int × Int)) : List Nat := (ul.filter fun q => decide (mxP q = (place : Int))).map fun q => told.getD (mnP q).toNat 0
def firstL (bs : List Nat) : Nat := (lets.filter fun c => !decide (c ∈ bs)).headD 0
theorem nodup_len : ∀ {l m : List Nat}, l.Nodup → (∀ x ∈ l, x ∈ m) → l.length ≤ m.length
  | [], _, _, _ => Nat.zero_le _
  | x :: l, m, nd, h => by
    obtain ⟨hx, nd'⟩ := List.nodup_cons.mp nd
    have hm := h x List.mem_cons_self
    have := nodup_len (m := m.erase x) nd' fun y hy => (List.mem_erase_of_ne (show y ≠ x from fun e => hx (by rw [← e]; exact hy))).mpr (h y (List.mem_cons_of_mem _ hy))
    rw [List.length_erase_of_mem hm] at this
    have : 0 < m.length := List.length_pos_of_mem hm
    rw [List.length_cons]
    omega
theorem first_some {bs told : List Nat} (hb : ∀ b ∈ bs, b ∈ told) (h : told.length ≤ 25) : (lets.filter fun c => !decide (c ∈ bs)) = firstL bs :: (lets.filter fun c => !decide (c ∈ bs)).tail := by
  unfold firstL
  cases e : lets.filter fun c => !decide (c ∈ bs) with
  | cons c r => rfl
  | nil =>
    exfalso
    have hsub : ∀ c ∈ lets, c ∈ bs := fun c hc => by
      by_cases z : c ∈ bs
      · exact z
      · have : c ∈ lets.filter fun c => !decide (c ∈ bs) := List.mem_filter.mpr ⟨hc, by rw [decide_eq_false z]; rfl⟩
        rw [e] at this
        cases this
    have nd : lets.Nodup := by decide +kernel
    have := nodup_len nd fun c hc => hb c (hsub c hc)
    have : lets.length = 26 := rfl
    omega
def rowT (ls : List Nat) (ul : List (Int × Int)) : Nat → List Nat
  | 0 => []
  | n + 1 => rowT ls ul n ++ [if ls.getD n 0 < n then (rowT ls ul n).getD (ls.getD n 0) 0 else firstL (barr (rowT ls ul n) n ul)]
theorem rowT_len (ls : List Nat) (ul : List (Int × Int)) : ∀ n, (rowT ls ul n).length = n
  | 0 => rfl
  | n + 1 => by
    show (rowT ls ul n ++ [_]).length = _
    rw [List.length_append, rowT_len ls ul n]
    rfl
def rowN (qs us : List (Int × Int)) (s : Nat) : Option (List Nat) := if (unL (leadN qs s) us).any (fun q => decide (q.1 = q.2)) then none else some (rowT (leadN qs s) (unL (leadN qs s) us) s)
def textV : Option (List Nat) → V
  | none => .non
  | some l => .str (tx l)
/-! what the defs promise -/
def spNeedF : Sp := fun vs H Q _ => ∃ (p : Addr) (ks : List Nat) (s : Nat), vs = [.ref p] ∧ H p = some (.lst (lensV ks)) ∧ FormN ks s ∧ s ≤ 16 ∧ ∀ H', Same H H' → Q .non H'
end Mr
namespace Mr
open PySem L2
def spSigns : Sp := fun vs H Q _ => ∃ (p : Addr) (ks : List Nat) (s : Nat), vs = [.ref p] ∧ H p = some (.lst (lensV ks)) ∧ FormN ks s ∧ s ≤ 16 ∧ Q (.int (s : Int)) H
def spPrs (f : List Nat → Nat → List (Int × Int)) : Sp := fun vs H Q _ => ∃ (p : Addr) (ks : List Nat) (s : Nat), vs = [.ref p] ∧ H p = some (.lst (lensV ks)) ∧ FormN ks s ∧ s ≤ 16 ∧
  ∀ (l : Addr) (ys : List V) (qs : List (Int × Int)) (H' : Hp), qs.Perm (f ks s) → qs.Pairwise (fun a b => lexB a b = true) → PrsV H' ys qs → H l = none → H' l = some (.lst ys) → Same H H' → Q (.ref l) H'
def spLead : Sp := fun vs H Q _ => ∃ (p : Addr) (ys : List V) (qs : List (Int × Int)) (s : Nat), vs = [.ref p, .int (s : Int)] ∧ H p = some (.lst ys) ∧ PrsV H ys qs ∧ InP s qs ∧ s ≤ 16 ∧ ∀ (l : Addr) (H' : Hp), H l = none → H' l = some (.lst (lensV (leadN qs s))) → Same H H' → Q (.ref l) H'
def oneV (l : List Nat) : List V := l.map fun c => V.str (tx [c])
def spFirstL : Sp := fun vs H Q _ => ∃ (pt pu : Addr) (told : List Nat) (ys : List V) (ul : List (Int × Int)), vs = [.ref pt, .int (told.length : Int), .ref pu] ∧ H pt = some (.lst (oneV told)) ∧ H pu = some (.lst ys) ∧ PrsV H ys ul ∧ ul.length ≤ 100 ∧ (∀ q ∈ ul, 0 ≤ q.1 ∧ 0 ≤ q.2 ∧ q.1 ≠ q.2) ∧ told.length ≤ 20 ∧ ∀ H', Same H H' → Q (.str (tx [firstL (barr told told.length ul)])) H'
def spRowFor : Sp := fun vs H Q _ => ∃ (p : Addr) (ks : List Nat) (s : Nat), vs = [.ref p] ∧ H p = some (.lst (lensV ks)) ∧ FormN ks s ∧ s ≤ 16 ∧ ∀ (qs us : List (Int × Int)) (H' : Hp), qs.Perm (alT ks ks.length) → qs.Pairwise (fun a b => lexB a b = true) → us.Perm (unT ks s ks.length) → us.Pairwise (fun a b => lexB a b = true) → Same H H' → Q (textV (rowN qs us s)) H'
theorem prAt_mem {ps : List (Int × Int)} {i : Nat} (h : i < ps.length) : prAt ps i ∈ ps := List.mem_of_getElem? (pr_get h)
theorem form_true {ks : List Nat} {s : Nat} (F : FormN ks s) (hs : s ≤ 16) : formV (lensV ks) = true := by
  unfold formV
  rw [lensV_len, decide_eq_true (show ks.length ≤ 119 by have := F.len; omega), Bool.true_and]
  by_cases h0 : ks.length % 2 = 0
  · rw [if_pos h0]
    have := F.len
    exact decide_eq_true (by omega)
  · rw [if_neg h0, List.all_eq_true]
    intro i hi
    have hi := List.mem_range.mp hi
    obtain ⟨f1, f2, f3⟩ := F.fit i hi
    have hl := F.len
    have e : (lensV ks).getD i .non = .int ((ks.getD i 0 : Nat) : Int) := by
      unfold lensV
      rw [List.getD_eq_getElem?_getD, List.getElem?_map, List.getElem?_eq_getElem hi, List.getD_eq_getElem?_getD, List.getElem?_eq_getElem hi]
      rfl
    rw [e]
    show (decide (((ks.getD i 0 : Nat) : Int) % 2 ≠ (i : Int) % 2) && (decide ((0 : Int) ≤ ((ks.getD i 0 : Nat) : Int)) && (decide (((ks.getD i 0 : Nat) : Int) ≤ (i : Int) + 1) && decide (((ks.getD i 0 : Nat) : Int) ≤ (ks.length : Int) - (i : Int))))) = true
    rw [decide_eq_true (by omega), decide_eq_true (by omega), decide_eq_true (by omega), decide_eq_true (by omega)]
    rfl
end Mr
namespace Mr
open PySem L2
theorem bt_any : bootBuiltins "any" = some (.builtin "any") := by decide +kernel
def NoForm (K : PySem.W.Frag) (H : Hp) (x : V) : Prop := ∀ p xs, x = .ref p → H p = some (.lst xs) → formV xs = false
def spNRF (K : PySem.W.Frag) (C : Addr) : Sp := fun vs H _ E => ∃ x : V, vs = [x] ∧ LstN K H x ∧ NoForm K H x ∧ ∀ H', Same H H' → E (.ref C) none H'
end Mr
namespace Mr
open PySem L2
theorem PrsV.upd {H : Hp} {zs ys : List V} {ps : List (Int × Int)} {p : Addr} {o : HO} (h : PrsV H ys ps) (hp : H p = some (.lst zs)) : PrsV (L2.upd H p o) ys ps := ⟨h.1, fun i hi => by
  obtain ⟨r, e1, e2⟩ := h.2 i hi
  refine ⟨r, e1, ?_⟩
  rw [upd_ne (fun z => by rw [z, hp] at e2; cases e2)]
  exact e2⟩
theorem PrsV.app {H : Hp} {ys : List V} {ps : List (Int × Int)} (h : PrsV H ys ps) : ∀ {zs : List V} {qs : List (Int × Int)}, PrsV H zs qs → PrsV H (ys ++ zs) (ps ++ qs) := fun {zs qs} k => by
  refine ⟨by rw [List.length_append, List.length_append, h.1, k.1], fun i hi => ?_⟩
  rw [List.length_append] at hi
  by_cases e : i < ps.length
  · obtain ⟨r, e1, e2⟩ := h.2 i e
    exact ⟨r, by rw [List.getElem?_append_left (by rw [h.1]; exact e)]; exact e1, by rw [prAt_left e]; exact e2⟩
  · obtain ⟨r, e1, e2⟩ := k.2 (i - ps.length) (by omega)
    refine ⟨r, by rw [List.getElem?_append_right (by rw [h.1]; omega), h.1]; exact e1, ?_⟩
    have : prAt (ps ++ qs) i = prAt qs (i - ps.length) := by
      unfold prAt
      rw [List.getD_eq_getElem?_getD, List.getD_eq_getElem?_getD, List.getElem?_append_right (by omega)]
    rw [this]
    exact e2
theorem PrsV.at {H : Hp} {ys : List V} {ps : List (Int × Int)} (h : PrsV H ys ps) {i : Nat} {x : V} (hx : ys[i]? = some x) : ∃ p : Addr, x = .ref p ∧ i < ps.length ∧ H p = some (.tup [.int (prAt ps i).1, .int (prAt ps i).2]) := by
  have hi : i < ps.length := by rw [← h.1]; exact (List.getElem?_eq_some_iff.mp hx).1
  obtain ⟨p, e1, e2⟩ := h.2 i hi
  rw [hx] at e1
  exact ⟨p, Option.some.inj e1, hi, e2⟩
def alP (m a i : Nat) : Int × Int := (((fN m a + i : Nat) : Int), ((m - (fN m a + i) : Nat) : Int))
theorem alM_eq (m a : Nat) : alM m a = (List.range ((m + 1) / 2 - fN m a)).map (alP m a) := rfl
theorem take_fold {α β : Type} (f : β → α → β) (b : β) (xs : List α) {i : Nat} {x : α} (h : xs[i]? = some x) : (xs.take (i + 1)).foldl f b = f ((xs.take i).foldl f b) x := by
  rw [List.take_succ, h, List.foldl_append]
  rfl
theorem lens_atI {ks : List Nat} {i : Int} (h0 : 0 ≤ i) (h1 : i < (ks.length : Int)) : atI (lensV ks) i = some (.int ((ks.getD i.toNat 0 : Nat) : Int)) := by
  obtain ⟨n, rfl⟩ := Int.eq_ofNat_of_zero_le h0
  have hn : n < ks.length := by omega
  rw [Int.toNat_natCast]
  refine atI_nat (lensV_get ?_)
  rw [List.getD_eq_getElem?_getD, List.getElem?_eq_getElem hn]
  rfl
end Mr
namespace Mr
open PySem L2
theorem barr_succ {told : List Nat} {pl : Nat} {ul : List (Int × Int)} {i : Nat} {q : Int × Int} (h : ul[i]? = some q) : barr told pl (ul.take (i + 1)) = barr told pl (ul.take i) ++ (if mxP q = (pl : Int) then [told.getD (mnP q).toNat 0] else []) := by
  unfold barr
  rw [List.take_succ, h, List.filter_append, List.map_append]
  congr 1
  show ((([q] : List (Int × Int)).filter _).map _) = _
  rw [List.filter_cons]
  by_cases c : mxP q = (pl : Int)
  · rw [if_pos (decide_eq_true c), if_pos c]
    rfl
  · rw [if_neg (by rw [decide_eq_false c]; decide), if_neg c]
    rfl
theorem oneV_app (a b : List Nat) : oneV (a ++ b) = oneV a ++ oneV b := List.map_append
theorem oneV_len (a : List Nat) : (oneV a).length = a.length := List.length_map ..
theorem one_atI {l : List Nat} {i : Int} (h0 : 0 ≤ i) (h1 : i < (l.length : Int)) : atI (oneV l) i = some (.str (tx [l.getD i.toNat 0])) := by
  obtain ⟨n, rfl⟩ := Int.eq_ofNat_of_zero_le h0
  have hn : n < l.length := by omega
  rw [Int.toNat_natCast]
  refine atI_nat ?_
  unfold oneV
  rw [List.getElem?_map, List.getElem?_eq_getElem hn, List.getD_eq_getElem?_getD, List.getElem?_eq_getElem hn]
  rfl
theorem oneV_flat (l : List Nat) : (oneV l).all flatV = true := List.all_eq_true.mpr fun x hx => by obtain ⟨c, _, rfl⟩ := List.mem_map.mp hx; rfl
theorem inV_one (c : Nat) (l : List Nat) : L2.inV (.str (tx [c])) (oneV l) = decide (c ∈ l) := by
  have e : oneV l = txV (l.map one1) := by
    unfold oneV txV
    rw [List.map_map]
    rfl
  rw [e, inV_tx]
  refine decide_eq_decide.mpr ⟨fun h => ?_, fun h => List.mem_map.mpr ⟨c, h, rfl⟩⟩
  obtain ⟨d, hd, e⟩ := List.mem_map.mp h
  have : d = c := by
    have e2 : [d] = [c] := e
    injection e2
  rw [← this]
  exact hd
theorem barr_sub {told : List Nat} {ul : List (Int × Int)} (h : ∀ q ∈ ul, 0 ≤ q.1 ∧ 0 ≤ q.2 ∧ q.1 ≠ q.2) : ∀ b ∈ barr told told.length ul, b ∈ told := fun b hb => by
  unfold barr at hb
  obtain ⟨q, hq, rfl⟩ := List.mem_map.mp hb
  obtain ⟨h1, h2⟩ := List.mem_filter.mp hq
  have h2 := of_decide_eq_true h2
  obtain ⟨n0, n1, n2⟩ := h q h1
  have hlt : (mnP q).toNat < told.length := by
    unfold mxP at h2
    unfold mnP
    split at h2 <;> split <;> omega
  rw [List.getD_eq_getElem?_getD, List.getElem?_eq_getElem hlt]
  exact List.getElem_mem hlt
end Mr
namespace Mr
open PySem L2
def FitN (s m a : Nat) : Prop := a % 2 ≠ m % 2 ∧ a ≤ m + 1 ∧ a + m ≤ 2 * s - 1
def spDrawnE : Sp := fun vs H Q _ => ∃ (b : Addr) (n : Int) (s : Nat), vs = [.ref b, .int (s : Int)] ∧ H b = some (.lst [.int n]) ∧ s ≤ 10 ∧ ∀ (p : Addr) (ks : List Nat) (n' : Int) (H' : Hp), H p = none → H' p = some (.lst (lensV ks)) → FormN ks s → H' b = some (.lst [.int n']) → But b H H' → Q (.ref p) H'
/-- asked: none or the fifth class -/
def spTold75 (K : PySem.W.Frag) : Sp := fun vs H Q _ => ∃ (m : Int) (x : V), vs = [.int m, x] ∧ ((∃ (p : Addr) (ks : List Nat) (s : Nat), x = .ref p ∧ H p = some (.lst (lensV ks)) ∧ FormN ks s ∧ s ≤ 6 ∧ ∀ (l : Addr) (H' : Hp), H l = none → H' l = some (.lst []) → Same H H' → Q (.ref l) H') ∨ (LstN K H x ∧ NoForm K H x ∧ ∀ (l : Addr) (H' : Hp), H l = none → H' l = some (.lst [.int 4]) → Same H H' → Q (.ref l) H'))
end Mr
namespace Mr
open PySem L2
end Mr

namespace Mr
open PySem L2
/-! ### k74: of all rows of so many signs of five letters the first one that has the reaches -/
def insP (q : Int × Int) : List (Int × Int) → List (Int × Int)
  | [] => [q]
  | r :: rs => if lexB q r then q :: r :: rs else r :: insP q rs
def sortP : List (Int × Int) → List (Int × Int)
  | [] => []
  | q :: qs => insP q (sortP qs)
theorem lex_tr {a b c : Int × Int} (h1 : lexB a b = true) (h2 : lexB b c = true) : lexB a c = true := by
  rw [lexB_iff] at h1 h2 ⊢
  omega
theorem lex_ir (a : Int × Int) : lexB a a = false := by
  cases h : lexB a a with
  | false => rfl
  | true => rw [lexB_iff] at h; omega
theorem up_one : ∀ {a b : List (Int × Int)}, a.Pairwise (fun x y => lexB x y = true) → b.Pairwise (fun x y => lexB x y = true) → (∀ k, k ∈ a ↔ k ∈ b) → a = b
  | [], [], _, _, _ => rfl
  | [], y :: b, _, _, h => absurd ((h y).mpr List.mem_cons_self) List.not_mem_nil
  | x :: a, [], _, _, h => absurd ((h x).mp List.mem_cons_self) List.not_mem_nil
  | x :: a, y :: b, ha, hb, h => by
    obtain ⟨a1, a2⟩ := List.pairwise_cons.mp ha
    obtain ⟨b1, b2⟩ := List.pairwise_cons.mp hb
    have no : ∀ {u v : Int × Int}, lexB u v = true → lexB v u = true → False := fun p q => by
      have := lex_tr p q
      rw [lex_ir] at this
      cases this
    have e : x = y := by
      rcases List.mem_cons.mp ((h x).mp List.mem_cons_self) with e | e
      · exact e
      · rcases List.mem_cons.mp ((h y).mpr List.mem_cons_self) with e2 | e2
        · exact e2.symm
        · exact (no (b1 x e) (a1 y e2)).elim
    subst e
    congr 1
    refine up_one a2 b2 fun k => ⟨fun hk => ?_, fun hk => ?_⟩
    · rcases List.mem_cons.mp ((h k).mp (List.mem_cons_of_mem _ hk)) with rfl | z
      · have := a1 k hk; rw [lex_ir] at this; cases this
      · exact z
    · rcases List.mem_cons.mp ((h k).mpr (List.mem_cons_of_mem _ hk)) with rfl | z
      · have := b1 k hk; rw [lex_ir] at this; cases this
      · exact z
/-! the told row, reckoned -/
def rowF (ks : List Nat) (s : Nat) : Option (List Nat) := rowN (sortP (alT ks ks.length)) (sortP (unT ks s ks.length)) s
def five : List Nat := [97, 98, 99, 100, 101]
def rowsN : Nat → List (List Nat)
  | 0 => [[]]
  | n + 1 => five.flatMap fun c => (rowsN n).map (c :: ·)
def ltL : List Nat → List Nat → Bool
  | [], _ => false
  | _ :: _, [] => false
  | a :: as, b :: bs => Nat.blt a b || (Nat.beq a b && ltL as bs)
def eqL : List Nat → List Nat → Bool
  | [], [] => true
  | a :: as, b :: bs => Nat.beq a b && eqL as bs
  | _, _ => false
def in5 : List Nat → Nat → Bool
  | [], 0 => true
  | a :: as, n + 1 => Nat.ble 97 a && (Nat.ble a 101 && in5 as n)
  | _, _ => false
def optN (s m : Nat) : List Nat := (List.range (m + 2)).filter fun a => !Nat.beq (a % 2) (m % 2) && Nat.ble (a + m) (2 * s - 1)
def formsF (s : Nat) : Nat → List (List Nat)
  | 0 => [[]]
  | n + 1 => (formsF s n).flatMap fun ks => (optN s n).map fun a => ks ++ [a]
def chkB (s : Nat) : Bool := (formsF s (2 * s - 1)).all fun ks => match rowF ks s with
  | none => true
  | some t => eqL (reachesN t) ks && in5 t s
def firstN (ks : List Nat) : Nat → List Nat → Option (List Nat)
  | 0, r => if reachesN r = ks then some r else none
  | n + 1, r => five.findSome? fun c => firstN ks n (r ++ [c])
def hasR (ks u : List Nat) : Option (List Nat) := if reachesN u = ks then some u else none
def tab74 : Nat → List (List Nat × List Nat)
  | 1 => [([1], [97])]
  | 2 => [([1, 2, 1], [97, 97]), ([1, 0, 1], [97, 98])]
  | 3 => [([1, 2, 3, 2, 1], [97, 97, 97]), ([1, 2, 1, 0, 1], [97, 97, 98]), ([1, 0, 3, 0, 1], [97, 98, 97]), ([1, 0, 1, 2, 1], [97, 98, 98]), ([1, 0, 1, 0, 1], [97, 98, 99])]
  | 4 => [([1, 2, 3, 4, 3, 2, 1], [97, 97, 97, 97]), ([1, 2, 3, 2, 1, 0, 1], [97, 97, 97, 98]), ([1, 2, 1, 0, 3, 0, 1], [97, 97, 98, 97]), ([1, 2, 1, 0, 1, 2, 1], [97, 97, 98, 98]), ([1, 2, 1, 0, 1, 0, 1], [97, 97, 98, 99]), ([1, 0, 3, 0, 1, 2, 1], [97, 98, 97, 97]), ([1, 0, 3, 0, 3, 0, 1], [97, 98, 97, 98]), ([1, 0, 3, 0, 1, 0, 1], [97, 98, 97, 99]), ([1, 0, 1, 4, 1, 0, 1], [97, 98, 98, 97]), ([1, 0, 1, 2, 3, 2, 1], [97, 98, 98, 98]), ([1, 0, 1, 2, 1, 0, 1], [97, 98, 98, 99]), ([1, 0, 1, 0, 1, 0, 1], [97, 98, 99, 97]), ([1, 0, 1, 0, 3, 0, 1], [97, 98, 99, 98]), ([1, 0, 1, 0, 1, 2, 1], [97, 98, 99, 99])]
  | 5 => [([1, 2, 3, 4, 5, 4, 3, 2, 1], [97, 97, 97, 97, 97]), ([1, 2, 3, 4, 3, 2, 1, 0, 1], [97, 97, 97, 97, 98]), ([1, 2, 3, 2, 1, 0, 3, 0, 1], [97, 97, 97, 98, 97]), ([1, 2, 3, 2, 1, 0, 1, 2, 1], [97, 97, 97, 98, 98]), ([1, 2, 3, 2, 1, 0, 1, 0, 1], [97, 97, 97, 98, 99]), ([1, 2, 1, 0, 5, 0, 1, 2, 1], [97, 97, 98, 97, 97]), ([1, 2, 1, 0, 3, 0, 3, 0, 1], [97, 97, 98, 97, 98]), ([1, 2, 1, 0, 3, 0, 1, 0, 1], [97, 97, 98, 97, 99]), ([1, 2, 1, 0, 1, 4, 1, 0, 1], [97, 97, 98, 98, 97]), ([1, 2, 1, 0, 1, 2, 3, 2, 1], [97, 97, 98, 98, 98]), ([1, 2, 1, 0, 1, 2, 1, 0, 1], [97, 97, 98, 98, 99]), ([1, 2, 1, 0, 1, 0, 1, 0, 1], [97, 97, 98, 99, 97]), ([1, 2, 1, 0, 1, 0, 3, 0, 1], [97, 97, 98, 99, 98]), ([1, 2, 1, 0, 1, 0, 1, 2, 1], [97, 97, 98, 99, 99]), ([1, 0, 3, 0, 1, 2, 3, 2, 1], [97, 98, 97, 97, 97]), ([1, 0, 3, 0, 1, 4, 1, 0, 1], [97, 98, 97, 97, 98]), ([1, 0, 3, 0, 1, 2, 1, 0, 1], [97, 98, 97, 97, 99]), ([1, 0, 3, 0, 5, 0, 3, 0, 1], [97, 98, 97, 98, 97]), ([1, 0, 3, 0, 3, 0, 1, 2, 1], [97, 98, 97, 98, 98]), ([1, 0, 3, 0, 3, 0, 1, 0, 1], [97, 98, 97, 98, 99]), ([1, 0, 3, 0, 1, 0, 3, 0, 1], [97, 98, 97, 99, 97]), ([1, 0, 3, 0, 1, 0, 1, 0, 1], [97, 98, 97, 99, 98]), ([1, 0, 3, 0, 1, 0, 1, 2, 1], [97, 98, 97, 99, 99]), ([1, 0, 1, 4, 1, 0, 1, 2, 1], [97, 98, 98, 97, 97]), ([1, 0, 1, 4, 1, 0, 3, 0, 1], [97, 98, 98, 97, 98]), ([1, 0, 1, 4, 1, 0, 1, 0, 1], [97, 98, 98, 97, 99]), ([1, 0, 1, 2, 5, 2, 1, 0, 1], [97, 98, 98, 98, 97]), ([1, 0, 1, 2, 3, 4, 3, 2, 1], [97, 98, 98, 98, 98]), ([1, 0, 1, 2, 3, 2, 1, 0, 1], [97, 98, 98, 98, 99]), ([1, 0, 1, 2, 1, 0, 1, 0, 1], [97, 98, 98, 99, 97]), ([1, 0, 1, 2, 1, 0, 3, 0, 1], [97, 98, 98, 99, 98]), ([1, 0, 1, 2, 1, 0, 1, 2, 1], [97, 98, 98, 99, 99]), ([1, 0, 1, 0, 1, 0, 1, 2, 1], [97, 98, 99, 97, 97]), ([1, 0, 1, 0, 1, 0, 1, 0, 1], [97, 98, 99, 97, 98]), ([1, 0, 1, 0, 1, 0, 3, 0, 1], [97, 98, 99, 97, 99]), ([1, 0, 1, 0, 5, 0, 1, 0, 1], [97, 98, 99, 98, 97]), ([1, 0, 1, 0, 3, 0, 1, 2, 1], [97, 98, 99, 98, 98]), ([1, 0, 1, 0, 3, 0, 3, 0, 1], [97, 98, 99, 98, 99]), ([1, 0, 1, 0, 3, 0, 1, 0, 1], [97, 98, 99, 98, 100]), ([1, 0, 1, 0, 1, 2, 1, 0, 1], [97, 98, 99, 99, 97]), ([1, 0, 1, 0, 1, 4, 1, 0, 1], [97, 98, 99, 99, 98]), ([1, 0, 1, 0, 1, 2, 3, 2, 1], [97, 98, 99, 99, 99])]
  | _ => []
def chkT (n : Nat) : Bool := (tab74 n).all fun e => match rowF e.1 n with
  | none => false
  | some t => eqL t e.2
def chkE (n : Nat) : Bool := (rowsN n).all fun r => (tab74 n).any fun e => eqL e.1 (reachesN r) && (eqL e.2 r || ltL e.2 r)
end Mr

namespace Mr
open PySem L2
/-! ### k74: what is reckoned once -/
end Mr

namespace Mr
open PySem L2
def spLReachE : Sp := fun vs H Q _ => ∃ l : List Nat, vs = [.str (tx l)] ∧ l.length ≤ 9 ∧ ∀ (p : Addr) (H' : Hp), H p = none → H' p = some (.lst (lensV (reachesN l))) → Same H H' → Q (.ref p) H'
def spFirst74 (n : Nat) : Sp := fun vs H Q _ => ∃ (pa : Addr) (ks : List Nat) (s : Nat) (r : List Nat), vs = [.ref pa, .str (tx r)] ∧ H pa = some (.lst (lensV ks)) ∧ ks.length = 2 * s - 1 ∧ 1 ≤ s ∧ s ≤ 5 ∧ r.length + n = s ∧ True ∧ ∀ H', Same H H' → Q (textV (firstN ks n r)) H'
/-- the reaches of a row have the form -/
theorem reaches_form {l : List Nat} (h : 1 ≤ l.length) : FormN (reachesN l) l.length := by
  refine ⟨reachesN_len l, fun m hm => ?_⟩
  rw [reachesN_len] at hm
  have e : (reachesN l).getD m 0 = reachN l m := by rw [List.getD_eq_getElem?_getD, reachesN_at hm]; rfl
  rw [e]
  obtain ⟨a, c, h1, h2, h3, h4, _⟩ := reach_at (l := l) (m := m) (by omega)
  rw [← h4]
  omega
end Mr
namespace Mr
open PySem L2
theorem eqVs_lens {a b : List Nat} : eqVs (lensV a) (lensV b) = true ↔ a = b := by
  have e : ∀ l : List Nat, lensV l = (l.map fun (k : Nat) => (k : Int)).map V.int := fun l => by unfold lensV; rw [List.map_map]; rfl
  rw [e, e, eqVs_ints]
  exact List.map_inj_right fun x y h => by omega
end Mr
namespace Mr
open PySem L2
def spFirstAll : Sp := fun vs H Q _ => ∃ (pa : Addr) (ks : List Nat) (s : Nat), vs = [.ref pa, .str (tx [])] ∧ H pa = some (.lst (lensV ks)) ∧ ks.length = 2 * s - 1 ∧ 1 ≤ s ∧ s ≤ 5 ∧ ∀ H', Same H H' → Q (textV (firstN ks s [])) H'
end Mr

namespace Mr
open PySem L2
/-! ### the pairs that the law tells: they are those of the program, in order -/
def lawR (f : Nat → Nat → Bool) (p : Nat) : Nat → List (Int × Int)
  | 0 => []
  | n + 1 => lawR f p n ++ (if f p (p + 1 + n) = true then [((p : Int), ((p + 1 + n : Nat) : Int))] else [])
def lawT (f : Nat → Nat → Bool) (s : Nat) : Nat → List (Int × Int)
  | 0 => []
  | p + 1 => lawT f s p ++ lawR f p (s - (p + 1))
theorem lawR_mem {f : Nat → Nat → Bool} {p : Nat} {q : Int × Int} : ∀ {n : Nat}, q ∈ lawR f p n ↔ ∃ l : Nat, p < l ∧ l < p + 1 + n ∧ f p l = true ∧ q = ((p : Int), (l : Int))
  | 0 => ⟨(fun h => by cases h), fun ⟨l, h1, h2, _⟩ => by omega⟩
  | n + 1 => by
    have ih := lawR_mem (f := f) (p := p) (q := q) (n := n)
    constructor
    · intro h
      rcases List.mem_append.mp h with h | h
      · obtain ⟨l, h1, h2, h3, h4⟩ := ih.mp h
        exact ⟨l, h1, by omega, h3, h4⟩
      · split at h
        · rename_i c
          exact ⟨p + 1 + n, by omega, by omega, c, List.mem_singleton.mp h⟩
        · cases h
    · rintro ⟨l, h1, h2, h3, h4⟩
      by_cases e : l = p + 1 + n
      · subst e
        refine List.mem_append_right _ ?_
        rw [if_pos h3]
        exact List.mem_singleton.mpr h4
      · exact List.mem_append_left _ (ih.mpr ⟨l, h1, by omega, h3, h4⟩)
theorem lawT_mem {f : Nat → Nat → Bool} {s : Nat} {q : Int × Int} : ∀ {n : Nat}, q ∈ lawT f s n ↔ ∃ p l : Nat, p < n ∧ p < l ∧ l < s ∧ f p l = true ∧ q = ((p : Int), (l : Int))
  | 0 => ⟨(fun h => by cases h), fun ⟨p, l, h1, _⟩ => by omega⟩
  | n + 1 => by
    have ih := lawT_mem (f := f) (s := s) (q := q) (n := n)
    constructor
    · intro h
      rcases List.mem_append.mp h with h | h
      · obtain ⟨p, l, h1, h2⟩ := ih.mp h
        exact ⟨p, l, by omega, h2⟩
      · obtain ⟨l, h1, h2, h3, h4⟩ := lawR_mem.mp h
        exact ⟨n, l, by omega, h1, by omega, h3, h4⟩
    · rintro ⟨p, l, h1, h2, h3, h4⟩
      by_cases e : p = n
      · subst e
        exact List.mem_append_right _ (lawR_mem.mpr ⟨l, h2, by omega, h4⟩)
      · exact List.mem_append_left _ (ih.mpr ⟨p, l, by omega, h2, h3, h4⟩)
theorem lawR_up {f : Nat → Nat → Bool} {p : Nat} : ∀ {n : Nat}, (lawR f p n).Pairwise (fun x y => lexB x y = true)
  | 0 => .nil
  | n + 1 => by
    refine List.pairwise_append.mpr ⟨lawR_up, ?_, fun x hx y hy => ?_⟩
    · split
      · exact List.pairwise_singleton _ _
      · exact .nil
    · obtain ⟨l, h1, h2, _, rfl⟩ := lawR_mem.mp hx
      split at hy
      · rw [List.mem_singleton.mp hy]
        refine lexB_iff.mpr (.inr ⟨rfl, ?_⟩)
        show (l : Int) < ((p + 1 + n : Nat) : Int)
        omega
      · cases hy
theorem lawT_up {f : Nat → Nat → Bool} {s : Nat} : ∀ {n : Nat}, (lawT f s n).Pairwise (fun x y => lexB x y = true)
  | 0 => .nil
  | n + 1 => by
    refine List.pairwise_append.mpr ⟨lawT_up, lawR_up, fun x hx y hy => ?_⟩
    obtain ⟨p, l, h1, _, _, _, rfl⟩ := lawT_mem.mp hx
    obtain ⟨l', _, _, _, rfl⟩ := lawR_mem.mp hy
    refine lexB_iff.mpr (.inl ?_)
    show (p : Int) < (n : Int)
    omega
theorem alT_mem {ks : List Nat} {q : Int × Int} : ∀ {n : Nat}, q ∈ alT ks n ↔ ∃ m, m < n ∧ q ∈ alM m (ks.getD m 0)
  | 0 => ⟨(fun h => by cases h), fun ⟨m, h, _⟩ => by omega⟩
  | n + 1 => by
    have ih := alT_mem (ks := ks) (q := q) (n := n)
    constructor
    · intro h
      rcases List.mem_append.mp h with h | h
      · obtain ⟨m, h1, h2⟩ := ih.mp h
        exact ⟨m, by omega, h2⟩
      · exact ⟨n, by omega, h⟩
    · rintro ⟨m, h1, h2⟩
      by_cases e : m = n
      · subst e; exact List.mem_append_right _ h2
      · exact List.mem_append_left _ (ih.mpr ⟨m, by omega, h2⟩)
theorem unT_mem {ks : List Nat} {s : Nat} {q : Int × Int} : ∀ {n : Nat}, q ∈ unT ks s n ↔ ∃ m, m < n ∧ q ∈ unM s m (ks.getD m 0)
  | 0 => ⟨(fun h => by cases h), fun ⟨m, h, _⟩ => by omega⟩
  | n + 1 => by
    have ih := unT_mem (ks := ks) (s := s) (q := q) (n := n)
    constructor
    · intro h
      rcases List.mem_append.mp h with h | h
      · obtain ⟨m, h1, h2⟩ := ih.mp h
        exact ⟨m, by omega, h2⟩
      · exact ⟨n, by omega, h⟩
    · rintro ⟨m, h1, h2⟩
      by_cases e : m = n
      · subst e; exact List.mem_append_right _ h2
      · exact List.mem_append_left _ (ih.mpr ⟨m, by omega, h2⟩)
def fAl (ks : List Nat) (p l : Nat) : Bool := decide (l - p + 1 ≤ ks.getD (p + l) 0)
def fUn (ks : List Nat) (p l : Nat) : Bool := decide (l - p + 1 = ks.getD (p + l) 0 + 2)
theorem al_law {ks : List Nat} {s : Nat} (F : FormN ks s) {qs : List (Int × Int)} (hp : qs.Perm (alT ks ks.length)) (hu : qs.Pairwise (fun a b => lexB a b = true)) : qs = lawT (fAl ks) s s := by
  refine up_one hu lawT_up fun q => ⟨fun h => ?_, fun h => hp.mem_iff.mpr ?_⟩
  · obtain ⟨m, hm, h⟩ := alT_mem.mp (hp.mem_iff.mp h)
    obtain ⟨f1, f2, f3⟩ := F.fit m hm
    obtain ⟨k, h1, h2, rfl⟩ := al_mem h
    unfold fN at h1
    refine lawT_mem.mpr ⟨k, m - k, by omega, by omega, by omega, ?_, rfl⟩
    unfold fAl
    rw [show k + (m - k) = m by omega]
    exact decide_eq_true (by omega)
  · obtain ⟨p, l, h1, h2, h3, h4, rfl⟩ := lawT_mem.mp h
    have hlen := F.len
    have h4 : l - p + 1 ≤ ks.getD (p + l) 0 := of_decide_eq_true h4
    obtain ⟨f1, f2, f3⟩ := F.fit (p + l) (by omega)
    refine alT_mem.mpr ⟨p + l, by omega, ?_⟩
    unfold alM fN
    refine List.mem_map.mpr ⟨p - (p + l + 1 - ks.getD (p + l) 0) / 2, List.mem_range.mpr (by omega), ?_⟩
    rw [show (p + l + 1 - ks.getD (p + l) 0) / 2 + (p - (p + l + 1 - ks.getD (p + l) 0) / 2) = p by omega, show p + l - p = l by omega]
theorem un_law {ks : List Nat} {s : Nat} (F : FormN ks s) {qs : List (Int × Int)} (hp : qs.Perm (unT ks s ks.length)) (hu : qs.Pairwise (fun a b => lexB a b = true)) : qs = lawT (fUn ks) s s := by
  refine up_one hu lawT_up fun q => ⟨fun h => ?_, fun h => hp.mem_iff.mpr ?_⟩
  · obtain ⟨m, hm, h⟩ := unT_mem.mp (hp.mem_iff.mp h)
    obtain ⟨f1, f2, f3⟩ := F.fit m hm
    obtain ⟨h1, h2, rfl⟩ := un_mem h
    unfold fN at *
    refine lawT_mem.mpr ⟨(m + 1 - ks.getD m 0) / 2 - 1, m + 1 - (m + 1 - ks.getD m 0) / 2, by omega, by omega, by omega, ?_, rfl⟩
    unfold fUn
    rw [show (m + 1 - ks.getD m 0) / 2 - 1 + (m + 1 - (m + 1 - ks.getD m 0) / 2) = m by omega]
    exact decide_eq_true (by omega)
  · obtain ⟨p, l, h1, h2, h3, h4, rfl⟩ := lawT_mem.mp h
    have hlen := F.len
    have h4 : l - p + 1 = ks.getD (p + l) 0 + 2 := of_decide_eq_true h4
    obtain ⟨f1, f2, f3⟩ := F.fit (p + l) (by omega)
    refine unT_mem.mpr ⟨p + l, by omega, ?_⟩
    unfold unM fN
    have e1 : (p + l + 1 - ks.getD (p + l) 0) / 2 - 1 = p := by omega
    have e2 : p + l + 1 - (p + l + 1 - ks.getD (p + l) 0) / 2 = l := by omega
    rw [if_pos (by omega), e1, e2]
    exact List.mem_singleton.mpr rfl
theorem lawR_len {f : Nat → Nat → Bool} {p : Nat} : ∀ n : Nat, (lawR f p n).length ≤ n
  | 0 => Nat.le_refl _
  | n + 1 => by
    have ih := lawR_len (f := f) (p := p) n
    show (lawR f p n ++ _).length ≤ _
    rw [List.length_append]
    split
    · show _ + 1 ≤ _; omega
    · show _ + 0 ≤ _; omega
theorem lawT_len {f : Nat → Nat → Bool} {s : Nat} : ∀ n : Nat, (lawT f s n).length ≤ n * s
  | 0 => by show 0 ≤ _; exact Nat.zero_le _
  | n + 1 => by
    have ih := lawT_len (f := f) (s := s) n
    have h2 := lawR_len (f := f) (p := n) (s - (n + 1))
    show (lawT f s n ++ _).length ≤ _
    rw [List.length_append, Nat.succ_mul]
    omega
end Mr
namespace Mr
open PySem L2
def spLReachM : Sp := fun vs H Q _ => ∃ l : List Nat, vs = [.str (tx l)] ∧ l.length ≤ 16 ∧ ∀ (p : Addr) (H' : Hp), H p = none → H' p = some (.lst (lensV (reachesN l))) → Same H H' → Q (.ref p) H'
def spPairs72 : Sp := fun vs H Q _ => ∃ (p : Addr) (ks : List Nat) (s : Nat), vs = [.ref p] ∧ H p = some (.lst (lensV ks)) ∧ FormN ks s ∧ s ≤ 16 ∧
  ∀ (t la lu : Addr) (ya yu : List V) (H' : Hp), H' t = some (.tup [.ref la, .ref lu]) → H' la = some (.lst ya) → H' lu = some (.lst yu) → PrsV H' ya (lawT (fAl ks) s s) → PrsV H' yu (lawT (fUn ks) s s) → Same H H' → Q (.ref t) H'
def spRight72 : Sp := fun vs H Q _ => ∃ (p : Addr) (ks : List Nat) (s : Nat), vs = [.ref p] ∧ H p = some (.lst (lensV ks)) ∧ FormN ks s ∧ s ≤ 16 ∧ ∀ H', Same H H' → Q (.bl true) H'
end Mr

namespace L2
open PySem PySem.Spec PyProof.Rows PySem.SeqAt PySem.MeetsSeq
/-! ### text > text, text.index(sign) -/
section
variable {X : Cx}
theorem op_gtS : OpR X (compareOp .Gt) (fun x y H Q => ∃ l m : List Nat, x = .str (tx l) ∧ y = .str (tx m) ∧ Q (.bl (decide (m < l))) H) := by
  intro pins s σ H x y v u Q I rx ry h
  obtain ⟨l, m, rfl, rfl, q⟩ := h
  obtain ⟨t, rfl⟩ := rx
  obtain ⟨t', rfl⟩ := ry
  refine PySem.P.gt_str (fin_bl I ?_ rfl)
  have e1 : (tx l).cps.toList = l := by simp
  have e2 : (tx m).cps.toList = m := by simp
  rw [e1, e2]
  exact q
def rIndexC : V → List V → Hp → VK → Prop := fun x vs H Q => ∃ (l : List Nat) (c i : Nat) (rest : List Nat), x = .str (tx l) ∧ vs = [.str (tx [c])] ∧ Builtin.Str.occurrences (tx l) (tx [c]) 0 (tx l).length 1 = i :: rest ∧ Q (.int (i : Int)) H
theorem mt_indexC : MtR X "str.index" rIndexC := by
  intro pins s σ H x xs v us Q I rx rs h
  obtain ⟨l, c, i, rest, rfl, rfl, he, q⟩ := h
  obtain ⟨k, rfl⟩ := rx
  obtain ⟨w, rfl, ru⟩ := vals1 rs
  obtain ⟨k2, rfl⟩ := ru
  exact SC.index he ⟨.int (i : Int), H, I.tok _, ⟨_, rfl⟩, q⟩
end
end L2

namespace Mr
open PySem L2
/-! ### a row has the reaches where its places are alike and unlike as they ask -/
structure Hold (ks t : List Nat) (s : Nat) : Prop where
  len : t.length = s
  al : ∀ p l, p < l → l < s → fAl ks p l = true → t.getD p 0 = t.getD l 0
  un : ∀ p l, p < l → l < s → fUn ks p l = true → t.getD p 0 ≠ t.getD l 0
theorem getD_q {t : List Nat} {i : Nat} (h : i < t.length) : t[i]? = some (t.getD i 0) := by
  rw [List.getD_eq_getElem?_getD, List.getElem?_eq_getElem h]
  rfl
theorem gtD_eq {t : List Nat} {i j : Nat} (hi : i < t.length) (hj : j < t.length) : t[i]? = t[j]? ↔ t.getD i 0 = t.getD j 0 := by
  rw [getD_q hi, getD_q hj]
  exact ⟨fun h => Option.some.inj h, fun h => congrArg some h⟩
theorem hold_reaches {ks t : List Nat} {s : Nat} (F : FormN ks s) (h : Hold ks t s) : reachesN t = ks := by
  have hl := F.len
  have ht := h.len
  apply List.ext_getElem?
  intro m
  by_cases hm : m < 2 * s - 1
  · rw [reachesN_at (by omega), getD_q (t := ks) (by omega)]
    congr 1
    obtain ⟨f1, f2, f3⟩ := F.fit m (by omega)
    have al := h.al
    have un := h.un
    unfold fAl at al
    unfold fUn at un
    have ea : ∀ p, p < m - p → m - p < s → m - 2 * p + 1 ≤ ks.getD m 0 → t.getD p 0 = t.getD (m - p) 0 := fun p h1 h2 h3 => al p (m - p) h1 h2 (by rw [show p + (m - p) = m by omega]; exact decide_eq_true (by omega))
    have eu : ∀ p, p < m - p → m - p < s → m - 2 * p + 1 = ks.getD m 0 + 2 → t.getD p 0 ≠ t.getD (m - p) 0 := fun p h1 h2 h3 => un p (m - p) h1 h2 (by rw [show p + (m - p) = m by omega]; exact decide_eq_true (by omega))
    generalize ks.getD m 0 = a at f1 f2 f3 ea eu
    have := reach_eq (l := t) (m := m) (a := (m + 1 - a) / 2) (c := m + 1 - (m + 1 - a) / 2) (by omega) (by omega) (by omega) (by omega) (fun i h1 h2 => ?_) (fun h1 h2 hp => ?_)
    · rw [this]; omega
    · rw [show (m + 1 - a) / 2 + (m + 1 - (m + 1 - a) / 2) - 1 - i = m - i by omega]
      rcases Nat.lt_trichotomy i (m - i) with hlt | he | hgt
      · exact (gtD_eq (by omega) (by omega)).mpr (ea i hlt (by omega) (by omega))
      · rw [← he]
      · have := ea (m - i) (by omega) (by omega) (by omega)
        rw [show m - (m - i) = i by omega] at this
        exact (gtD_eq (by omega) (by omega)).mpr this.symm
    · have := hp ((m + 1 - a) / 2 - 1) (by omega) (by omega)
      rw [show (m + 1 - a) / 2 - 1 + (m + 1 - (m + 1 - a) / 2 + 1) - 1 - ((m + 1 - a) / 2 - 1) = m - ((m + 1 - a) / 2 - 1) by omega] at this
      exact eu ((m + 1 - a) / 2 - 1) (by omega) (by omega) (by omega) ((gtD_eq (by omega) (by omega)).mp this)
  · rw [List.getElem?_eq_none (by rw [reachesN_len]; omega), List.getElem?_eq_none (by omega)]
theorem reaches_getD {t : List Nat} {m : Nat} (h : m < 2 * t.length - 1) : (reachesN t).getD m 0 = reachN t m := by
  rw [List.getD_eq_getElem?_getD, reachesN_at h]
  rfl
theorem reaches_hold (t : List Nat) : Hold (reachesN t) t t.length := by
  refine ⟨rfl, fun p l h1 h2 h => ?_, fun p l h1 h2 h e => ?_⟩
  · have h := of_decide_eq_true h
    rw [reaches_getD (by omega)] at h
    have := (reach_spec (l := t) (m := p + l) (a := p) (c := l + 1) (by omega) (by omega) (by omega) (by omega)).mpr (by omega)
    have := this p (by omega) (by omega)
    rw [show p + (l + 1) - 1 - p = l by omega] at this
    exact (gtD_eq (by omega) (by omega)).mp this
  · have h := of_decide_eq_true h
    rw [reaches_getD (by omega)] at h
    have hp := (reach_spec (l := t) (m := p + l) (a := p + 1) (c := l) (by omega) (by omega) (by omega) (by omega)).mpr (by omega)
    have e' := (gtD_eq (t := t) (i := p) (j := l) (by omega) (by omega)).mpr e
    have : PalI t p (l + 1) := fun i a1 a2 => by
      by_cases c1 : i = p
      · subst c1
        rw [show i + (l + 1) - 1 - i = l by omega]
        exact e'
      · by_cases c2 : i = l
        · subst c2
          rw [show p + (i + 1) - 1 - i = p by omega]
          exact e'.symm
        · rw [hp i (by omega) (by omega)]
          congr 1
          omega
    have := (reach_spec (l := t) (m := p + l) (a := p) (c := l + 1) (by omega) (by omega) (by omega) (by omega)).mp this
    omega
theorem form_of (t : List Nat) : FormN (reachesN t) t.length := by
  by_cases h1 : 1 ≤ t.length
  · exact reaches_form h1
  · have e0 : t = [] := List.eq_nil_of_length_eq_zero (by omega)
    subst e0
    exact ⟨rfl, fun k hk => absurd hk (Nat.not_lt_zero _)⟩
/-! leaders: the finest parts -/
structure LeadI (s : Nat) (qs : List (Int × Int)) (ls : List Nat) : Prop where
  len : ls.length = s
  inp : InP s qs
  le : ∀ i, i < s → ls.getD i 0 ≤ i
  id : ∀ i, i < s → ls.getD (ls.getD i 0) 0 = ls.getD i 0
  pr : ∀ q ∈ qs, ls.getD q.1.toNat 0 = ls.getD q.2.toNat 0
  fn : ∀ f : Nat → Nat, (∀ q ∈ qs, f q.1.toNat = f q.2.toNat) → ∀ i, i < s → f (ls.getD i 0) = f i
theorem map_getD {g : Nat → Nat} {ls : List Nat} {i : Nat} (h : i < ls.length) : (ls.map g).getD i 0 = g (ls.getD i 0) := by
  rw [List.getD_eq_getElem?_getD, List.getElem?_map, getD_q h]
  rfl
theorem lead_step {s : Nat} {qs : List (Int × Int)} {ls : List Nat} {q : Int × Int} (L : LeadI s qs ls) (hq : 0 ≤ q.1 ∧ q.1 < q.2 ∧ q.2 < (s : Int)) : LeadI s (qs ++ [q]) (leadF ls q) := by
  obtain ⟨hl, hin, hle, hid, hpr, hfn⟩ := L
  have hp : q.1.toNat < s := by omega
  have hr : q.2.toNat < s := by omega
  unfold leadF
  have ia := hid _ hp
  have ib := hid _ hr
  have la := hle _ hp
  have lb := hle _ hr
  have ga : ∀ f : Nat → Nat, (∀ r ∈ qs, f r.1.toNat = f r.2.toNat) → f (ls.getD q.1.toNat 0) = f q.1.toNat := fun f hf => hfn f hf _ hp
  have gb : ∀ f : Nat → Nat, (∀ r ∈ qs, f r.1.toNat = f r.2.toNat) → f (ls.getD q.2.toNat 0) = f q.2.toNat := fun f hf => hfn f hf _ hr
  dsimp only
  have key : ∀ lo hi : Nat, lo ≤ hi → ls.getD lo 0 = lo → hi < s → lo < s → ((ls.getD q.1.toNat 0 = lo ∧ ls.getD q.2.toNat 0 = hi) ∨ (ls.getD q.1.toNat 0 = hi ∧ ls.getD q.2.toNat 0 = lo)) → LeadI s (qs ++ [q]) (ls.map fun x => if x = hi then lo else x) := fun lo hi h1 h2 h3 h3' h4 => by
    have at_ : ∀ i, i < s → (ls.map fun x => if x = hi then lo else x).getD i 0 = if ls.getD i 0 = hi then lo else ls.getD i 0 := fun i h => map_getD (by omega)
    refine ⟨by rw [List.length_map, hl], fun r h => ?_, fun i h => ?_, fun i h => ?_, fun r h => ?_, fun f hf i h => ?_⟩
    · rcases List.mem_append.mp h with h | h
      · exact hin r h
      · rw [List.mem_singleton.mp h]; exact hq
    · rw [at_ i h]
      have := hle i h
      split <;> omega
    · rw [at_ i h]
      have := hle i h
      by_cases c : ls.getD i 0 = hi
      · rw [if_pos c, at_ lo h3', h2]
        split <;> omega
      · rw [if_neg c, at_ _ (by omega), hid i h, if_neg c]
    · rcases List.mem_append.mp h with h | h
      · have := hin r h
        rw [at_ _ (by omega), at_ _ (by omega), hpr r h]
      · rw [List.mem_singleton.mp h, at_ _ hp, at_ _ hr]
        rcases h4 with ⟨e1, e2⟩ | ⟨e1, e2⟩
        · rw [e1, e2, if_pos rfl]
          split <;> omega
        · rw [e1, e2, if_pos rfl]
          split <;> omega
    · rw [at_ i h]
      have hf' : ∀ r ∈ qs, f r.1.toNat = f r.2.toNat := fun r hr => hf r (List.mem_append_left _ hr)
      have hi' := hfn f hf' i h
      by_cases c : ls.getD i 0 = hi
      · rw [if_pos c]
        rw [c] at hi'
        rw [← hi']
        have e1 := ga f hf'
        have e2 := gb f hf'
        have e3 := hf q (List.mem_append_right _ (List.mem_singleton.mpr rfl))
        rcases h4 with ⟨k1, k2⟩ | ⟨k1, k2⟩
        · rw [k1] at e1; rw [k2] at e2
          rw [e1, e2, e3]
        · rw [k1] at e1; rw [k2] at e2
          rw [e1, e2, e3]
      · rw [if_neg c]
        exact hi'
  generalize ls.getD q.1.toNat 0 = a at *
  generalize ls.getD q.2.toNat 0 = b at *
  by_cases c : b < a
  · have := key b a (by omega) ib (by omega) (by omega) (.inr ⟨rfl, rfl⟩)
    rw [if_pos c, if_neg (by omega)]
    exact this
  · rw [if_neg c]
    by_cases c2 : b > a
    · rw [if_pos c2]
      exact key a b (by omega) ia (by omega) (by omega) (.inl ⟨rfl, rfl⟩)
    · rw [if_neg c2]
      exact key a a (by omega) ia (by omega) (by omega) (.inl ⟨rfl, by omega⟩)
theorem lead_fold {s : Nat} : ∀ {qs ds : List (Int × Int)} {ls : List Nat}, LeadI s ds ls → InP s qs → LeadI s (ds ++ qs) (qs.foldl leadF ls)
  | [], ds, ls, L, _ => by rw [List.append_nil]; exact L
  | q :: qs, ds, ls, L, h => by
    have := lead_fold (qs := qs) (lead_step L (h q List.mem_cons_self)) fun r hr => h r (List.mem_cons_of_mem _ hr)
    rw [List.append_assoc] at this
    exact this
theorem leadI {s : Nat} {qs : List (Int × Int)} (h : InP s qs) : LeadI s qs (leadN qs s) := by
  have g : ∀ i, i < s → (List.range s).getD i 0 = i := fun i hi => by
    rw [List.getD_eq_getElem?_getD, List.getElem?_range hi]
    rfl
  refine lead_fold (ds := []) (ls := List.range s) ⟨List.length_range, (fun q hq => by cases hq), (fun i hi => by rw [g i hi]; exact Nat.le_refl _), (fun i hi => by rw [g i hi, g i hi]), (fun q hq => by cases hq), fun f _ i hi => by rw [g i hi]⟩ h
/-! the row that is told -/
theorem rowT_pre (ls : List Nat) (ul : List (Int × Int)) {n i : Nat} : ∀ {s : Nat}, i < n → n ≤ s → (rowT ls ul s).getD i 0 = (rowT ls ul n).getD i 0
  | 0, h1, h2 => by omega
  | s + 1, h1, h2 => by
    by_cases c : n = s + 1
    · rw [c]
    · rw [← rowT_pre ls ul (s := s) h1 (by omega)]
      show (rowT ls ul s ++ [_]).getD i 0 = _
      rw [List.getD_eq_getElem?_getD, List.getElem?_append_left (by rw [rowT_len]; omega), ← List.getD_eq_getElem?_getD]
theorem rowT_at {ls : List Nat} {ul : List (Int × Int)} {s i : Nat} (h : i < s) : (rowT ls ul s).getD i 0 = if ls.getD i 0 < i then (rowT ls ul i).getD (ls.getD i 0) 0 else firstL (barr (rowT ls ul i) i ul) := by
  rw [rowT_pre ls ul (n := i + 1) (Nat.lt_succ_self _) h]
  show (rowT ls ul i ++ [_]).getD i 0 = _
  rw [List.getD_eq_getElem?_getD, List.getElem?_append_right (by rw [rowT_len]; exact Nat.le_refl _), rowT_len, Nat.sub_self]
  rfl
theorem fst_not {bs told : List Nat} (hb : ∀ b ∈ bs, b ∈ told) (h : told.length ≤ 25) : firstL bs ∉ bs ∧ firstL bs ∈ lets := by
  have hm : firstL bs ∈ lets.filter fun c => !decide (c ∈ bs) := by rw [first_some hb h]; exact List.mem_cons_self
  obtain ⟨h1, h2⟩ := List.mem_filter.mp hm
  refine ⟨fun z => ?_, h1⟩
  rw [decide_eq_true z] at h2
  cases h2
theorem fst_le {bs : List Nat} {c : Nat} (hc : c ∈ lets) (hn : c ∉ bs) : firstL bs ≤ c := by
  have up : lets.Pairwise (· < ·) := by decide +kernel
  have hm : c ∈ lets.filter fun c => !decide (c ∈ bs) := List.mem_filter.mpr ⟨hc, by rw [decide_eq_false hn]; rfl⟩
  have up2 := up.filter fun c => !decide (c ∈ bs)
  unfold firstL
  generalize lets.filter (fun c => !decide (c ∈ bs)) = l at hm up2
  cases l with
  | nil => cases hm
  | cons x l =>
    show x ≤ c
    rcases List.mem_cons.mp hm with rfl | hm
    · exact Nat.le_refl _
    · exact Nat.le_of_lt ((List.pairwise_cons.mp up2).1 c hm)
theorem law_in {f : Nat → Nat → Bool} {s : Nat} : InP s (lawT f s s) := fun q hq => by
  obtain ⟨p, l, h1, h2, h3, h4, rfl⟩ := lawT_mem.mp hq
  show 0 ≤ (p : Int) ∧ (p : Int) < (l : Int) ∧ (l : Int) < (s : Int)
  omega
def ldK (ks : List Nat) (s : Nat) : List Nat := leadN (lawT (fAl ks) s s) s
def ulK (ks : List Nat) (s : Nat) : List (Int × Int) := unL (ldK ks s) (lawT (fUn ks) s s)
def rowK (ks : List Nat) (s : Nat) : Option (List Nat) := rowN (lawT (fAl ks) s s) (lawT (fUn ks) s s) s
theorem ul_mem {ks : List Nat} {s : Nat} {q : Int × Int} : q ∈ ulK ks s ↔ ∃ p l : Nat, p < l ∧ l < s ∧ fUn ks p l = true ∧ q = ((((ldK ks s).getD p 0 : Nat) : Int), (((ldK ks s).getD l 0 : Nat) : Int)) := by
  unfold ulK unL
  rw [List.mem_map]
  constructor
  · rintro ⟨r, hr, rfl⟩
    obtain ⟨p, l, h1, h2, h3, h4, rfl⟩ := lawT_mem.mp hr
    exact ⟨p, l, h2, h3, h4, rfl⟩
  · rintro ⟨p, l, h2, h3, h4, rfl⟩
    exact ⟨_, lawT_mem.mpr ⟨p, l, by omega, h2, h3, h4, rfl⟩, rfl⟩
theorem rowK_eq {ks : List Nat} {s : Nat} : rowK ks s = if (ulK ks s).any (fun q => decide (q.1 = q.2)) then none else some (rowT (ldK ks s) (ulK ks s) s) := rfl
theorem row_is {ks : List Nat} {s : Nat} {qs us : List (Int × Int)} (F : FormN ks s) (a1 : qs.Perm (alT ks ks.length)) (a2 : qs.Pairwise (fun a b => lexB a b = true)) (b1 : us.Perm (unT ks s ks.length)) (b2 : us.Pairwise (fun a b => lexB a b = true)) : rowN qs us s = rowK ks s := by
  rw [al_law F a1 a2, un_law F b1 b2]
  rfl
theorem ld_al {ks : List Nat} {s p l : Nat} (h1 : p < l) (h2 : l < s) (h : fAl ks p l = true) : (ldK ks s).getD p 0 = (ldK ks s).getD l 0 := by
  have := (leadI (law_in (f := fAl ks) (s := s))).pr _ (lawT_mem.mpr ⟨p, l, by omega, h1, h2, h, rfl⟩)
  exact this
theorem ld_fn {ks t : List Nat} {s : Nat} (H : Hold ks t s) {i : Nat} (hi : i < s) : t.getD ((ldK ks s).getD i 0) 0 = t.getD i 0 := by
  refine (leadI (law_in (f := fAl ks) (s := s))).fn (fun i => t.getD i 0) (fun q hq => ?_) i hi
  obtain ⟨p, l, h1, h2, h3, h4, rfl⟩ := lawT_mem.mp hq
  exact H.al p l h2 h3 h4
theorem ul_ne {ks t : List Nat} {s : Nat} (H : Hold ks t s) : (ulK ks s).any (fun q => decide (q.1 = q.2)) = false := by
  rw [List.any_eq_false]
  intro q hq
  obtain ⟨p, l, h1, h2, h3, rfl⟩ := ul_mem.mp hq
  intro e
  have e := of_decide_eq_true e
  have e : ((ldK ks s).getD p 0 : Int) = ((ldK ks s).getD l 0 : Int) := e
  have e : (ldK ks s).getD p 0 = (ldK ks s).getD l 0 := by omega
  apply H.un p l h1 h2 h3
  rw [← ld_fn H (show p < s by omega), ← ld_fn H h2, e]
theorem rowK_some {ks t : List Nat} {s : Nat} (H : Hold ks t s) : rowK ks s = some (rowT (ldK ks s) (ulK ks s) s) := by
  rw [rowK_eq, ul_ne H]
  rfl
/-- what is told has the places alike and unlike -/
theorem told_hold {ks : List Nat} {s : Nat} (hs : s ≤ 25) (hn : (ulK ks s).any (fun q => decide (q.1 = q.2)) = false) : Hold ks (rowT (ldK ks s) (ulK ks s) s) s ∧ ∀ c ∈ rowT (ldK ks s) (ulK ks s) s, c ∈ lets := by
  have L := leadI (law_in (f := fAl ks) (s := s))
  have hl := L.len
  have lle := L.le
  have lid := L.id
  have ne : ∀ q ∈ ulK ks s, 0 ≤ q.1 ∧ 0 ≤ q.2 ∧ q.1 ≠ q.2 := fun q hq => by
    obtain ⟨p, l, _, _, _, e⟩ := ul_mem.mp hq
    refine ⟨by rw [e]; exact Int.natCast_nonneg _, by rw [e]; exact Int.natCast_nonneg _, fun z => ?_⟩
    have := (List.any_eq_false.mp hn) q hq
    exact this (decide_eq_true z)
  have al := fun p l => ld_al (ks := ks) (s := s) (p := p) (l := l)
  have um := fun q => (ul_mem (ks := ks) (s := s) (q := q)).mpr
  change ∀ i, i < s → (ldK ks s).getD i 0 ≤ i at lle
  change ∀ i, i < s → (ldK ks s).getD ((ldK ks s).getD i 0) 0 = (ldK ks s).getD i 0 at lid
  generalize ldK ks s = ls at *
  generalize ulK ks s = ul at *
  have bar : ∀ i, i < s → ¬ ls.getD i 0 < i → (rowT ls ul s).getD i 0 ∉ barr (rowT ls ul i) i ul ∧ (rowT ls ul s).getD i 0 ∈ lets := fun i hi c => by
    rw [rowT_at hi, if_neg c]
    have hrl := rowT_len ls ul i
    have sub := barr_sub (told := rowT ls ul i) ne
    rw [hrl] at sub
    exact fst_not sub (by omega)
  have ld : ∀ i, i < s → (rowT ls ul s).getD i 0 = (rowT ls ul s).getD (ls.getD i 0) 0 := fun i hi => by
    have := lle i hi
    by_cases c : ls.getD i 0 < i
    · rw [rowT_at hi, if_pos c]
      exact (rowT_pre ls ul (s := s) c (by omega)).symm
    · rw [show ls.getD i 0 = i by omega]
  have dif : ∀ a b, a < b → b < s → ls.getD a 0 = a → ls.getD b 0 = b → (((a : Int), (b : Int)) ∈ ul ∨ ((b : Int), (a : Int)) ∈ ul) → (rowT ls ul s).getD a 0 ≠ (rowT ls ul s).getD b 0 := fun a b h1 h2 h3 h4 h5 e => by
    have hb := (bar b h2 (by omega)).1
    rw [← e, rowT_pre ls ul h1 (by omega)] at hb
    apply hb
    unfold barr
    rcases h5 with h5 | h5
    · refine List.mem_map.mpr ⟨_, List.mem_filter.mpr ⟨h5, decide_eq_true ?_⟩, ?_⟩
      · show (if (b : Int) > (a : Int) then (b : Int) else (a : Int)) = _
        rw [if_pos (by omega)]
      · show (rowT ls ul b).getD (if (b : Int) < (a : Int) then (b : Int) else (a : Int)).toNat 0 = _
        rw [if_neg (by omega)]
        rfl
    · refine List.mem_map.mpr ⟨_, List.mem_filter.mpr ⟨h5, decide_eq_true ?_⟩, ?_⟩
      · show (if (a : Int) > (b : Int) then (a : Int) else (b : Int)) = _
        rw [if_neg (by omega)]
      · show (rowT ls ul b).getD (if (a : Int) < (b : Int) then (a : Int) else (b : Int)).toNat 0 = _
        rw [if_pos (by omega)]
        rfl
  refine ⟨⟨rowT_len ls ul s, fun p l h1 h2 h => ?_, fun p l h1 h2 h e => ?_⟩, fun c hc => ?_⟩
  · rw [ld p (by omega), ld l h2, al p l h1 h2 h]
  · rw [ld p (by omega), ld l h2] at e
    have hm := um _ ⟨p, l, h1, h2, h, rfl⟩
    have hne := (ne _ hm).2.2
    have a1 := lle p (by omega)
    have a2 := lle l h2
    have a3 := lid p (by omega)
    have a4 := lid l h2
    have hne : ((ls.getD p 0 : Nat) : Int) ≠ ((ls.getD l 0 : Nat) : Int) := hne
    generalize ls.getD p 0 = x at *
    generalize ls.getD l 0 = y at *
    rcases Nat.lt_or_ge x y with c | c
    · exact dif x y c (by omega) a3 a4 (.inl hm) e
    · exact dif y x (by omega) (by omega) a4 a3 (.inr hm) e.symm
  · obtain ⟨i, hi, rfl⟩ := List.getElem_of_mem hc
    have hi' : i < s := by rw [rowT_len] at hi; exact hi
    have e : (rowT ls ul s)[i] = (rowT ls ul s).getD i 0 := by rw [List.getD_eq_getElem?_getD, List.getElem?_eq_getElem hi]; rfl
    have a1 := lle i hi'
    rw [e, ld i hi']
    have a3 := lid i hi'
    exact (bar _ (by omega) (by omega)).2
/-- it is no later than any row that has them -/
theorem told_le {ks r : List Nat} {s : Nat} (H : Hold ks r s) (hr : ∀ c ∈ r, c ∈ lets) {n : Nat} (hn : n < s) (he : ∀ i, i < n → (rowT (ldK ks s) (ulK ks s) s).getD i 0 = r.getD i 0) : (rowT (ldK ks s) (ulK ks s) s).getD n 0 ≤ r.getD n 0 := by
  have L := leadI (law_in (f := fAl ks) (s := s))
  have lle := L.le n hn
  change (ldK ks s).getD n 0 ≤ n at lle
  rw [rowT_at hn]
  by_cases c : (ldK ks s).getD n 0 < n
  · rw [if_pos c, ← rowT_pre (s := s) (ldK ks s) (ulK ks s) c (by omega), he _ c, ld_fn H hn]
    exact Nat.le_refl _
  · rw [if_neg c]
    refine fst_le (hr _ ?_) fun hb => ?_
    · have := H.len
      rw [List.getD_eq_getElem?_getD, List.getElem?_eq_getElem (show n < r.length by omega)]
      exact List.getElem_mem _
    · unfold barr at hb
      obtain ⟨q, hq, e⟩ := List.mem_map.mp hb
      obtain ⟨h1, h2⟩ := List.mem_filter.mp hq
      have h2 := of_decide_eq_true h2
      obtain ⟨p, l, k1, k2, k3, rfl⟩ := ul_mem.mp h1
      have fp := ld_fn H (show p < s by omega)
      have fl := ld_fn H k2
      have hu := H.un p l k1 k2 k3
      rw [← fp, ← fl] at hu
      generalize (ldK ks s).getD p 0 = x at *
      generalize (ldK ks s).getD l 0 = y at *
      have h2 : (if (y : Int) > (x : Int) then (y : Int) else (x : Int)) = (n : Int) := h2
      have e : (rowT (ldK ks s) (ulK ks s) n).getD (if (y : Int) < (x : Int) then (y : Int) else (x : Int)).toNat 0 = r.getD n 0 := e
      by_cases cx : x < y
      · rw [if_pos (by omega)] at h2
        rw [if_neg (by omega), Int.toNat_natCast, ← rowT_pre (s := s) _ _ (show x < n by omega) (by omega), he x (by omega)] at e
        have : y = n := by omega
        subst this
        exact hu e
      · have nx : x ≠ y := fun z => hu (by rw [z])
        rw [if_neg (by omega)] at h2
        rw [if_pos (by omega), Int.toNat_natCast, ← rowT_pre (s := s) _ _ (show y < n by omega) (by omega), he y (by omega)] at e
        have : x = n := by omega
        subst this
        exact hu e.symm
theorem lex_not : ∀ {t r : List Nat}, t.length = r.length → (∀ n, n < r.length → (∀ i, i < n → t.getD i 0 = r.getD i 0) → t.getD n 0 ≤ r.getD n 0) → ¬ r < t
  | [], [], _, _ => List.lt_irrefl _
  | [], _ :: _, h, _ => by cases h
  | _ :: _, [], h, _ => by cases h
  | a :: t, b :: r, hl, h => by
    intro hlt
    have h0 : a ≤ b := h 0 (Nat.zero_lt_succ _) fun i hi => absurd hi (Nat.not_lt_zero _)
    rcases List.cons_lt_cons_iff.mp hlt with hb | ⟨rfl, hb⟩
    · omega
    · refine lex_not (t := t) (r := r) (by injection hl) (fun n hn he => ?_) hb
      refine h (n + 1) (Nat.succ_lt_succ hn) fun i hi => ?_
      cases i with
      | zero => rfl
      | succ i => exact he i (by omega)
/-- all of it: the told row has the reaches, and is no later -/
theorem told_row {r : List Nat} (hs : r.length ≤ 25) (hr : ∀ c ∈ r, c ∈ lets) : ∃ t, rowK (reachesN r) r.length = some t ∧ t.length = r.length ∧ reachesN t = reachesN r ∧ ¬ r < t ∧ ∀ c ∈ t, c ∈ lets := by
  have H := reaches_hold r
  obtain ⟨h1, h2⟩ := told_hold (ks := reachesN r) (s := r.length) hs (ul_ne H)
  refine ⟨_, rowK_some H, h1.len, hold_reaches (form_of r) h1, lex_not h1.len fun n hn he => told_le H hr hn he, h2⟩
end Mr
namespace Mr
open PySem L2
/-! ### the law's own row for reaches -/
def spFirstRow : Sp := fun vs H Q _ => ∃ (p : Addr) (ks : List Nat) (s : Nat), vs = [.ref p] ∧ H p = some (.lst (lensV ks)) ∧ FormN ks s ∧ s ≤ 16 ∧ ∀ H', Same H H' → Q (textV (rowK ks s)) H'
def tkN (told : List Nat) (pl x y : Nat) : List Nat := if x = pl ∧ y < pl then [told.getD y 0] else []
def UpB (bs : List Nat) (i : Nat) : Prop := ∀ c, 97 ≤ c → c < 97 + i → c ∈ bs
end Mr
namespace Mr
open PySem L2
/-! ### k76: the places alike and unlike, of another row -/
def spHolds : Sp := fun vs H Q _ => ∃ (p : Addr) (ks r : List Nat) (s : Nat), vs = [.str (tx r), .ref p] ∧ H p = some (.lst (lensV ks)) ∧ FormN ks s ∧ s ≤ 16 ∧ r.length = s ∧ ∀ (b : Bool) (H' : Hp), (b = true ↔ reachesN r = ks) → Same H H' → Q (.bl b) H'
theorem hold_iff {ks t : List Nat} {s : Nat} (F : FormN ks s) (hl : t.length = s) : reachesN t = ks ↔ (∀ q ∈ lawT (fAl ks) s s, t.getD q.1.toNat 0 = t.getD q.2.toNat 0) ∧ ∀ q ∈ lawT (fUn ks) s s, t.getD q.1.toNat 0 ≠ t.getD q.2.toNat 0 := by
  constructor
  · intro h
    have H := reaches_hold t
    rw [h, hl] at H
    refine ⟨fun q hq => ?_, fun q hq => ?_⟩
    · obtain ⟨p, l, h1, h2, h3, h4, rfl⟩ := lawT_mem.mp hq
      exact H.al p l h2 h3 h4
    · obtain ⟨p, l, h1, h2, h3, h4, rfl⟩ := lawT_mem.mp hq
      exact H.un p l h2 h3 h4
  · rintro ⟨h1, h2⟩
    exact hold_reaches F ⟨hl, fun p l k1 k2 k3 => h1 _ (lawT_mem.mpr ⟨p, l, by omega, k1, k2, k3, rfl⟩), fun p l k1 k2 k3 => h2 _ (lawT_mem.mpr ⟨p, l, by omega, k1, k2, k3, rfl⟩)⟩
theorem reaches_map {g : Nat → Nat} {m : List Nat} (h : ∀ a ∈ m, ∀ b ∈ m, g a = g b → a = b) : reachesN (m.map g) = reachesN m := by
  have H := reaches_hold m
  have hin : ∀ i, i < m.length → m.getD i 0 ∈ m := fun i hi => by
    rw [List.getD_eq_getElem?_getD, List.getElem?_eq_getElem hi]
    exact List.getElem_mem hi
  refine hold_reaches (form_of m) ⟨List.length_map .., fun p l h1 h2 k => ?_, fun p l h1 h2 k e => ?_⟩
  · rw [map_getD (by omega), map_getD (by omega), H.al p l h1 h2 k]
  · rw [map_getD (by omega), map_getD (by omega)] at e
    exact H.un p l h1 h2 k (h _ (hin p (by omega)) _ (hin l h2) e)
end Mr
namespace Mr
open PySem L2
/-! ### k76: the same row in other signs -/
def othC (c : Nat) : Nat := if c = 122 then 113 else if c = 97 then 98 else if c = 98 then 119 else 120
theorem e_zabc : ("zabc" : Str) = tx [122, 97, 98, 99] := by decide +kernel
theorem e_qbw : ("qbwxyzk" : Str) = tx [113, 98, 119, 120, 121, 122, 107] := by decide +kernel
theorem oth_at {c : Nat} (h : c = 97 ∨ c = 98 ∨ c = 99 ∨ c = 122) : ∃ i : Nat, Builtin.Str.occurrences (tx [122, 97, 98, 99]) (tx [c]) 0 (tx [122, 97, 98, 99]).length 1 = [i] ∧ ([113, 98, 119, 120, 121, 122, 107] : List Nat)[i]? = some (othC c) := by
  rcases h with rfl | rfl | rfl | rfl
  · exact ⟨1, by decide +kernel, rfl⟩
  · exact ⟨2, by decide +kernel, rfl⟩
  · exact ⟨3, by decide +kernel, rfl⟩
  · exact ⟨0, by decide +kernel, rfl⟩
theorem oth_reaches {m : List Nat} (h : Abcz m) : reachesN (m.map othC) = reachesN m := reaches_map fun a ha b hb e => by
  have k1 := h a ha
  have k2 := h b hb
  rcases k1 with rfl | rfl | rfl | rfl <;> rcases k2 with rfl | rfl | rfl | rfl <;> first | rfl | exact absurd e (by decide)
theorem oth_row {m : List Nat} (h : Abcz m) (hl : m.length ≤ 200) : rowL (m.map othC) = true := rowL_iff.mpr ⟨by rw [List.length_map]; exact hl, fun c hc => by
  obtain ⟨a, ha, rfl⟩ := List.mem_map.mp hc
  have := h a ha
  rcases this with rfl | rfl | rfl | rfl <;> decide⟩
theorem e_ab76 : ("ab" : Str) = tx [97, 98] := by decide +kernel
end Mr

namespace Mr
open PySem L2
def top (i : Nat) : Stmt := PySem.Challenge.pw_mirrorruns_k76_whole_rows_and_reaches.main.body.getD i (.Pass ⟨0, 0, 0, 0⟩)
abbrev sWhole : Stmt := top 5
abbrev s_is_same_number : Stmt := top 6
abbrev sIsRow : Stmt := top 10
abbrev sNeedRow : Stmt := top 11
abbrev s_are_form : Stmt := top 14
abbrev s_fits : Stmt := top 15
abbrev s_need_form : Stmt := top 16
abbrev s_signs_many : Stmt := top 17
abbrev s_alike_places : Stmt := top 18
abbrev s_unlike_places : Stmt := top 19
abbrev s_leaders_of : Stmt := top 20
abbrev s_row_for : Stmt := top 21
abbrev s_first_letter : Stmt := top 22
abbrev s_reaches : Stmt := top 24
abbrev s_reach_around : Stmt := top 25
abbrev s_are_reaches : Stmt := top 26
abbrev sBox : Stmt := top 28
abbrev sTake : Stmt := top 29
abbrev sRow : Stmt := top 30
abbrev s_law_holds : Stmt := top 31
abbrev sLaw : Stmt := top 32
end Mr

namespace Mr
open PySem L2
section
variable {P : Program} {w : World} {K : PySem.W.Frag} {mg : Str → Option Value} {base : Heap}
theorem scIsRow : FnScope ["thing"] ["thing"] (defScope sIsRow) := ⟨rfl, rfl, rfl, by decide +kernel, rfl, by decide +kernel, by decide +kernel⟩
theorem ok_isrow (a : At K mg "is_row" sIsRow ["thing"]) (zi : mg "isinstance" = none) (zs : mg "str" = none) (zl : mg "len" = none) (za : mg "all" = none) {tM tL : Tok} (hM : mg "MOST_SIGNS" = some (.int 200 tM)) (hL : mg "LETTERS" = some (.str (tx lets) tL)) :
    Df P w K mg base 1 "is_row" ["thing"] (spIsRow K) := by
  refine a.df fun f fd F => ?_
  refine F.ok scIsRow (fun vs H Q E h => ?_) (fun cdv A outer s H vs Q E hr h => ?_)
  · obtain ⟨_, rfl, _⟩ := h
    rfl
  · obtain ⟨x, rfl, hT, q⟩ := h
    refine ⟨_, pss_cons (ps_if (pw_or (pt_not (pt_val (pe_callB call_isT (by rfl) zi bt_isinstance (pa_cons (pv 0) (pa_cons (pe_bltn (v := .ty "str") (by rfl) zs bt_str rfl) pa_nil)))))
        (pw_or1 (pt_cmpR op_gt (pe_callB call_len_str (by rfl) zl bt_len (pa_cons (pv 0) pa_nil)) (pe_glob (v := .int 200) (by rfl) hM ⟨_, rfl⟩) (nomark _)))).pt (pss_one (ps_ret pe_bl)) pss_nil)
      (pss_one (ps_ret (pe_callB (call_allB rfl) (by rfl) za bt_all (pa_cons (pe_comp (ys := []) (ix := []) ⟨rfl, by decide +kernel, rfl, by decide +kernel, rfl, by decide +kernel, trivial, rfl, trivial⟩ rfl
        (pi_str (pv 0)) (fun C fp s H => pts_nil) (fun C fp s H => pe_cmpR op_inS (pv 0) (pe_glob (X := cmpCx _ _ _ _ C fp s H) (v := .str (tx lets)) (by rfl) hL ⟨_, rfl⟩) (by with_unfolding_all rfl))) pa_nil)))), ?_⟩
    rcases hT with ⟨l, rfl, hl⟩ | ⟨hrow, _, t, ty, hk⟩
    · have hz : l.length ≤ sizeLine := by rw [sizeLine_eq]; omega
      refine ⟨_, rfl, _, "str", _, true, rfl, .str _, by rfl, _, rfl, iteF ?_⟩
      refine ⟨_, rfl, tx l, rfl, by rw [tx_len]; exact hz, _, _, rfl, rfl, _, rfl, ite2 (fun h1 => ?_) (fun h1 => ?_)⟩
      · have h2 : 200 < l.length := by have := of_decide_eq_true h1; rw [tx_len] at this; omega
        have e : rowV (.str (tx l)) = false := by
          show rowL l = false
          unfold rowL
          rw [decide_eq_false (by omega)]; rfl
        have q' := q H (Same.refl _)
        rw [e] at q'
        exact q'
      · have h2 : l.length ≤ 200 := by
          have : ¬ ((200 : Int) < ((tx l).length : Int)) := fun z => h1 (decide_eq_true z)
          rw [tx_len] at this; omega
        refine ⟨_, rfl, l, rfl, comp_str (l := l) hz (fun i ys H' => H' = H ∧ ys = (l.take i).map fun c => V.bl (decide (c ∈ lets))) ⟨rfl, rfl⟩ ?_ ?_⟩
        · rintro i c ys H' N hc hy ⟨rfl, rfl⟩ hN
          refine yes_ok (iteT ⟨_, rfl, c, lets, rfl, rfl, hN _ _ (by simp; omega) ⟨rfl, ?_⟩⟩)
          rw [List.take_succ, hc]
          simp
        · rintro ys H' hy ⟨rfl, rfl⟩ p hp
          refine ⟨p, l.map fun c => decide (c ∈ lets), rfl, SqL.of (by rw [upd_same, List.take_of_length_le (Nat.le_refl _), List.map_map]; rfl), ?_⟩
          have e : rowV (.str (tx l)) = (l.map fun c => decide (c ∈ lets)).all id := by
            show rowL l = _
            unfold rowL
            rw [decide_eq_true h2, Bool.true_and, List.all_map]; rfl
          rw [← e]
          exact q _ (Same.upd hp)
    · refine ⟨_, rfl, _, "str", _, false, rfl, ty, hk, _, rfl, iteT (iteT ?_)⟩
      have q' := q H (Same.refl _)
      rw [hrow] at q'
      exact q'
end
end Mr

namespace Mr
open PySem L2
section
variable {P : Program} {w : World} {K : PySem.W.Frag} {mg : Str → Option Value} {base : Heap}
theorem scNeed : FnScope ["thing"] ["thing"] (defScope sNeedRow) := ⟨rfl, rfl, rfl, by decide +kernel, rfl, by decide +kernel, by decide +kernel⟩
theorem ok_need (a : At K mg "need_row" sNeedRow ["thing"]) (dR : Df P w K mg base 1 "is_row" ["thing"] (spIsRow K)) : Df P w K mg base 2 "need_row" ["thing"] spNeed := by
  refine a.df fun f fd F => ?_
  refine F.ok scNeed (fun vs H Q E h => ?_) (fun cdv A outer s H vs Q E hr h => ?_)
  · obtain ⟨_, rfl, _⟩ := h
    rfl
  · obtain ⟨l, rfl, hrow, q⟩ := h
    refine ⟨_, pss_one (ps_if (pt_not (pt_val (pe_df dR hr rfl (pa_cons (pv 0) pa_nil)))) pss_never pss_nil), ?_⟩
    refine ⟨_, rfl, _, rfl, row_thing hrow, fun H' hs => ⟨_, rfl, ?_⟩⟩
    have e : rowV (.str (tx l)) = true := hrow
    rw [e]
    exact iteF (q H' hs)
end
end Mr

namespace Mr
open PySem L2
section
variable {P : Program} {w : World} {K : PySem.W.Frag} {mg : Str → Option Value} {base : Heap}
theorem scWhole : FnScope ["thing"] ["thing"] (defScope sWhole) := ⟨rfl, rfl, rfl, by decide +kernel, rfl, by decide +kernel, by decide +kernel⟩
theorem ok_whole (a : At K mg "is_whole" sWhole ["thing"]) (zi : mg "isinstance" = none) (zn : mg "int" = none) (zb : mg "bool" = none) : Df P w K mg base 1 "is_whole" ["thing"] spWhole := by
  refine a.df fun f fd F => ?_
  refine F.ok scWhole (fun vs H Q E h => ?_) (fun cdv A outer s H vs Q E hr h => ?_)
  · obtain ⟨_, rfl, _⟩ := h
    rfl
  · obtain ⟨x, rfl, hS, q⟩ := h
    refine ⟨_, (pss_one (ps_ret (pe_and (pe_callB call_isT (by rfl) zi bt_isinstance (pa_cons (pv 0) (pa_cons (pe_bltn (v := .ty "int") (by rfl) zn bt_int rfl) pa_nil))) (pe_one (pe_not (pe_callB call_isT (by rfl) zi bt_isinstance (pa_cons (pv 0) (pa_cons (pe_bltn (v := .ty "bool") (by rfl) zb bt_bool rfl) pa_nil)))))))), ?_⟩
    cases x with
    | non => exact ⟨_, rfl, _, "int", _, false, rfl, .non, rfl, _, rfl, iteF q⟩
    | str z => exact ⟨_, rfl, _, "int", _, false, rfl, .str _, rfl, _, rfl, iteF q⟩
    | int i => exact ⟨_, rfl, _, "int", _, true, rfl, .int _, rfl, _, rfl, iteT ⟨_, rfl, _, "bool", _, false, rfl, .int _, rfl, _, rfl, q⟩⟩
    | bl b => exact ⟨_, rfl, _, "int", _, true, rfl, .bl _, rfl, _, rfl, iteT ⟨_, rfl, _, "bool", _, true, rfl, .bl _, rfl, _, rfl, q⟩⟩
    | _ => exact hS.elim
end
end Mr

namespace Mr
open PySem L2
section
variable {P : Program} {w : World} {K : PySem.W.Frag} {mg : Str → Option Value} {base : Heap}
theorem scRA : FnScope ["row", "middle", "first", "behind"] ["row", "middle"] (defScope s_reach_around) := ⟨rfl, rfl, rfl, by decide +kernel, rfl, by decide +kernel, by decide +kernel⟩
set_option maxHeartbeats 4000000 in
theorem ok_reach_around (a : At K mg "reach_around" s_reach_around ["row", "middle"]) (z_len : mg "len" = none) : Df P w K mg base 1 "reach_around" ["row", "middle"] spReachA := by
  refine a.df fun f fd F => ?_
  refine F.ok scRA (fun vs H Q E h => ?_) (fun cdv A outer s H vs Q E hr h => ?_)
  · obtain ⟨_, _, rfl, _⟩ := h
    rfl
  · obtain ⟨l, m, rfl, hrow, hm, q⟩ := h
    have hlen := (rowL_iff.mp hrow).1
    have hz : l.length ≤ sizeLine := by rw [sizeLine_eq]; omega
    refine ⟨_, (pss_cons (ps_set (i := 2) scRA.nd rfl (Or.inl rfl) (pe_op op_fdiv (pe_op op_add (pv 1) pe_int) pe_int))
      (pss_cons (ps_set (i := 3) scRA.nd rfl (Or.inl rfl) (pe_op op_sub (pe_op op_add (pv 1) pe_int) (pv 2)))
      (pss_cons (ps_while PassesOwn.never (PW.pt (pw_and (pt_cmpR op_gt (pv 2) pe_int (nomark _)) (pw_and (pt_cmpR op_lt (pv 3) (pe_callB call_len_str (by rfl) z_len bt_len (pa_cons (pv 0) pa_nil)) (nomark _)) (pw_and1 (pt_cmpR op_eq (pe_ix ix_strS (pv 0) (pe_op op_sub (pv 2) pe_int) (fun _ _ => rfl)) (pe_ix ix_strS (pv 0) (pv 3) (fun _ _ => rfl)) (nomark _)))))) (pss_cons (ps_set (i := 2) scRA.nd rfl (Or.inl rfl) (pe_op op_sub (pv 2) pe_int))
      (pss_one (ps_set (i := 3) scRA.nd rfl (Or.inl rfl) (pe_op op_add (pv 3) pe_int)))))
      (pss_one (ps_ret (pe_op op_sub (pv 3) (pv 2))))))), ?_⟩
    refine ⟨_, rfl, _, _, rfl, rfl, _, _, rfl, rfl, ⟨by decide, by decide⟩, ?_⟩
    refine ⟨_, rfl, _, _, rfl, rfl, _, rfl, _, _, rfl, rfl, ?_⟩
    have e1 : ((m : Int) + 1) / 2 = (((m + 1) / 2 : Nat) : Int) := by omega
    have e2 : (m : Int) + 1 - (((m + 1) / 2 : Nat) : Int) = ((m + 1 - (m + 1) / 2 : Nat) : Int) := by omega
    refine ⟨fun k σ H' => ∃ f b : Nat, k = f ∧ f ≤ b ∧ b ≤ l.length ∧ grow l f b = reachN l m ∧ σ = [some (.str (tx l)), some (.int (m : Int)), some (.int (f : Int)), some (.int (b : Int))] ∧ H' = H, ⟨(m + 1) / 2, (m + 1) / 2, m + 1 - (m + 1) / 2, rfl, by omega, by omega, rfl, ?_, rfl⟩, ?_⟩
    · show [some (V.str (tx l)), some (V.int (m : Int)), some (V.int (((m : Int) + 1) / 2)), some (V.int ((m : Int) + 1 - ((m : Int) + 1) / 2))] = _
      rw [e1, e2]
    rintro k σ H' ⟨x, y, ek, hfb, hb, hg, rfl, rfl⟩
    have out : (∀ y1 x1 : Nat, x = x1 + 1 → ¬ (y < l.length ∧ l[x1]? = l[y]?)) → Q (.int ((y : Int) - (x : Int))) H' := by
      intro h
      have e : reachN l m = y - x := by
        rw [← hg]
        cases x with
        | zero => rfl
        | succ x1 => unfold grow; rw [if_neg (h 0 x1 rfl)]
      have e3 : (y : Int) - (x : Int) = ((reachN l m : Nat) : Int) := by omega
      rw [e3]; exact q
    refine ⟨_, rfl, _, _, rfl, rfl, _, rfl, ite2 (fun h1 => ?_) (fun h1 => iteF ⟨_, rfl, _, rfl, _, _, rfl, rfl, out ?_⟩)⟩
    · have hf : 0 < x := by have := of_decide_eq_true h1; omega
      refine ⟨_, rfl, _, rfl, tx l, rfl, (by rw [tx_len]; exact hz), _, _, rfl, rfl, _, rfl, ite2 (fun h2 => ?_) (fun h2 => iteF ⟨_, rfl, _, rfl, _, _, rfl, rfl, out ?_⟩)⟩
      · have hb2 : y < l.length := by have := of_decide_eq_true h2; rw [tx_len] at this; omega
        have ef : (x : Int) - 1 = ((x - 1 : Nat) : Int) := by omega
        have g1 : l[x - 1]? = some l[x - 1] := List.getElem?_eq_getElem (by omega)
        have g2 : l[y]? = some l[y] := List.getElem?_eq_getElem (by omega)
        refine ⟨_, rfl, _, rfl, _, _, rfl, rfl, l, _, l[x - 1], rfl, rfl, hz, (by rw [ef, atI_nat]; exact g1), _, rfl, _, rfl, l, _, l[y], rfl, rfl, hz, (by rw [atI_nat]; exact g2), rfl, _, rfl, ?_⟩
        rw [dec_tx]
        refine ite2 (fun h3 => ?_) (fun h3 => ⟨_, rfl, _, rfl, _, _, rfl, rfl, out ?_⟩)
        · have h4 : l[x - 1]? = l[y]? := by rw [g1, g2]; have := of_decide_eq_true h3; injection this with h5; rw [h5]
          refine ⟨fun σ' H3 => σ' = [some (.str (tx l)), some (.int (m : Int)), some (.int ((x - 1 : Nat) : Int)), some (.int ((y + 1 : Nat) : Int))] ∧ H3 = H', fun σ' H3 ⟨e1, e2⟩ => ⟨x - 1, by omega, x - 1, y + 1, rfl, by omega, by omega, ?_, e1, e2⟩, ?_⟩
          · rw [← hg]
            obtain ⟨x1, rfl⟩ : ∃ x1, x = x1 + 1 := ⟨x - 1, by omega⟩
            rw [grow, if_pos ⟨hb2, h4⟩]
            rfl
          · refine ⟨_, rfl, _, _, rfl, rfl, _, rfl, _, _, rfl, rfl, ?_, rfl⟩
            show [some (V.str (tx l)), some (V.int (m : Int)), some (V.int ((x : Int) - 1)), some (V.int ((y : Int) + 1))] = _
            rw [ef]; rfl
        · intro _ x1 e ⟨_, h4⟩
          subst e
          apply h3
          rw [decide_eq_true]
          have x : x1 + 1 - 1 = x1 := rfl
          rw [g2] at h4
          have g1' : l[x1]? = some l[x1] := List.getElem?_eq_getElem (by omega)
          rw [g1'] at h4
          injection h4 with h5
          exact congrArg (fun c => [c]) h5
      · intro _ x1 e ⟨h3, _⟩
        apply h2
        apply decide_eq_true
        rw [tx_len]; omega
    · intro _ x1 e _
      apply h1
      apply decide_eq_true
      omega
end
end Mr

namespace Mr
open PySem L2
section
variable {P : Program} {w : World} {K : PySem.W.Frag} {mg : Str → Option Value} {base : Heap}
theorem scReaches : FnScope ["row"] ["row"] (defScope s_reaches) := ⟨rfl, rfl, rfl, by decide +kernel, rfl, by decide +kernel, by decide +kernel⟩
set_option maxHeartbeats 4000000 in
theorem ok_reaches (a : At K mg "reaches" s_reaches ["row"]) (d_need_row : Df P w K mg base 2 "need_row" ["thing"] spNeed) (d_reach_around : Df P w K mg base 1 "reach_around" ["row", "middle"] spReachA) (z_len : mg "len" = none) (z_range : mg "range" = none) : Df P w K mg base 3 "reaches" ["row"] (spLens reachesN) := by
  refine a.df fun f fd F => ?_
  refine F.ok scReaches (fun vs H Q E h => ?_) (fun cdv A outer s H vs Q E hr h => ?_)
  · obtain ⟨_, rfl, _⟩ := h
    rfl
  · obtain ⟨l, rfl, hrow, q⟩ := h
    have hlen := (rowL_iff.mp hrow).1
    have hz : l.length ≤ sizeLine := by rw [sizeLine_eq]; omega
    refine ⟨_, (pss_cons (ps_expr (pe_df d_need_row hr rfl (pa_cons (pv 0) pa_nil)))
      (pss_one (ps_ret (pe_comp (ys := ["row"]) (ix := [0]) ⟨rfl, by decide +kernel, rfl, by decide +kernel, rfl, by decide +kernel, ⟨rfl, trivial⟩, rfl, ⟨⟨rfl, rfl, rfl, rfl⟩, trivial⟩⟩ rfl (pi_range1 rfl z_range (pa_cons (pe_op op_sub (pe_op op_mul pe_int (pe_callB call_len_str (by rfl) z_len bt_len (pa_cons (pv 0) pa_nil))) pe_int) pa_nil)) (fun C fp s H => pts_nil) (fun C fp s H => (pe_df (X := cmpCx _ _ _ _ C fp s H) d_reach_around hr rfl (pa_cons (pv 1) (pa_cons (pv 0) pa_nil)))))))), ?_⟩
    refine ⟨_, rfl, l, rfl, hrow, fun H1 s1 => ?_⟩
    refine ⟨_, rfl, tx l, rfl, (by rw [tx_len]; exact hz), _, _, rfl, rfl, .inl ⟨by decide, by decide⟩, _, _, rfl, rfl, _, rfl, (by rw [tx_len]; omega), (by rw [tx_len]; omega), ?_⟩
    rw [tx_len]
    have en : (2 * (l.length : Int) - 1).toNat = 2 * l.length - 1 := by omega
    rw [en]
    refine comp_range (n := 2 * l.length - 1) (by rw [sizeLine_eq]; omega) (fun i ys H' => H' = H1 ∧ ys = lensV ((List.range i).map (reachN l))) ⟨rfl, rfl⟩ ?_ ?_
    · rintro i ys H' N hi hy ⟨rfl, rfl⟩ hN
      refine yes_ok (iteT ⟨_, rfl, _, rfl, l, i, ?_, hrow, by omega, hN _ _ (by simp [lensV]) ⟨rfl, ?_⟩⟩)
      · show [V.str (tx l), V.int (0 + (i : Int))] = _
        rw [Int.zero_add]
      · rw [List.range_succ, List.map_append, lensV_app]
        rfl
    · rintro ys H' hy ⟨rfl, rfl⟩ p hp
      exact q p _ (s1.free hp) upd_same (s1.trans (Same.upd hp))
end
end Mr

namespace Mr
open PySem L2
section
variable {P : Program} {w : World} {K : PySem.W.Frag} {mg : Str → Option Value} {base : Heap}
theorem scSN : FnScope ["thing", "number"] ["thing", "number"] (defScope s_is_same_number) := ⟨rfl, rfl, rfl, by decide +kernel, rfl, by decide +kernel, by decide +kernel⟩
theorem ok_same (a : At K mg "is_same_number" s_is_same_number ["thing", "number"]) (d_is_whole : Df P w K mg base 1 "is_whole" ["thing"] spWhole) : Df P w K mg base 2 "is_same_number" ["thing", "number"] spSame := by
  refine a.df fun f fd F => ?_
  refine F.ok scSN (fun vs H Q E h => ?_) (fun cdv A outer s H vs Q E hr h => ?_)
  · obtain ⟨_, _, rfl, _⟩ := h
    rfl
  · obtain ⟨x, n, rfl, hS, q⟩ := h
    refine ⟨_, (pss_one (ps_ret (pe_and (pe_df d_is_whole hr rfl (pa_cons (pv 0) pa_nil)) (pe_one (pe_cmpR op_eq (pv 0) (pv 1) (nomark _)))))), ?_⟩
    refine ⟨_, rfl, x, rfl, hS, _, rfl, ?_⟩
    cases x with
    | int i => exact iteT ⟨_, rfl, _, rfl, rfl, q⟩
    | non => refine iteF ?_; rw [decide_eq_false (by intro z; cases z)] at q; exact q
    | str z => refine iteF ?_; rw [decide_eq_false (by intro z; cases z)] at q; exact q
    | bl b => refine iteF ?_; rw [decide_eq_false (by intro z; cases z)] at q; exact q
    | _ => exact hS.elim
end
end Mr

namespace Mr
open PySem L2
section
variable {P : Program} {w : World} {K : PySem.W.Frag} {mg : Str → Option Value} {base : Heap}
theorem scAR : FnScope ["thing", "row", "told"] ["thing", "row"] (defScope s_are_reaches) := ⟨rfl, rfl, rfl, by decide +kernel, rfl, by decide +kernel, by decide +kernel⟩
set_option maxHeartbeats 4000000 in
theorem ok_are_reaches (a : At K mg "are_reaches" s_are_reaches ["thing", "row"]) (d_reaches : Df P w K mg base 3 "reaches" ["row"] (spLens reachesN)) (d_is_same_number : Df P w K mg base 2 "is_same_number" ["thing", "number"] spSame) (z_all : mg "all" = none) (z_isinstance : mg "isinstance" = none) (z_len : mg "len" = none) (z_list : mg "list" = none) (z_zip : mg "zip" = none) : Df P w K mg base 4 "are_reaches" ["thing", "row"] spAreL := by
  refine a.df fun f fd F => ?_
  refine F.ok scAR (fun vs H Q E h => ?_) (fun cdv A outer s H vs Q E hr h => ?_)
  · obtain ⟨_, _, _, rfl, _⟩ := h
    rfl
  · obtain ⟨p, xs, l, rfl, hrow, hp, hsc, q⟩ := h
    have hlen := (rowL_iff.mp hrow).1
    refine ⟨_, (pss_cons (ps_set (i := 2) scAR.nd rfl (Or.inl rfl) (pe_df d_reaches hr rfl (pa_cons (pv 1) pa_nil)))
      (pss_cons (ps_if (PW.pt (pw_or (pt_not (pt_val (pe_callB call_isT (by rfl) z_isinstance bt_isinstance (pa_cons (pv 0) (pa_cons (pe_bltn (v := .ty "list") (by rfl) z_list bt_list rfl) pa_nil))))) (pw_or1 (pt_cmpR op_ne (pe_callB call_len_seq (by rfl) z_len bt_len (pa_cons (pv 0) pa_nil)) (pe_callB call_len_seq (by rfl) z_len bt_len (pa_cons (pv 2) pa_nil)) (nomark _))))) (pss_one (ps_ret pe_bl)) pss_nil)
      (pss_one (ps_ret (pe_callB (call_allB rfl) (by rfl) z_all bt_all (pa_cons (pe_compL (xs := ["given", "wanted"]) (ys := []) (ix := []) ⟨rfl, by decide +kernel, rfl, by decide +kernel, by decide +kernel, trivial, rfl, trivial⟩ rfl (pi_zip rfl z_zip (pa_cons (pv 0) (pa_cons (pv 2) pa_nil))) (fun C fp s H => pg_tup rfl (pgs_cons (pg_name (i := 0) (show List.Nodup ((["given", "wanted"] : List Str) ++ ([] : List Str)) by decide +kernel) rfl (Or.inl rfl)) (pgs_cons (pg_name (i := 1) (show List.Nodup ((["given", "wanted"] : List Str) ++ ([] : List Str)) by decide +kernel) rfl (Or.inl rfl)) pgs_nil))) gs2 (fun C fp s H => pts_nil) (fun C fp s H => (pe_df (X := cmpCx _ _ _ _ C fp s H) d_is_same_number hr rfl (pa_cons (pv 0) (pa_cons (pv 1) pa_nil))))) pa_nil)))))), ?_⟩
    refine ⟨_, rfl, l, rfl, hrow, fun pt H1 hf1 hp1 s1 => ?_⟩
    have hp' := s1 _ _ hp
    refine ⟨_, rfl, _, "list", _, true, rfl, .lst hp', by rfl, _, rfl, iteF ⟨_, rfl, p, _, rfl, .inl (SqL.of hp'), _, rfl, pt, _, rfl, .inl (SqL.of hp1), rfl, _, rfl, ?_⟩⟩
    have ed : (!decide (V.int ((xs.length : Nat) : Int) = V.int (((lensV (reachesN l)).length : Nat) : Int))) = !decide (xs.length = (lensV (reachesN l)).length) := by
      congr 1
      apply decide_eq_decide.mpr
      constructor
      · intro z; injection z with z; omega
      · intro z; rw [z]
    rw [ed]
    by_cases hl : xs.length = (lensV (reachesN l)).length
    · rw [decide_eq_true hl]
      have hz : xs.length ≤ sizeLine := by rw [hl, lensV_len, reachesN_len, sizeLine_eq]; omega
      refine iteF ⟨_, rfl, _, rfl, p, pt, _, _, rfl, hp', hp1, comp_zip (K := K) (xs := xs) (zs := lensV (reachesN l)) hz (fun i ys H' => Same H1 H' ∧ ys = ((List.range i).map fun j => decide (xs[j]? = (lensV (reachesN l))[j]?)).map V.bl) ⟨Same.refl _, rfl⟩ (fun i ys H' ⟨s, _⟩ => ⟨s _ _ hp', s _ _ hp1⟩) ?_ ?_⟩
      · rintro i x y ys H' N T hx hy hyl ⟨s2, rfl⟩ hT hN
        obtain ⟨k, hk, rfl⟩ := lensV_at hy
        refine yes_ok (iteT ⟨_, rfl, _, rfl, x, (k : Int), rfl, hsc x (List.mem_of_getElem? hx), hN _ _ (by simp) ⟨s2.trans (Same.upd hT), ?_⟩⟩)
        rw [List.range_succ, List.map_append, List.map_append]
        congr 1
        show [V.bl (decide (x = V.int (k : Int)))] = [V.bl (decide (xs[i]? = (lensV (reachesN l))[i]?))]
        rw [hx, hy]
        congr 2
        apply decide_eq_decide.mpr
        exact ⟨fun z => by rw [z], fun z => Option.some.inj z⟩
      · rintro ys H' hyl ⟨s2, rfl⟩ p' hp'
        refine ⟨p', _, rfl, SqL.of upd_same, ?_⟩
        have e : ((List.range (min xs.length (lensV (reachesN l)).length)).map fun j => decide (xs[j]? = (lensV (reachesN l))[j]?)).all id = decide (xs = lensV (reachesN l)) := by
          rw [hl, Nat.min_self, Bool.eq_iff_iff, List.all_eq_true, decide_eq_true_iff]
          constructor
          · intro h
            apply List.ext_getElem?
            intro j
            by_cases hj : j < (lensV (reachesN l)).length
            · exact of_decide_eq_true (h _ (List.mem_map.mpr ⟨j, List.mem_range.mpr hj, rfl⟩))
            · rw [List.getElem?_eq_none (by omega), List.getElem?_eq_none (by omega)]
          · intro h b hb
            obtain ⟨j, _, rfl⟩ := List.mem_map.mp hb
            rw [h]
            exact decide_eq_true rfl
        rw [e]
        exact q _ (s1.trans (s2.trans (Same.upd hp')))
    · rw [decide_eq_false hl]
      have := q H1 s1
      rw [decide_eq_false (fun z => hl (by rw [z]))] at this
      exact iteT this
end
end Mr

namespace Mr
open PySem L2
section
variable {P : Program} {w : World} {K : PySem.W.Frag} {mg : Str → Option Value} {base : Heap}
theorem scTake4 : FnScope ["_law_box_here", "_law_many", "_law_left", "_law_digit"] ["_law_box_here", "_law_many"] (defScope sTake) := ⟨rfl, rfl, rfl, by decide +kernel, rfl, by decide +kernel, by decide +kernel⟩
theorem ok_take4 (a : At K mg "_law_take" sTake ["_law_box_here", "_law_many"]) (zd : mg "divmod" = none) : Df P w K mg base 1 "_law_take" ["_law_box_here", "_law_many"] spTakeI := by
  refine a.df fun f fd F => ?_
  refine F.ok scTake4 (fun vs H Q E h => ?_) (fun cdv A outer s H vs Q E hr h => ?_)
  · obtain ⟨_, _, _, rfl, _⟩ := h
    rfl
  · obtain ⟨b, n, m, rfl, hb, h1, h2, q⟩ := h
    refine ⟨_, pss_cons (ps_asg (pe_callB call_divmod (by rfl) zd bt_divmod (pa_cons (pe_ix ix_list (pv 0) pe_int (fun _ _ => rfl)) (pa_cons (pv 1) pa_nil)))
        (pg_tup rfl (pgs_cons (pg_name (i := 2) scTake4.nd rfl (Or.inl rfl)) (pgs_cons (pg_name (i := 3) scTake4.nd rfl (Or.inl rfl)) pgs_nil))))
      (pss_cons (ps_asg (pv 2) (pg_sub (pv 0) pe_int set_list)) (pss_one (ps_ret (pv 3)))), ?_⟩
    refine ⟨_, rfl, b, _, _, _, rfl, rfl, SqL.of hb, atI_nat (j := 0) rfl, _, rfl, _, _, rfl, ⟨h1, by omega⟩, fun p hp => ?_⟩
    have nb : b ≠ p := ne_of_none hb hp
    refine ⟨p, _, rfl, SqT.of upd_same, rfl, _, _, rfl, _, _, rfl, rfl, ?_⟩
    refine ⟨_, rfl, _, rfl, b, _, _, 0, rfl, rfl, (by rw [upd_ne nb]; exact hb), rfl, ?_⟩
    refine ⟨_, rfl, ?_⟩
    refine q _ (n / m) _ (Int.emod_nonneg _ (by omega)) (Int.emod_lt_of_pos _ h1) upd_same fun c o e hc => ?_
    rw [upd_ne hc, upd_ne (ne_of_none e hp)]
    exact e
end
end Mr

namespace Mr
open PySem L2
section
variable {P : Program} {w : World} {K : PySem.W.Frag} {mg : Str → Option Value} {base : Heap}
theorem scBox4 : FnScope ["_law_script", "_law_k", "_law_here", "_law_number", "_law_j", "_law_part"] ["_law_script", "_law_k"] (defScope sBox) := ⟨rfl, rfl, rfl, by decide +kernel, rfl, by decide +kernel, by decide +kernel⟩
set_option maxHeartbeats 4000000 in
theorem ok_box4 (a : At K mg "_law_box" sBox ["_law_script", "_law_k"]) (z_len : mg "len" = none) (z_range : mg "range" = none) : Df P w K mg base 2 "_law_box" ["_law_script", "_law_k"] (spBoxI K) := by
  refine a.df fun f fd F => ?_
  refine F.ok scBox4 (fun vs H Q E h => ?_) (fun cdv A outer s H vs Q E hr h => ?_)
  · obtain ⟨_, _, _, rfl, _⟩ := h
    rfl
  · obtain ⟨a, ns, k, rfl, hS, h0, q⟩ := h
    refine ⟨_, (pss_cons (ps_set (i := 2) scBox4.nd rfl (Or.inl rfl) (pe_op op_add (pe_op op_mul pe_int (pv 1)) pe_int))
      (pss_cons (ps_if (pt_cmpR op_lt (pv 1) (pe_callB call_len_seq (by rfl) z_len bt_len (pa_cons (pv 0) pa_nil)) (nomark _)) (pss_one (ps_set (i := 2) scBox4.nd rfl (Or.inl rfl) (pe_ix ix_list (pv 0) (pv 1) (fun _ _ => rfl)))) pss_nil)
      (pss_cons (ps_if (pt_cmpR op_eq (pe_op op_mod (pv 2) pe_int) pe_int (nomark _)) (pss_one (ps_ret (pe_lst (pa_cons (pe_op op_fdiv (pv 2) pe_int) pa_nil)))) pss_nil)
      (pss_cons (ps_set (i := 3) scBox4.nd rfl (Or.inl rfl) pe_int)
      (pss_cons (ps_for PassesOwn.never rfl (pi_range1 rfl z_range (pa_cons pe_int pa_nil)) (pg_name (i := 4) scBox4.nd rfl (Or.inl rfl)) (pss_cons (ps_set (i := 5) scBox4.nd rfl (Or.inl rfl) (pe_op op_mod (pe_op op_add (pe_op op_add (pe_op op_mul (pe_op op_mod (pv 2) pe_int) pe_int) (pe_op op_mul pe_int (pv 4))) pe_int) pe_int))
      (pss_cons (ps_set (i := 5) scBox4.nd rfl (Or.inl rfl) (pe_op op_mod (pe_op op_mul (pv 5) (pv 5)) pe_int))
      (pss_one (ps_set (i := 3) scBox4.nd rfl (Or.inl rfl) (pe_op op_add (pe_op op_mul (pv 3) pe_int) (pe_op op_mod (pe_op op_mul (pv 5) (pe_op op_add (pv 5) pe_int)) pe_int)))))))
      (pss_one (ps_ret (pe_lst (pa_cons (pv 3) pa_nil))))))))), ?_⟩
    refine ⟨_, rfl, _, _, rfl, rfl, .inl ⟨by decide, by decide⟩, _, _, rfl, rfl, ?_⟩
    refine ⟨_, rfl, _, rfl, a, _, rfl, .inl hS, _, _, rfl, rfl, _, rfl, ?_⟩
    refine ite2 (fun h1 => ?_) (fun _ => ?_)
    · obtain ⟨z, hz⟩ := int_at (ns := ns) (k := k) h0 (by have := of_decide_eq_true h1; exact this)
      refine ⟨_, rfl, _, rfl, a, _, _, _, rfl, rfl, hS, hz, ?_⟩
      refine ⟨_, rfl, _, _, rfl, rfl, (by show (0 : Int) < 2; decide), rfl, _, rfl, ?_⟩
      refine ite2 (fun _ => ?_) (fun _ => ?_)
      · refine ⟨_, rfl, _, _, rfl, rfl, ⟨by decide, by decide⟩, by show 1 ≤ sizeLine; decide, fun p hp => ?_⟩
        exact q p _ _ hp upd_same (Same.upd hp)
      · refine ⟨16, rfl, by decide, by decide, for_range (n := 16) (fun i σ H' => ∃ (n : Int) (w4 w5 : Option V), σ = [some (.ref a), some (.int k), some (.int z), some (.int n), w4, w5] ∧ H' = H) ⟨0, none, none, rfl, rfl⟩ ?_ ?_⟩
        · rintro i σ H' hi ⟨n, w4, w5, rfl, rfl⟩
          have hc0 := Int.emod_nonneg z (show (2147483647 : Int) ≠ 0 by decide)
          have hc1 := Int.emod_lt_of_pos z (show (0 : Int) < 2147483647 by decide)
          refine ⟨_, rfl, _, _, rfl, rfl, (by show (0 : Int) < 2147483647; decide), _, _, rfl, rfl, .inl ⟨by omega, by omega⟩, _, rfl, _, _, rfl, rfl, .inl ⟨by decide, by decide⟩, _, _, rfl, rfl, _, _, rfl, rfl, _, _, rfl, rfl, (by show (0 : Int) < 2147483647; decide), ?_⟩
          generalize (z % 2147483647 * 48271 + 7919 * (0 + (i : Int)) + 1) = z
          have z0 := Int.emod_nonneg z (show (2147483647 : Int) ≠ 0 by decide)
          have z1 := Int.emod_lt_of_pos z (show (0 : Int) < 2147483647 by decide)
          generalize z % 2147483647 = y at z0 z1
          refine ⟨_, rfl, _, rfl, _, _, rfl, rfl, .inl ⟨by omega, by omega⟩, _, _, rfl, rfl, (by show (0 : Int) < 2147483629; decide), ?_⟩
          have y0 := Int.emod_nonneg (y * y) (show (2147483629 : Int) ≠ 0 by decide)
          have y1 := Int.emod_lt_of_pos (y * y) (show (0 : Int) < 2147483629 by decide)
          generalize y * y % 2147483629 = v at y0 y1
          refine ⟨_, rfl, _, _, rfl, rfl, .inr ⟨by decide, by decide⟩, _, rfl, _, rfl, _, _, rfl, rfl, _, _, rfl, rfl, .inl ⟨by omega, by omega⟩, _, _, rfl, rfl, (by show (0 : Int) < 2147483647; decide), _, _, rfl, rfl, ?_⟩
          exact ⟨_, _, _, rfl, rfl⟩
        · rintro σ H' ⟨n, w4, w5, rfl, rfl⟩
          exact ⟨_, rfl, by show 1 ≤ sizeLine; decide, fun p hp => q p n _ hp upd_same (Same.upd hp)⟩
    · refine ⟨_, rfl, _, _, rfl, rfl, (by show (0 : Int) < 2; decide), rfl, _, rfl, ?_⟩
      refine ite2 (fun _ => ?_) (fun _ => ?_)
      · refine ⟨_, rfl, _, _, rfl, rfl, ⟨by decide, by decide⟩, by show 1 ≤ sizeLine; decide, fun p hp => ?_⟩
        exact q p _ _ hp upd_same (Same.upd hp)
      · refine ⟨16, rfl, by decide, by decide, for_range (n := 16) (fun i σ H' => ∃ (n : Int) (w4 w5 : Option V), σ = [some (.ref a), some (.int k), some (.int (7919 * k + 13)), some (.int n), w4, w5] ∧ H' = H) ⟨0, none, none, rfl, rfl⟩ ?_ ?_⟩
        · rintro i σ H' hi ⟨n, w4, w5, rfl, rfl⟩
          have hc0 := Int.emod_nonneg (7919 * k + 13) (show (2147483647 : Int) ≠ 0 by decide)
          have hc1 := Int.emod_lt_of_pos (7919 * k + 13) (show (0 : Int) < 2147483647 by decide)
          refine ⟨_, rfl, _, _, rfl, rfl, (by show (0 : Int) < 2147483647; decide), _, _, rfl, rfl, .inl ⟨by omega, by omega⟩, _, rfl, _, _, rfl, rfl, .inl ⟨by decide, by decide⟩, _, _, rfl, rfl, _, _, rfl, rfl, _, _, rfl, rfl, (by show (0 : Int) < 2147483647; decide), ?_⟩
          generalize ((7919 * k + 13) % 2147483647 * 48271 + 7919 * (0 + (i : Int)) + 1) = z
          have z0 := Int.emod_nonneg z (show (2147483647 : Int) ≠ 0 by decide)
          have z1 := Int.emod_lt_of_pos z (show (0 : Int) < 2147483647 by decide)
          generalize z % 2147483647 = y at z0 z1
          refine ⟨_, rfl, _, rfl, _, _, rfl, rfl, .inl ⟨by omega, by omega⟩, _, _, rfl, rfl, (by show (0 : Int) < 2147483629; decide), ?_⟩
          have y0 := Int.emod_nonneg (y * y) (show (2147483629 : Int) ≠ 0 by decide)
          have y1 := Int.emod_lt_of_pos (y * y) (show (0 : Int) < 2147483629 by decide)
          generalize y * y % 2147483629 = v at y0 y1
          refine ⟨_, rfl, _, _, rfl, rfl, .inr ⟨by decide, by decide⟩, _, rfl, _, rfl, _, _, rfl, rfl, _, _, rfl, rfl, .inl ⟨by omega, by omega⟩, _, _, rfl, rfl, (by show (0 : Int) < 2147483647; decide), _, _, rfl, rfl, ?_⟩
          exact ⟨_, _, _, rfl, rfl⟩
        · rintro σ H' ⟨n, w4, w5, rfl, rfl⟩
          exact ⟨_, rfl, by show 1 ≤ sizeLine; decide, fun p hp => q p n _ hp upd_same (Same.upd hp)⟩
end
end Mr

namespace Mr
open PySem L2
section
variable {P : Program} {w : World} {K : PySem.W.Frag} {mg : Str → Option Value} {base : Heap}
theorem scRow4 : FnScope ["_law_box_here", "_law_most", "_law_letters", "_law_row_here", "_law_k", "_law_mode"] ["_law_box_here", "_law_most"] (defScope sRow) := ⟨rfl, rfl, rfl, by decide +kernel, rfl, by decide +kernel, by decide +kernel⟩
set_option maxHeartbeats 8000000 in
theorem ok_row4 (a : At K mg "_law_row" sRow ["_law_box_here", "_law_most"]) (d_law_take : Df P w K mg base 1 "_law_take" ["_law_box_here", "_law_many"] spTakeI) (z_len : mg "len" = none) (z_range : mg "range" = none) : Df P w K mg base 3 "_law_row" ["_law_box_here", "_law_most"] spRowI := by
  refine a.df fun f fd F => ?_
  refine F.ok scRow4 (fun vs H Q E h => ?_) (fun cdv A outer s H vs Q E hr h => ?_)
  · obtain ⟨_, _, _, rfl, _⟩ := h
    rfl
  · obtain ⟨b, n, most, rfl, hb, hm0, hm1, q⟩ := h
    refine ⟨_, (@pss_cons _ _ _ _ _ (@ps_set _ _ 2 _ _ _ _ scRow4.nd rfl (Or.inl rfl) (pe_slice sl_strS pe_str po_none (po_some (@pe_op _ _ _ _ _ _ _ _ op_add pe_int (pe_df d_law_take hr rfl (pa_cons (pv 0) (pa_cons pe_int pa_nil)))))) rfl (Or.inl rfl))
      (@pss_cons _ _ _ _ _ (@ps_set _ _ 3 _ _ _ _ scRow4.nd rfl (Or.inl rfl) pe_str rfl (Or.inl rfl))
      (@pss_cons _ _ _ _ _ (ps_for PassesOwn.never rfl (pi_range1 rfl z_range (pa_cons (pe_df d_law_take hr rfl (pa_cons (pv 0) (pa_cons (@pe_op _ _ _ _ _ _ _ _ op_add (pv 1) pe_int) pa_nil))) pa_nil)) (pg_name (i := 4) scRow4.nd rfl (Or.inl rfl)) (@pss_one _ _ _ (@ps_set _ _ 3 _ _ _ _ scRow4.nd rfl (Or.inl rfl) (@pe_op _ _ _ _ _ _ _ _ op_addS (pv 3) (@pe_ix _ _ _ _ _ _ _ ix_strS (pv 2) (pe_df d_law_take hr rfl (pa_cons (pv 0) (pa_cons (pe_callB call_len_str (by rfl) z_len bt_len (pa_cons (pv 2) pa_nil)) pa_nil))) (fun _ _ => rfl))) rfl (Or.inl rfl))))
      (@pss_cons _ _ _ _ _ (@ps_set _ _ 5 _ _ _ _ scRow4.nd rfl (Or.inl rfl) (pe_df d_law_take hr rfl (pa_cons (pv 0) (pa_cons pe_int pa_nil))) rfl (Or.inl rfl))
      (@pss_cons _ _ _ _ _ (@ps_if _ _ _ _ _ _ _ _ (pt_cmpR op_eq (pv 5) pe_int (nomark _)) (@pss_one _ _ _ (@ps_set _ _ 3 _ _ _ _ scRow4.nd rfl (Or.inl rfl) (pe_slice sl_strS (@pe_op _ _ _ _ _ _ _ _ op_addS (pv 3) (pe_rev (pv 3) (pe_un un_neg pe_int))) po_none (po_some (pv 1))) rfl (Or.inl rfl))) pss_nil)
      (@pss_cons _ _ _ _ _ (@ps_if _ _ _ _ _ _ _ _ (pt_cmpR op_eq (pv 5) pe_int (nomark _)) (@pss_one _ _ _ (@ps_set _ _ 3 _ _ _ _ scRow4.nd rfl (Or.inl rfl) (pe_slice sl_strS (@pe_op _ _ _ _ _ _ _ _ op_addS (pv 3) (pe_slice sl_strS (pe_rev (pv 3) (pe_un un_neg pe_int)) (po_some pe_int) po_none)) po_none (po_some (pv 1))) rfl (Or.inl rfl))) pss_nil)
      (@pss_one _ _ _ (@ps_ret _ _ _ _ (pv 3))))))))), ?_⟩
    refine ⟨_, rfl, b, n, 4, rfl, hb, by decide, by decide, fun d1 n1 H1 hd1 hd1' hb1 k1 => ⟨_, _, rfl, rfl, _, rfl, [97, 98, 99, 122], congrArg V.str e_abcz, by decide, ?_⟩⟩
    obtain ⟨d, rfl⟩ := Int.eq_ofNat_of_zero_le hd1
    have ed : (1 : Int) + (d : Int) = ((1 + d : Nat) : Int) := by omega
    rw [ed, cut_to]
    have hA : Abcz (([97, 98, 99, 122] : List Nat).take (1 + d)) := fun c h => by
      have := List.mem_of_mem_take h
      simpa using this
    have hl0 : 0 < (([97, 98, 99, 122] : List Nat).take (1 + d)).length := by rw [List.length_take]; show 0 < min _ 4; omega
    have hl1 : (([97, 98, 99, 122] : List Nat).take (1 + d)).length ≤ 4 := by rw [List.length_take]; show min _ 4 ≤ 4; omega
    generalize ([97, 98, 99, 122] : List Nat).take (1 + d) = lt at hA hl0 hl1
    refine ⟨_, rfl, _, rfl, _, _, rfl, rfl, b, n1, most + 1, rfl, hb1, by omega, by omega, fun d2 n2 H2 hd2 hd2' hb2 k2 => ?_⟩
    obtain ⟨many, rfl⟩ := Int.eq_ofNat_of_zero_le hd2
    refine ⟨_, rfl, by omega, by omega, ?_⟩
    have e0 : ((many : Int)).toNat = many := by omega
    rw [e0]
    refine for_range (fun i σ H' => ∃ (cs : List Nat) (n' : Int) (w4 : Option V), σ = [some (.ref b), some (.int most), some (.str (tx lt)), some (.str (tx cs)), w4, none] ∧ Abcz cs ∧ cs.length = i ∧ H' b = some (.lst [.int n']) ∧ But b H H') ⟨[], n2, none, (by rw [← e_nil]; rfl), Abcz.nil, rfl, hb2, k1.trans k2⟩ ?_ ?_
    · rintro i σ H3 hi ⟨cs, n3, w4, rfl, hc, hcl, hb3, k3⟩
      refine ⟨_, rfl, _, rfl, _, rfl, _, rfl, tx lt, rfl, (by rw [tx_len, sizeLine_eq]; omega), b, n3, _, rfl, hb3, (by rw [tx_len]; omega), (by rw [tx_len]; omega), fun d3 n4 H4 hd3 hd3' hb4 k4 => ?_⟩
      rw [tx_len] at hd3'
      obtain ⟨c, hc1, hc2⟩ := at_ofInt (xs := lt) hd3 hd3'
      refine ⟨lt, _, c, rfl, rfl, (by rw [sizeLine_eq]; omega), hc1, cs, [c], rfl, rfl, (by rw [sizeLine_eq]; show _ + 1 ≤ _; omega), ?_⟩
      refine ⟨cs ++ [c], n4, _, rfl, hc.app fun z hz => ?_, by simp; omega, hb4, k3.trans k4⟩
      have e : z = c := by simpa using hz
      subst e
      exact hA z hc2
    · rintro σ H3 ⟨cs, n3, w4, rfl, hc, hcl, hb3, k3⟩
      refine ⟨_, rfl, b, n3, 4, rfl, hb3, by decide, by decide, fun d4 n4 H4 _ _ hb4 k4 => ?_⟩
      have k4' := k3.trans k4
      have hcm : (cs.length : Int) ≤ most := by omega
      refine ⟨_, rfl, rfl, _, rfl, ite2 (fun _ => ?_) (fun _ => ?_)⟩
      · refine ⟨_, rfl, _, rfl, _, rfl, cs, rfl, rfl, (by rw [sizeLine_eq]; omega), cs, _, rfl, rfl, (by rw [List.length_reverse, sizeLine_eq]; omega), _, rfl, _, rfl, _, rfl, (by rw [List.length_append, List.length_reverse, sizeLine_eq]; omega), ?_⟩
        have hA2 : Abcz (cutL (cs ++ cs.reverse) none (some most)) := (hc.app hc.rev).cut _ _
        have hl2 : ((cutL (cs ++ cs.reverse) none (some most)).length : Int) ≤ most := by
          obtain ⟨mo, rfl⟩ := Int.eq_ofNat_of_zero_le hm0
          rw [cut_to, List.length_take]; omega
        generalize cutL (cs ++ cs.reverse) none (some most) = ms at hA2 hl2
        refine ⟨_, rfl, rfl, _, rfl, ite2 (fun _ => ?_) (fun _ => ?_)⟩
        · refine ⟨_, rfl, _, rfl, _, rfl, ms, rfl, rfl, (by rw [sizeLine_eq]; omega), _, rfl, ms.reverse, rfl, (by rw [List.length_reverse, sizeLine_eq]; omega), ms, _, rfl, rfl, ?_, _, rfl, _, rfl, _, rfl, ?_, ?_⟩
          · have := cut_le ms.reverse (some 1) none
            rw [List.length_reverse] at this
            rw [sizeLine_eq]; omega
          · have := cut_le ms.reverse (some 1) none
            rw [List.length_reverse] at this
            rw [List.length_append, sizeLine_eq]; omega
          · obtain ⟨mo, rfl⟩ := Int.eq_ofNat_of_zero_le hm0
            refine ⟨_, rfl, ?_⟩
            rw [cut_to]
            refine q _ n4 H4 ((hA2.app (hA2.rev.cut _ _)).take _) ?_ hb4 k4'
            rw [List.length_take]; omega
        · exact ⟨_, rfl, q _ n4 H4 hA2 hl2 hb4 k4'⟩
      · refine ⟨_, rfl, rfl, _, rfl, ite2 (fun _ => ?_) (fun _ => ?_)⟩
        · refine ⟨_, rfl, _, rfl, _, rfl, cs, rfl, rfl, (by rw [sizeLine_eq]; omega), _, rfl, cs.reverse, rfl, (by rw [List.length_reverse, sizeLine_eq]; omega), cs, _, rfl, rfl, ?_, _, rfl, _, rfl, _, rfl, ?_, ?_⟩
          · have := cut_le cs.reverse (some 1) none
            rw [List.length_reverse] at this
            rw [sizeLine_eq]; omega
          · have := cut_le cs.reverse (some 1) none
            rw [List.length_reverse] at this
            rw [List.length_append, sizeLine_eq]; omega
          · obtain ⟨mo, rfl⟩ := Int.eq_ofNat_of_zero_le hm0
            refine ⟨_, rfl, ?_⟩
            rw [cut_to]
            refine q _ n4 H4 ((hc.app (hc.rev.cut _ _)).take _) ?_ hb4 k4'
            rw [List.length_take]; omega
        · exact ⟨_, rfl, q _ n4 H4 hc hcm hb4 k4'⟩
end
end Mr

namespace Mr
open PySem L2
section
variable {P : Program} {w : World} {K : PySem.W.Frag} {mg : Str → Option Value} {base : Heap}
theorem scok_wholeg : FnScope ["thing"] ["thing"] (defScope sWhole) := ⟨rfl, rfl, rfl, by decide +kernel, rfl, by decide +kernel, by decide +kernel⟩
theorem ok_wholeg (a : At K mg "is_whole" sWhole ["thing"]) (z_isinstance : mg "isinstance" = none) (z_int : mg "int" = none) (z_bool : mg "bool" = none) : Df P w K mg base 1 "is_whole" ["thing"] (spWholeG K) := by
  refine a.df fun f fd F => ?_
  refine F.ok scok_wholeg (fun vs H Q E h => ?_) (fun cdv A outer s H vs Q E hr h => ?_)
  · obtain ⟨_, rfl, _⟩ := h
    rfl
  · obtain ⟨x, rfl, hS, q⟩ := h
    refine ⟨_, (pss_one (ps_ret (pe_and (pe_callB call_isT (by rfl) z_isinstance bt_isinstance (pa_cons (pv 0) (pa_cons (pe_bltn (v := .ty "int") (by rfl) z_int bt_int rfl) pa_nil))) (pe_one (pe_not (pe_callB call_isT (by rfl) z_isinstance bt_isinstance (pa_cons (pv 0) (pa_cons (pe_bltn (v := .ty "bool") (by rfl) z_bool bt_bool rfl) pa_nil)))))))), ?_⟩
    rcases hS with hS | ⟨hw, t, ty, hk⟩
    · cases x with
      | non => exact ⟨_, rfl, _, "int", _, false, rfl, .non, rfl, _, rfl, iteF q⟩
      | str z => exact ⟨_, rfl, _, "int", _, false, rfl, .str _, rfl, _, rfl, iteF q⟩
      | int i => exact ⟨_, rfl, _, "int", _, true, rfl, .int _, rfl, _, rfl, iteT ⟨_, rfl, _, "bool", _, false, rfl, .int _, rfl, _, rfl, q⟩⟩
      | bl b => exact ⟨_, rfl, _, "int", _, true, rfl, .bl _, rfl, _, rfl, iteT ⟨_, rfl, _, "bool", _, true, rfl, .bl _, rfl, _, rfl, q⟩⟩
      | _ => exact hS.elim
    · rw [hw] at q
      exact ⟨_, rfl, _, "int", _, false, rfl, ty, hk, _, rfl, iteF q⟩
end
end Mr

namespace Mr
open PySem L2
section
variable {P : Program} {w : World} {K : PySem.W.Frag} {mg : Str → Option Value} {base : Heap}
theorem scFi : FnScope ["length", "middle", "middles"] ["length", "middle", "middles"] (defScope s_fits) := ⟨rfl, rfl, rfl, by decide +kernel, rfl, by decide +kernel, by decide +kernel⟩
set_option maxHeartbeats 4000000 in
theorem ok_fits (a : At K mg "fits" s_fits ["length", "middle", "middles"]) (d_is_whole : Df P w K mg base 1 "is_whole" ["thing"] (spWholeG K)) (z_min : mg "min" = none) : Df P w K mg base 2 "fits" ["length", "middle", "middles"] (spFits K) := by
  refine a.df fun f fd F => ?_
  refine F.ok scFi (fun vs H Q E h => ?_) (fun cdv A outer s H vs Q E hr h => ?_)
  · obtain ⟨_, _, _, rfl, _⟩ := h
    rfl
  · obtain ⟨x, m, n, rfl, hS, q⟩ := h
    refine ⟨_, (pss_cons (ps_if (PW.pt (pw_or (pt_not (pt_val (pe_df d_is_whole hr rfl (pa_cons (pv 0) pa_nil)))) (pw_or1 (pt_cmpR op_eq (pe_op op_mod (pv 0) pe_int) (pe_op op_mod (pv 1) pe_int) (nomark _))))) (pss_one (ps_ret pe_bl)) pss_nil)
      (pss_one (ps_ret (pe_chain op_le op_le pe_int (pv 0) (pe_callB (call_min2 rfl) (by rfl) z_min bt_min (pa_cons (pe_op op_add (pv 1) pe_int) (pa_cons (pe_op op_sub (pv 2) (pv 1)) pa_nil))))))), ?_⟩
    refine ⟨_, rfl, x, rfl, hS, _, rfl, ?_⟩
    cases x with
    | int i =>
      refine iteF ⟨_, rfl, _, _, rfl, rfl, (by show (0 : Int) < 2; decide), _, rfl, _, _, rfl, rfl, (by show (0 : Int) < 2; decide), rfl, _, rfl, ?_⟩
      by_cases h1 : i % 2 = m % 2
      · rw [decide_eq_true (show V.int (i % 2) = V.int (m % 2) by rw [h1])]
        refine iteT ?_
        have : fitsV (.int i) m n = false := by unfold fitsV; simp [h1]
        rw [this] at q
        exact q
      · rw [decide_eq_false (show ¬ V.int (i % 2) = V.int (m % 2) from fun z => h1 (V.int.inj z))]
        refine iteF ⟨_, rfl, _, _, rfl, rfl, ?_⟩
        refine ⟨_, rfl, ?_⟩
        by_cases h0 : 0 ≤ i
        · rw [decide_eq_true h0]
          refine iteT ⟨_, rfl, _, _, rfl, rfl, _, rfl, _, rfl, _, _, rfl, rfl, _, _, rfl, _, _, rfl, rfl, ?_⟩
          have : fitsV (.int i) m n = decide (i ≤ if n - m < m + 1 then n - m else m + 1) := by
            show (decide (i % 2 ≠ m % 2) && (decide (0 ≤ i) && (decide (i ≤ m + 1) && decide (i ≤ n - m)))) = _
            rw [decide_eq_true (show i % 2 ≠ m % 2 from h1), decide_eq_true h0, Bool.true_and, Bool.true_and]
            split
            · by_cases h2 : i ≤ n - m
              · rw [decide_eq_true h2, decide_eq_true (show i ≤ m + 1 by omega), Bool.and_true]
              · rw [decide_eq_false h2, Bool.and_false]
            · by_cases h2 : i ≤ m + 1
              · rw [decide_eq_true h2, decide_eq_true (show i ≤ n - m by omega), Bool.and_true]
              · rw [decide_eq_false h2, Bool.false_and]
          rw [this] at q
          exact q
        · rw [decide_eq_false h0]
          refine iteF ?_
          have : fitsV (.int i) m n = false := by show (decide (i % 2 ≠ m % 2) && (decide (0 ≤ i) && (decide (i ≤ m + 1) && decide (i ≤ n - m)))) = _; rw [decide_eq_false h0, Bool.false_and, Bool.and_false]
          rw [this] at q
          exact q
    | _ =>
      refine iteT (iteT ?_)
      exact q
end
end Mr

namespace Mr
open PySem L2
section
variable {P : Program} {w : World} {K : PySem.W.Frag} {mg : Str → Option Value} {base : Heap}
theorem scAF : FnScope ["thing"] ["thing"] (defScope s_are_form) := ⟨rfl, rfl, rfl, by decide +kernel, rfl, by decide +kernel, by decide +kernel⟩
set_option maxHeartbeats 4000000 in
theorem ok_are_form (a : At K mg "are_form" s_are_form ["thing"]) (d_fits : Df P w K mg base 2 "fits" ["length", "middle", "middles"] (spFits K)) (z_all : mg "all" = none) (z_enumerate : mg "enumerate" = none) (z_isinstance : mg "isinstance" = none) (z_len : mg "len" = none) (z_list : mg "list" = none) {tMI : Tok} (hMI : mg "MOST_MIDDLES" = some (.int 119 tMI)) : Df P w K mg base 3 "are_form" ["thing"] (spOfList K formV) := by
  refine a.df fun f fd F => ?_
  refine F.ok scAF (fun vs H Q E h => ?_) (fun cdv A outer s H vs Q E hr h => ?_)
  · obtain ⟨_, rfl, _⟩ := h
    rfl
  · obtain ⟨x, rfl, hx⟩ := h
    refine ⟨_, (pss_cons (ps_if (PW.pt (pw_or (pt_not (pt_val (pe_callB call_isT (by rfl) z_isinstance bt_isinstance (pa_cons (pv 0) (pa_cons (pe_bltn (v := .ty "list") (by rfl) z_list bt_list rfl) pa_nil))))) (pw_or1 (pt_cmpR op_gt (pe_callB call_len_seq (by rfl) z_len bt_len (pa_cons (pv 0) pa_nil)) (pe_glob (v := .int 119) (by rfl) hMI ⟨_, rfl⟩) (nomark _))))) (pss_one (ps_ret pe_bl)) pss_nil)
      (pss_cons (ps_if (pt_cmpR op_eq (pe_op op_mod (pe_callB call_len_seq (by rfl) z_len bt_len (pa_cons (pv 0) pa_nil)) pe_int) pe_int (nomark _)) (pss_one (ps_ret (pe_cmpR op_eq (pe_callB call_len_seq (by rfl) z_len bt_len (pa_cons (pv 0) pa_nil)) pe_int (nomark _)))) pss_nil)
      (pss_one (ps_ret (pe_callB (call_allB rfl) (by rfl) z_all bt_all (pa_cons (pe_compL (xs := ["middle", "length"]) (ys := ["thing"]) (ix := [0]) ⟨rfl, by decide +kernel, rfl, by decide +kernel, by decide +kernel, ⟨rfl, trivial⟩, rfl, ⟨⟨rfl, rfl, rfl, rfl⟩, trivial⟩⟩ rfl (pi_enum rfl z_enumerate (pa_cons (pv 0) pa_nil)) (fun C fp s H => pg_tup rfl (pgs_cons (pg_name (i := 0) (show List.Nodup ((["middle", "length"] : List Str) ++ (["thing"] : List Str)) by decide +kernel) rfl (Or.inl rfl)) (pgs_cons (pg_name (i := 1) (show List.Nodup ((["middle", "length"] : List Str) ++ (["thing"] : List Str)) by decide +kernel) rfl (Or.inl rfl)) pgs_nil))) gs2 (fun C fp s H => pts_nil) (fun C fp s H => (pe_df (X := cmpCx _ _ _ _ C fp s H) d_fits hr rfl (pa_cons (pv 1) (pa_cons (pv 0) (pa_cons (pe_callB (call_len_seqK (K := K) rfl) (by rfl) z_len bt_len (pa_cons (pv 2) pa_nil)) pa_nil)))))) pa_nil)))))), ?_⟩
    rcases hx with ⟨p, xs, rfl, hp, hl, hS, q⟩ | ⟨⟨t, ty, hk⟩, q⟩
    rotate_left
    · exact ⟨_, rfl, _, "list", _, false, rfl, ty, hk, _, rfl, iteT (iteT (q H (Same.refl _)))⟩
    refine ⟨_, rfl, _, "list", _, true, rfl, .lst hp, rfl, _, rfl, iteF ⟨_, rfl, p, _, rfl, .inl (SqL.of hp), _, _, rfl, rfl, _, rfl, ?_⟩⟩
    by_cases h1 : xs.length ≤ 119
    rotate_left
    · rw [decide_eq_true (show (119 : Int) < ((xs.length : Nat) : Int) by omega)]
      refine iteT ?_
      have : formV xs = false := by unfold formV; rw [decide_eq_false h1, Bool.false_and]
      rw [this] at q
      exact q H (Same.refl _)
    rw [decide_eq_false (show ¬ (119 : Int) < ((xs.length : Nat) : Int) by omega)]
    refine iteF ⟨_, rfl, p, _, rfl, .inl (SqL.of hp), _, _, rfl, rfl, (by show (0 : Int) < 2; decide), rfl, _, rfl, ?_⟩
    by_cases h2 : xs.length % 2 = 0
    · rw [decide_eq_true (show V.int (((xs.length : Nat) : Int) % 2) = V.int 0 by rw [show ((xs.length : Nat) : Int) % 2 = 0 by omega])]
      refine iteT ⟨_, rfl, p, _, rfl, .inl (SqL.of hp), rfl, ?_⟩
      have : formV xs = decide (V.int ((xs.length : Nat) : Int) = V.int 0) := by
        unfold formV
        rw [decide_eq_true h1, Bool.true_and, if_pos h2]
        exact decide_eq_decide.mpr ⟨fun z => by rw [z]; rfl, fun z => by have := V.int.inj z; omega⟩
      rw [this] at q
      exact q H (Same.refl _)
    rw [decide_eq_false (show ¬ V.int (((xs.length : Nat) : Int) % 2) = V.int 0 from fun z => by have := V.int.inj z; omega)]
    refine iteF ⟨_, rfl, p, _, rfl, hp, ?_⟩
    refine comp_enum (K := K) (a := p) (xs := xs) (by rw [sizeLine_eq]; omega) (fun j ys H' => ys = (List.range j).map (fun i => V.bl (fitsV (xs.getD i .non) i xs.length)) ∧ Same H H') ⟨rfl, Same.refl _⟩ (fun j ys H' ⟨_, s⟩ => s _ _ hp) ?_ ?_
    · rintro j x ys H2 N U hx hy ⟨rfl, s2⟩ hU hN
      have hxj : xs.getD j .non = x := by rw [List.getD_eq_getElem?_getD, hx]; rfl
      have s3 : Same H (upd H2 U (.tup [.int (j : Int), x])) := s2.trans (Same.upd hU)
      refine yes_ok (iteT ⟨_, rfl, _, rfl, _, rfl, p, _, rfl, .inl (SqL.of (s3 _ _ hp)), x, (j : Int), ((xs.length : Nat) : Int), rfl, (hS x (List.mem_of_getElem? hx)).imp id (NoInt.same s3), hN _ _ (by simp) ⟨?_, s3⟩⟩)
      rw [List.range_succ, List.map_append, ← hxj]
      rfl
    · rintro ys H2 hy ⟨rfl, s2⟩ pa hpa
      refine ⟨pa, (List.range xs.length).map (fun i => fitsV (xs.getD i .non) i xs.length), rfl, SqL.of (by rw [upd_same, List.map_map]; rfl), ?_⟩
      have : formV xs = ((List.range xs.length).map (fun i => fitsV (xs.getD i .non) i xs.length)).all id := by
        unfold formV
        rw [decide_eq_true h1, Bool.true_and, if_neg h2, List.all_map]
        rfl
      rw [this] at q
      exact q _ (s2.trans (Same.upd hpa))
end
end Mr

namespace Mr
open PySem L2
section
variable {P : Program} {w : World} {K : PySem.W.Frag} {mg : Str → Option Value} {base : Heap}
theorem scNF : FnScope ["thing"] ["thing"] (defScope s_need_form) := ⟨rfl, rfl, rfl, by decide +kernel, rfl, by decide +kernel, by decide +kernel⟩
theorem ok_needf (a : At K mg "need_form" s_need_form ["thing"]) (dF : Df P w K mg base 3 "are_form" ["thing"] (spOfList K formV)) : Df P w K mg base 4 "need_form" ["thing"] spNeedF := by
  refine a.df fun f fd F => ?_
  refine F.ok scNF (fun vs H Q E h => ?_) (fun cdv A outer s H vs Q E hr h => ?_)
  · obtain ⟨_, _, _, rfl, _⟩ := h
    rfl
  · obtain ⟨p, ks, sg, rfl, hp, hF, hs, q⟩ := h
    refine ⟨_, pss_one (ps_if (pt_not (pt_val (pe_df dF hr rfl (pa_cons (pv 0) pa_nil)))) (pss_one ps_never) pss_nil), ?_⟩
    refine ⟨_, rfl, .ref p, rfl, .inl ⟨p, _, rfl, hp, (by rw [lensV_len]; have := hF.len; omega), (fun y hy => ?_), fun H' s' => ⟨_, rfl, ?_⟩⟩⟩
    · obtain ⟨i, hi, rfl⟩ := List.mem_map.mp hy
      exact .inl trivial
    rw [form_true hF hs]
    exact iteF (q H' s')
end
end Mr

namespace Mr
open PySem L2
section
variable {P : Program} {w : World} {K : PySem.W.Frag} {mg : Str → Option Value} {base : Heap}
theorem scSM : FnScope ["reaches"] ["reaches"] (defScope s_signs_many) := ⟨rfl, rfl, rfl, by decide +kernel, rfl, by decide +kernel, by decide +kernel⟩
set_option maxHeartbeats 8000000 in
theorem ok_signs (a : At K mg "signs_many" s_signs_many ["reaches"])  (z_len : mg "len" = none) : Df P w K mg base 1 "signs_many" ["reaches"] spSigns := by
  refine a.df fun f fd F => ?_
  refine F.ok scSM (fun vs H Q E h => ?_) (fun cdv A outer s H vs Q E hr h => ?_)
  · obtain ⟨_, _, _, rfl, _⟩ := h
    rfl
  · obtain ⟨p, ks, sg, rfl, hp, hF, hs, q⟩ := h
    refine ⟨_, (pss_one (ps_ret (pe_op op_fdiv (pe_op op_add (pe_callB call_len_seq (by rfl) z_len bt_len (pa_cons (pv 0) pa_nil)) pe_int) pe_int))), ?_⟩
    refine ⟨_, rfl, p, _, rfl, .inl (SqL.of hp), _, _, rfl, rfl, _, _, rfl, rfl, ⟨by decide, by decide⟩, ?_⟩
    rw [lensV_len]
    have e : ((ks.length : Int) + 1) / 2 = (sg : Int) := by have := hF.len; omega
    have q' := q
    rw [← e] at q'
    exact q'
end
end Mr

namespace Mr
open PySem L2
section
variable {P : Program} {w : World} {K : PySem.W.Frag} {mg : Str → Option Value} {base : Heap}
theorem scAl : FnScope ["reaches", "told", "middle", "length", "first"] ["reaches"] (defScope s_alike_places) := ⟨rfl, rfl, rfl, by decide +kernel, rfl, by decide +kernel, by decide +kernel⟩
set_option maxHeartbeats 8000000 in
theorem ok_alike (a : At K mg "alike_places" s_alike_places ["reaches"]) (d_need_form : Df P w K mg base 4 "need_form" ["thing"] spNeedF) (z_enumerate : mg "enumerate" = none) (z_range : mg "range" = none) (z_sorted : mg "sorted" = none) : Df P w K mg base 5 "alike_places" ["reaches"] (spPrs fun ks s => alT ks ks.length) := by
  refine a.df fun f fd F => ?_
  refine F.ok scAl (fun vs H Q E h => ?_) (fun cdv A outer s H vs Q E hr h => ?_)
  · obtain ⟨_, _, _, rfl, _⟩ := h
    rfl
  · obtain ⟨p, ks, sg, rfl, hp, hF, hs, q⟩ := h
    refine ⟨_, (pss_cons (ps_expr (pe_df d_need_form hr rfl (pa_cons (pv 0) pa_nil)))
      (pss_cons (ps_set (i := 1) scAl.nd rfl (Or.inl rfl) (pe_lst pa_nil))
      (pss_cons (ps_for PassesOwn.never rfl (pi_enum rfl z_enumerate (pa_cons (pv 0) pa_nil)) (pg_tup rfl (pgs_cons (pg_name (i := 2) scAl.nd rfl (Or.inr rfl)) (pgs_cons (pg_name (i := 3) scAl.nd rfl (Or.inl rfl)) pgs_nil))) (pss_cons (ps_set (i := 4) scAl.nd rfl (Or.inl rfl) (pe_op op_fdiv (pe_op op_sub (pe_op op_add (pv 2) pe_int) (pv 3)) pe_int))
      (pss_one (ps_expr (pe_bm PySem.F.plainAttrs_list PySem.F.slot_list_extend PySem.F.type_list_extend mt_extend (pv 1) (pa_cons (pe_comp (ys := ["middle"]) (ix := [2]) ⟨rfl, by decide +kernel, rfl, by decide +kernel, rfl, by decide +kernel, ⟨rfl, trivial⟩, rfl, ⟨⟨rfl, rfl, rfl, rfl⟩, trivial⟩⟩ rfl (pi_range2 rfl z_range (pa_cons (pv 4) (pa_cons (pe_op op_fdiv (pe_op op_add (pv 2) pe_int) pe_int) pa_nil))) (fun C fp s H => pts_nil) (fun C fp s H => (pe_tup (pa_cons (pv 0) (pa_cons (pe_op op_sub (pv 1) (pv 0)) pa_nil))))) pa_nil))))))
      (pss_one (ps_ret (pe_callB call_sortedPU (by rfl) z_sorted bt_sorted (pa_cons (pv 1) pa_nil))))))), ?_⟩
    refine ⟨_, rfl, p, ks, sg, rfl, hp, hF, hs, fun H1 s1 => ⟨(by show 0 ≤ sizeLine; decide), fun pt hpt => ?_⟩⟩
    have hlen := hF.len
    have frt : H pt = none := s1.free hpt
    have u2 := Same.upd (o := .lst ([] : List V)) hpt
    have v2 : upd H1 pt (.lst []) pt = some (.lst []) := upd_same
    generalize upd H1 pt (.lst []) = H2 at u2 v2
    have S2 : Same H H2 := s1.trans u2
    refine ⟨_, rfl, p, _, rfl, S2 _ _ hp, for_enum (xs := lensV ks) (fun j σ H' => ∃ (w2 w3 w4 : Option V) (zs : List V), σ = [some (.ref p), some (.ref pt), w2, w3, w4] ∧ H' pt = some (.lst zs) ∧ PrsV H' zs (alT ks j) ∧ Same H H') ⟨_, _, _, [], rfl, v2, PrsV.nil, S2⟩ (fun j σ H' _ ⟨_, _, _, _, _, _, _, s⟩ => s _ _ hp) ?_ ?_⟩
    · rintro j x σ H3 T hx ⟨w2, w3, w4, zs, rfl, ht, hP, s3⟩ hT
      obtain ⟨k, hk, rfl⟩ := lensV_at hx
      have hjl : j < ks.length := (List.getElem?_eq_some_iff.mp hk).1
      have hkd : ks.getD j 0 = k := by rw [List.getD_eq_getElem?_getD, hk]; rfl
      obtain ⟨f1, f2, f3⟩ := hF.fit j hjl
      rw [hkd] at f1 f2 f3
      have uT := Same.upd (o := .tup [V.int (j : Int), V.int (k : Int)]) hT
      have vT : upd H3 T (.tup [V.int (j : Int), V.int (k : Int)]) T = some (.tup [V.int (j : Int), V.int (k : Int)]) := upd_same
      generalize upd H3 T (.tup [V.int (j : Int), V.int (k : Int)]) = H4 at uT vT
      refine ⟨T, _, rfl, SqT.of vT, rfl, _, _, rfl, _, _, rfl, rfl, ?_⟩
      refine ⟨_, rfl, _, _, rfl, rfl, _, rfl, _, _, rfl, rfl, _, _, rfl, rfl, ⟨by decide, by decide⟩, ?_⟩
      have ht4 := uT _ _ ht
      refine ⟨_, rfl, .inl ⟨rfl, _, SqL.of ht4⟩, ?_⟩
      refine ⟨_, rfl, _, rfl, _, _, rfl, rfl, _, _, rfl, rfl, ⟨by decide, by decide⟩, _, _, rfl, ⟨by omega, by omega, by omega, by omega⟩, ?_⟩
      have elo : ((j : Int) + 1 - (k : Int)) / 2 = ((fN j k : Nat) : Int) := by unfold fN; omega
      have en : (((j : Int) + 1) / 2 - ((j : Int) + 1 - (k : Int)) / 2).toNat = (j + 1) / 2 - fN j k := by unfold fN; omega
      rw [elo] at en ⊢
      rw [en]
      refine comp_range (n := (j + 1) / 2 - fN j k) (by rw [sizeLine_eq]; omega) (fun i ys H' => ys.length = i ∧ PrsV H' ys ((List.range i).map (alP j k)) ∧ Same H4 H') ⟨rfl, PrsV.nil, Same.refl _⟩ ?_ ?_
      · rintro i ys H5 N hi hy ⟨hyl, hPy, s5⟩ hN
        refine yes_ok (iteT ⟨_, rfl, _, rfl, _, rfl, _, _, rfl, rfl, (by show 2 ≤ sizeLine; decide), fun pq hpq => hN _ _ (by rw [List.length_append, hyl]; exact Nat.le_refl _) ⟨by rw [List.length_append, hyl]; rfl, ?_, s5.trans (Same.upd hpq)⟩⟩)
        rw [List.range_succ, List.map_append]
        refine (hPy.same (Same.upd hpq)).push ?_
        rw [upd_same]
        have e1 : ((fN j k : Nat) : Int) + (i : Int) = (alP j k i).1 := by show _ = ((fN j k + i : Nat) : Int); omega
        have e2 : (j : Int) - (((fN j k : Nat) : Int) + (i : Int)) = (alP j k i).2 := by show _ = ((j - (fN j k + i) : Nat) : Int); omega
        show some (HO.tup [V.int (((fN j k : Nat) : Int) + (i : Int)), V.int ((j : Int) - (((fN j k : Nat) : Int) + (i : Int)))]) = _
        rw [e2, e1]
      · rintro ys H5 hy ⟨hyl, hPy, s5⟩ pl hpl
        have u6 := Same.upd (o := .lst ys) hpl
        have v6 : upd H5 pl (.lst ys) pl = some (.lst ys) := upd_same
        generalize upd H5 pl (.lst ys) = H6 at u6 v6
        have ht6 := u6 _ _ (s5 _ _ ht4)
        have hz := hP.1
        have hal := alT_len hF hs (n := j) (by omega)
        refine ⟨pt, pl, zs, ys, rfl, rfl, ht6, v6, (by rw [sizeLine_eq]; omega), ?_⟩
        refine ⟨_, _, _, zs ++ ys, rfl, upd_same, ?_, same_upd (s3.trans (uT.trans (s5.trans u6))) frt⟩
        show PrsV _ _ (alT ks j ++ alM j (ks.getD j 0))
        rw [hkd, alM_eq]
        exact PrsV.upd (PrsV.app (hP.same (uT.trans (s5.trans u6))) (hPy.same u6)) ht6
    · rintro σ H3 ⟨w2, w3, w4, zs, rfl, ht, hP, s3⟩
      rw [lensV_len] at hP
      refine ⟨_, rfl, pt, zs, alT ks ks.length, rfl, ht, hP, (by have := alT_len hF hs (Nat.le_refl ks.length); omega), alT_nd hF (Nat.le_refl _), fun l ys qs a1 a2 a3 hl => ?_⟩
      exact q l ys qs _ a1 a2 (a3.same (Same.upd hl)) (s3.free hl) upd_same (s3.trans (Same.upd hl))
end
end Mr

namespace Mr
open PySem L2
section
variable {P : Program} {w : World} {K : PySem.W.Frag} {mg : Str → Option Value} {base : Heap}
theorem scUn : FnScope ["reaches", "told", "middle", "length", "place", "later"] ["reaches"] (defScope s_unlike_places) := ⟨rfl, rfl, rfl, by decide +kernel, rfl, by decide +kernel, by decide +kernel⟩
set_option maxHeartbeats 8000000 in
theorem ok_unlike (a : At K mg "unlike_places" s_unlike_places ["reaches"]) (d_need_form : Df P w K mg base 4 "need_form" ["thing"] spNeedF) (d_signs_many : Df P w K mg base 1 "signs_many" ["reaches"] spSigns) (z_enumerate : mg "enumerate" = none) (z_sorted : mg "sorted" = none) : Df P w K mg base 5 "unlike_places" ["reaches"] (spPrs fun ks s => unT ks s ks.length) := by
  refine a.df fun f fd F => ?_
  refine F.ok scUn (fun vs H Q E h => ?_) (fun cdv A outer s H vs Q E hr h => ?_)
  · obtain ⟨_, _, _, rfl, _⟩ := h
    rfl
  · obtain ⟨p, ks, sg, rfl, hp, hF, hs, q⟩ := h
    refine ⟨_, (pss_cons (ps_expr (pe_df d_need_form hr rfl (pa_cons (pv 0) pa_nil)))
      (pss_cons (ps_set (i := 1) scUn.nd rfl (Or.inl rfl) (pe_lst pa_nil))
      (pss_cons (ps_for PassesOwn.never rfl (pi_enum rfl z_enumerate (pa_cons (pv 0) pa_nil)) (pg_tup rfl (pgs_cons (pg_name (i := 2) scUn.nd rfl (Or.inl rfl)) (pgs_cons (pg_name (i := 3) scUn.nd rfl (Or.inl rfl)) pgs_nil))) (pss_cons (ps_set (i := 4) scUn.nd rfl (Or.inl rfl) (pe_op op_sub (pe_op op_fdiv (pe_op op_sub (pe_op op_add (pv 2) pe_int) (pv 3)) pe_int) pe_int))
      (pss_cons (ps_set (i := 5) scUn.nd rfl (Or.inl rfl) (pe_op op_sub (pv 2) (pv 4)))
      (pss_one (ps_if (PW.pt (pw_and (pt_cmpR op_ge (pv 4) pe_int (nomark _)) (pw_and1 (pt_cmpR op_lt (pv 5) (pe_df d_signs_many hr rfl (pa_cons (pv 0) pa_nil)) (nomark _))))) (pss_one (ps_expr (pe_bm PySem.F.plainAttrs_list PySem.F.slot_list_append PySem.F.type_list_append mt_append (pv 1) (pa_cons (pe_tup (pa_cons (pv 4) (pa_cons (pv 5) pa_nil))) pa_nil)))) pss_nil)))))
      (pss_one (ps_ret (pe_callB call_sortedPU (by rfl) z_sorted bt_sorted (pa_cons (pv 1) pa_nil))))))), ?_⟩
    refine ⟨_, rfl, p, ks, sg, rfl, hp, hF, hs, fun H1 s1 => ⟨(by show 0 ≤ sizeLine; decide), fun pt hpt => ?_⟩⟩
    have hlen := hF.len
    have frt : H pt = none := s1.free hpt
    have u2 := Same.upd (o := .lst ([] : List V)) hpt
    have v2 : upd H1 pt (.lst []) pt = some (.lst []) := upd_same
    generalize upd H1 pt (.lst []) = H2 at u2 v2
    have S2 : Same H H2 := s1.trans u2
    refine ⟨_, rfl, p, _, rfl, S2 _ _ hp, for_enum (xs := lensV ks) (fun j σ H' => ∃ (w2 w3 w4 w5 : Option V) (zs : List V), σ = [some (.ref p), some (.ref pt), w2, w3, w4, w5] ∧ H' pt = some (.lst zs) ∧ PrsV H' zs (unT ks sg j) ∧ Same H H') ⟨_, _, _, _, [], rfl, v2, PrsV.nil, S2⟩ (fun j σ H' _ ⟨_, _, _, _, _, _, _, _, s⟩ => s _ _ hp) ?_ ?_⟩
    · rintro j x σ H3 T hx ⟨w2, w3, w4, w5, zs, rfl, ht, hP, s3⟩ hT
      obtain ⟨k, hk, rfl⟩ := lensV_at hx
      have hjl : j < ks.length := (List.getElem?_eq_some_iff.mp hk).1
      have hkd : ks.getD j 0 = k := by rw [List.getD_eq_getElem?_getD, hk]; rfl
      obtain ⟨f1, f2, f3⟩ := hF.fit j hjl
      rw [hkd] at f1 f2 f3
      have uT := Same.upd (o := .tup [V.int (j : Int), V.int (k : Int)]) hT
      have vT : upd H3 T (.tup [V.int (j : Int), V.int (k : Int)]) T = some (.tup [V.int (j : Int), V.int (k : Int)]) := upd_same
      generalize upd H3 T (.tup [V.int (j : Int), V.int (k : Int)]) = H4 at uT vT
      refine ⟨T, _, rfl, SqT.of vT, rfl, _, _, rfl, _, _, rfl, rfl, ?_⟩
      refine ⟨_, rfl, _, _, rfl, rfl, _, rfl, _, _, rfl, rfl, _, _, rfl, rfl, ⟨by decide, by decide⟩, _, _, rfl, rfl, ?_⟩
      have elo : ((j : Int) + 1 - (k : Int)) / 2 = ((fN j k : Nat) : Int) := by unfold fN; omega
      dsimp only
      rw [elo]
      have hfn : fN j k ≤ (j + 1) / 2 := by unfold fN; omega
      have ht4 := uT _ _ ht
      have S4 : Same H H4 := s3.trans uT
      have hz := hP.1
      have hul := unT_len ks sg j
      have nx : ¬ (1 ≤ fN j k ∧ j + 1 - fN j k < sg) → PrsV H4 zs (unT ks sg (j + 1)) := fun c => by
        show PrsV _ _ (unT ks sg j ++ unM sg j (ks.getD j 0))
        rw [hkd]
        unfold unM
        rw [if_neg c, List.append_nil]
        exact hP.same uT
      refine ⟨_, rfl, _, rfl, _, _, rfl, rfl, ?_⟩
      refine ⟨_, rfl, _, _, rfl, rfl, _, rfl, ?_⟩
      by_cases c1 : (((fN j k : Nat) : Int) - 1) ≥ 0
      case neg =>
        exact ite_no (decide_eq_false c1) (iteF ⟨_, _, _, _, zs, rfl, ht4, nx (by omega), S4⟩)
      refine ite_ya (decide_eq_true c1) ?_
      refine ⟨_, rfl, _, rfl, p, ks, sg, rfl, S4 _ _ hp, hF, hs, _, _, rfl, rfl, _, rfl, ?_⟩
      by_cases c2 : (j : Int) - (((fN j k : Nat) : Int) - 1) < (sg : Int)
      case neg =>
        exact ite_no (decide_eq_false c2) ⟨_, _, _, _, zs, rfl, ht4, nx (by omega), S4⟩
      refine ite_ya (decide_eq_true c2) ?_
      refine ⟨_, rfl, .inl ⟨rfl, _, SqL.of ht4⟩, _, rfl, _, rfl, (by show 2 ≤ sizeLine; decide), fun pq hpq => ?_⟩
      have u5 := Same.upd (o := .tup [V.int (((fN j k : Nat) : Int) - 1), V.int ((j : Int) - (((fN j k : Nat) : Int) - 1))]) hpq
      have v5 : upd H4 pq (.tup [V.int (((fN j k : Nat) : Int) - 1), V.int ((j : Int) - (((fN j k : Nat) : Int) - 1))]) pq = some (.tup [V.int (((fN j k : Nat) : Int) - 1), V.int ((j : Int) - (((fN j k : Nat) : Int) - 1))]) := upd_same
      generalize upd H4 pq (.tup [V.int (((fN j k : Nat) : Int) - 1), V.int ((j : Int) - (((fN j k : Nat) : Int) - 1))]) = H5 at u5 v5
      have ht5 := u5 _ _ ht4
      refine ⟨pt, zs, _, rfl, rfl, ht5, (by rw [sizeLine_eq]; omega), ?_⟩
      refine ⟨_, _, _, _, zs ++ [.ref pq], rfl, upd_same, ?_, same_upd (S4.trans u5) frt⟩
      show PrsV _ _ (unT ks sg j ++ unM sg j (ks.getD j 0))
      rw [hkd]
      unfold unM
      rw [if_pos (show 1 ≤ fN j k ∧ j + 1 - fN j k < sg by omega)]
      refine PrsV.upd ((hP.same (uT.trans u5)).push ?_) ht5
      rw [v5]
      have e1 : (((fN j k : Nat) : Int) - 1) = ((fN j k - 1 : Nat) : Int) := by omega
      have e2 : (j : Int) - ((fN j k - 1 : Nat) : Int) = ((j + 1 - fN j k : Nat) : Int) := by omega
      rw [e1, e2]
    · rintro σ H3 ⟨w2, w3, w4, w5, zs, rfl, ht, hP, s3⟩
      rw [lensV_len] at hP
      refine ⟨_, rfl, pt, zs, unT ks sg ks.length, rfl, ht, hP, (by have := unT_len ks sg ks.length; omega), unT_nd hF (Nat.le_refl _), fun l ys qs a1 a2 a3 hl => ?_⟩
      exact q l ys qs _ a1 a2 (a3.same (Same.upd hl)) (s3.free hl) upd_same (s3.trans (Same.upd hl))
end
end Mr

namespace Mr
open PySem L2
section
variable {P : Program} {w : World} {K : PySem.W.Frag} {mg : Str → Option Value} {base : Heap}
theorem scLd : FnScope ["alike", "many", "leaders", "place", "later", "lesser", "greater"] ["alike", "many"] (defScope s_leaders_of) := ⟨rfl, rfl, rfl, by decide +kernel, rfl, by decide +kernel, by decide +kernel⟩
set_option maxHeartbeats 8000000 in
theorem ok_leaders (a : At K mg "leaders_of" s_leaders_of ["alike", "many"])  (z_list : mg "list" = none) (z_max : mg "max" = none) (z_min : mg "min" = none) (z_range : mg "range" = none) : Df P w K mg base 1 "leaders_of" ["alike", "many"] spLead := by
  refine a.df fun f fd F => ?_
  refine F.ok scLd (fun vs H Q E h => ?_) (fun cdv A outer s H vs Q E hr h => ?_)
  · obtain ⟨_, _, _, _, rfl, _⟩ := h
    rfl
  · obtain ⟨p, ys, qs, sg, rfl, hp, hP, hI, hs, q⟩ := h
    refine ⟨_, (pss_cons (ps_set (i := 2) scLd.nd rfl (Or.inl rfl) (pe_callTy (call_listR rfl) (by rfl) z_list bt_list (pa_cons (pe_callTy call_rangeV (by rfl) z_range PyProof.Rows.boot_range (pa_cons (pv 1) pa_nil)) pa_nil)))
      (pss_cons (ps_for PassesOwn.never rfl (pi_list (pv 0)) (pg_tup rfl (pgs_cons (pg_name (i := 3) scLd.nd rfl (Or.inl rfl)) (pgs_cons (pg_name (i := 4) scLd.nd rfl (Or.inl rfl)) pgs_nil))) (pss_cons (ps_set (i := 5) scLd.nd rfl (Or.inr rfl) (pe_callB (call_min2 rfl) (by rfl) z_min bt_min (pa_cons (pe_ix ix_list (pv 2) (pv 3) (fun _ _ => rfl)) (pa_cons (pe_ix ix_list (pv 2) (pv 4) (fun _ _ => rfl)) pa_nil))))
      (pss_cons (ps_set (i := 6) scLd.nd rfl (Or.inr rfl) (pe_callB (call_max2 rfl) (by rfl) z_max bt_max (pa_cons (pe_ix ix_list (pv 2) (pv 3) (fun _ _ => rfl)) (pa_cons (pe_ix ix_list (pv 2) (pv 4) (fun _ _ => rfl)) pa_nil))))
      (pss_one (ps_setc (ys := ["lesser", "greater"]) (ix := [5, 6]) (i := 2) ⟨rfl, by decide +kernel, rfl, by decide +kernel, rfl, by decide +kernel, ⟨rfl, rfl, trivial⟩, rfl, ⟨⟨rfl, rfl, rfl, rfl⟩, ⟨rfl, rfl, rfl, rfl⟩, trivial⟩⟩ rfl (pi_list (pv 2)) (fun C fp s H => pts_nil) (fun C fp s H => (pe_ifExp (pt_cmpR op_eq (pv 0) (pv 2) (nomark _)) (pv 1) (pv 0))) scLd.nd rfl (Or.inl rfl))))))
      (pss_one (ps_ret (pv 2))))), ?_⟩
    refine ⟨_, rfl, _, rfl, fun g3 hg3 => ?_⟩
    have s3 := Same.upd (o := .rng 0 (sg : Int)) hg3
    have f3 : upd H g3 (.rng 0 (sg : Int)) g3 = some (.rng 0 (sg : Int)) := upd_same
    generalize upd H g3 (.rng 0 (sg : Int)) = H3 at s3 f3
    refine ⟨g3, _, rfl, f3, by omega, by omega, fun g4 hg4 => ?_⟩
    rw [Int.toNat_natCast]
    have s4 := Same.upd (o := .lst (lensV (List.range sg))) hg4
    have f4 : upd H3 g4 (.lst (lensV (List.range sg))) g4 = some (.lst (lensV (List.range sg))) := upd_same
    generalize ee : upd H3 g4 (.lst (lensV (List.range sg))) = H4 at s4 f4
    rw [show upd H3 g4 (.lst ((List.range sg).map fun (k : Nat) => V.int (k : Int))) = H4 from ee]
    have S4 : Same H H4 := s3.trans s4
    refine ⟨_, rfl, p, rfl, ⟨_, SqL.of (S4 _ _ hp)⟩, for_list (K := K) (a := p) (xs := ys) (fun j σ H' => ∃ (pl : Addr) (w3 w4 w5 w6 : Option V), σ = [some (.ref p), some (.int (sg : Int)), some (.ref pl), w3, w4, w5, w6] ∧ H' pl = some (.lst (lensV ((qs.take j).foldl leadF (List.range sg)))) ∧ H pl = none ∧ Same H H') ⟨g4, _, _, _, _, rfl, f4, s3.free hg4, S4⟩ (fun j σ H' _ ⟨_, _, _, _, _, _, _, _, s⟩ => SqL.of (s _ _ hp)) ?_ ?_⟩
    · rintro j x σ H5 hx ⟨pl, w3, w4, w5, w6, rfl, hpl, hfl, s5⟩
      obtain ⟨pq, rfl, hjq, hpq⟩ := PrsV.at hP hx
      have hqj := pr_get hjq
      have hin := hI _ (prAt_mem hjq)
      have hst := take_fold leadF (List.range sg) qs hqj
      have hok := lead_ok (s := sg) (qs := qs.take j) (ls := List.range sg) (fun r hr => hI r (List.mem_of_mem_take hr)) List.length_range (fun x hx => List.mem_range.mp hx)
      generalize prAt qs j = qq at hpq hin hst
      generalize (qs.take j).foldl leadF (List.range sg) = ls at hpl hok hst
      obtain ⟨hl1, hl2⟩ := hok
      refine ⟨pq, _, rfl, SqT.of (s5 _ _ hpq), rfl, _, _, rfl, _, _, rfl, rfl, ?_⟩
      have ha := lens_atI (ks := ls) (i := qq.1) hin.1 (by omega)
      have hb := lens_atI (ks := ls) (i := qq.2) (by omega) (by omega)
      have hle : leadF ls qq = ls.map fun x => if x = (if ls.getD qq.2.toNat 0 > ls.getD qq.1.toNat 0 then ls.getD qq.2.toNat 0 else ls.getD qq.1.toNat 0) then (if ls.getD qq.2.toNat 0 < ls.getD qq.1.toNat 0 then ls.getD qq.2.toNat 0 else ls.getD qq.1.toNat 0) else x := rfl
      generalize ls.getD qq.1.toNat 0 = a0 at ha hle
      generalize ls.getD qq.2.toNat 0 = b0 at hb hle
      refine ⟨_, rfl, _, rfl, pl, _, _, _, rfl, rfl, SqL.of hpl, ha, _, rfl, _, rfl, pl, _, _, _, rfl, rfl, SqL.of hpl, hb, _, _, rfl, ?_⟩
      refine ⟨_, rfl, _, rfl, pl, _, _, _, rfl, rfl, SqL.of hpl, ha, _, rfl, _, rfl, pl, _, _, _, rfl, rfl, SqL.of hpl, hb, _, _, rfl, ?_⟩
      have e1 : (if (b0 : Int) < (a0 : Int) then (b0 : Int) else (a0 : Int)) = ((if b0 < a0 then b0 else a0 : Nat) : Int) := by split <;> split <;> omega
      have e2 : (if (b0 : Int) > (a0 : Int) then (b0 : Int) else (a0 : Int)) = ((if b0 > a0 then b0 else a0 : Nat) : Int) := by split <;> split <;> omega
      rw [e1, e2]
      generalize (if b0 < a0 then b0 else a0) = lo at hle
      generalize (if b0 > a0 then b0 else a0) = hi at hle
      refine ⟨_, rfl, pl, rfl, ⟨_, SqL.of hpl⟩, comp_list (K := K) (a := pl) (xs := lensV ls) (by rw [lensV_len, sizeLine_eq]; omega) (fun i zs H' => H' = H5 ∧ zs = lensV ((ls.take i).map fun x => if x = hi then lo else x)) ⟨rfl, rfl⟩ (fun i zs H' ⟨e, _⟩ => by rw [e]; exact SqL.of hpl) ?_ ?_⟩
      · rintro i x zs H6 N hx2 hz ⟨rfl, rfl⟩ hN
        obtain ⟨y, hy, rfl⟩ := lensV_at hx2
        have hsx : ∀ z : Nat, (if y = hi then lo else y) = z → N (lensV ((ls.take i).map fun x => if x = hi then lo else x) ++ [.int (z : Int)]) H6 := fun z e => hN _ _ (by rw [List.length_append]; exact Nat.succ_le_succ hz) ⟨rfl, by rw [List.take_succ, hy, List.map_append, lensV_app, ← e]; rfl⟩
        refine yes_ok (iteT ?_)
        refine ⟨_, rfl, _, rfl, rfl, _, rfl, ?_⟩
        by_cases c : y = hi
        · exact ite_ya (decide_eq_true (by rw [c])) ⟨_, rfl, hsx lo (by rw [if_pos c])⟩
        · exact ite_no (decide_eq_false fun z => c (by injection z with z; omega)) ⟨_, rfl, hsx y (by rw [if_neg c])⟩
      · rintro zs H6 hz ⟨rfl, rfl⟩ pn hpn
        rw [lensV_len, List.take_length, ← hle, ← hst] at *
        exact ⟨pn, _, _, _, _, rfl, upd_same, s5.free hpn, s5.trans (Same.upd hpn)⟩
    · rintro σ H5 ⟨pl, w3, w4, w5, w6, rfl, hpl, hfl, s5⟩
      rw [hP.1, List.take_length] at hpl
      exact ⟨_, rfl, q pl H5 hfl hpl s5⟩
end
end Mr

namespace Mr
open PySem L2
section
variable {P : Program} {w : World} {K : PySem.W.Frag} {mg : Str → Option Value} {base : Heap}
theorem scFL : FnScope ["told", "place", "unlike", "barred"] ["told", "place", "unlike"] (defScope s_first_letter) := ⟨rfl, rfl, rfl, by decide +kernel, rfl, by decide +kernel, by decide +kernel⟩
set_option maxHeartbeats 8000000 in
theorem ok_first (a : At K mg "first_letter" s_first_letter ["told", "place", "unlike"])  (z_max : mg "max" = none) (z_min : mg "min" = none) {tL : Tok} (hL : mg "LETTERS" = some (.str "abcdefghijklmnopqrstuvwxyz" tL)) : Df P w K mg base 1 "first_letter" ["told", "place", "unlike"] spFirstL := by
  refine a.df fun f fd F => ?_
  refine F.ok scFL (fun vs H Q E h => ?_) (fun cdv A outer s H vs Q E hr h => ?_)
  · obtain ⟨_, _, _, _, _, rfl, _⟩ := h
    rfl
  · obtain ⟨pt, pu, told, ys, ul, rfl, hpt, hpu, hP, hul, hne, htl, q⟩ := h
    refine ⟨_, (pss_cons (ps_set (i := 3) scFL.nd rfl (Or.inr rfl) (pe_comp (ys := ["told", "place"]) (ix := [0, 1]) ⟨rfl, by decide +kernel, rfl, by decide +kernel, rfl, by decide +kernel, ⟨rfl, rfl, trivial⟩, rfl, ⟨⟨rfl, rfl, rfl, rfl⟩, ⟨rfl, rfl, rfl, rfl⟩, trivial⟩⟩ rfl (pi_list (pv 2)) (fun C fp s H => (pts_one (pt_cmpR op_eq (pe_callB (call_maxP rfl) (by rfl) z_max bt_max (pa_cons (pv 0) pa_nil)) (pv 2) (nomark _)))) (fun C fp s H => (pe_ix (ix_listK (K := K) rfl) (pv 1) (pe_callB (call_minP rfl) (by rfl) z_min bt_min (pa_cons (pv 0) pa_nil)) (fun _ _ => rfl)))))
      (pss_one (ps_ret (pe_ix ix_list (pe_comp (ys := ["barred"]) (ix := [3]) ⟨rfl, by decide +kernel, rfl, by decide +kernel, rfl, by decide +kernel, ⟨rfl, trivial⟩, rfl, ⟨⟨rfl, rfl, rfl, rfl⟩, trivial⟩⟩ rfl (pi_str (pe_glob (v := .str "abcdefghijklmnopqrstuvwxyz") (by rfl) hL ⟨_, rfl⟩)) (fun C fp s H => (pts_one (pt_cmpR (op_notIn_seqK (K := K) rfl) (pv 0) (pv 1) (by with_unfolding_all rfl)))) (fun C fp s H => (pv 0))) pe_int (fun _ _ => rfl))))), ?_⟩
    refine ⟨_, rfl, pu, rfl, ⟨_, SqL.of hpu⟩, comp_list (K := K) (a := pu) (xs := ys) (by rw [hP.1, sizeLine_eq]; omega) (fun i zs H' => H' = H ∧ zs = oneV (barr told told.length (ul.take i))) ⟨rfl, rfl⟩ (fun i zs H' ⟨e, _⟩ => by rw [e]; exact SqL.of hpu) ?_ ?_⟩
    · rintro i x zs H1 N hx hz ⟨rfl, rfl⟩ hN
      obtain ⟨pq, rfl, hiq, hpq⟩ := PrsV.at hP hx
      have hbs := barr_succ (told := told) (pl := told.length) (pr_get hiq)
      have hq0 := hne _ (prAt_mem hiq)
      generalize prAt ul i = qq at hpq hbs hq0
      refine ⟨_, rfl, pq, _, _, rfl, hpq, _, rfl, rfl, _, rfl, ?_⟩
      by_cases c : mxP qq = ((told.length : Nat) : Int)
      · rw [if_pos c] at hbs
        refine ite_ya (decide_eq_true (congrArg V.int c)) ?_
        have hmn : 0 ≤ mnP qq ∧ mnP qq < (told.length : Int) := by
          unfold mxP at c
          unfold mnP
          split at c <;> split <;> omega
        refine ⟨_, rfl, _, rfl, pq, _, _, rfl, hpq, pt, _, _, _, rfl, rfl, SqL.of hpt, one_atI hmn.1 hmn.2, hN _ _ (by rw [List.length_append]; exact Nat.succ_le_succ hz) ⟨rfl, ?_⟩⟩
        rw [hbs, oneV_app]
        rfl
      · rw [if_neg c, List.append_nil] at hbs
        refine ite_no (decide_eq_false fun z => c (by injection z)) (hN _ _ (Nat.le_succ_of_le hz) ⟨rfl, ?_⟩)
        rw [hbs]
    rintro zs H1 hz ⟨rfl, rfl⟩ pb hpb
    rw [hP.1, List.take_length] at *
    have hbl := barr_sub (told := told) hne
    generalize barr told told.length ul = bs at *
    have u2 := Same.upd (o := .lst (oneV bs)) hpb
    have v2 : upd H1 pb (.lst (oneV bs)) pb = some (.lst (oneV bs)) := upd_same
    generalize upd H1 pb (.lst (oneV bs)) = H2 at u2 v2
    refine ⟨lets, congrArg V.str e_lets, comp_str (l := lets) (by decide) (fun i zs H' => H' = H2 ∧ zs = oneV ((lets.take i).filter fun c => !decide (c ∈ bs))) ⟨rfl, rfl⟩ ?_ ?_⟩
    · rintro i c zs H3 N hc hz ⟨rfl, rfl⟩ hN
      have hst : ∀ b, (!decide (c ∈ bs)) = b → oneV ((lets.take (i + 1)).filter fun c => !decide (c ∈ bs)) = oneV ((lets.take i).filter fun c => !decide (c ∈ bs)) ++ (if b then [V.str (tx [c])] else []) := fun b e => by
        rw [List.take_succ, hc, List.filter_append, oneV_app]
        congr 1
        show oneV (([c] : List Nat).filter _) = _
        rw [List.filter_cons, e]
        cases b <;> rfl
      refine ⟨_, rfl, _, rfl, pb, _, rfl, .inl (SqL.of v2), rfl, oneV_flat _, _, rfl, ?_⟩
      by_cases hcb : c ∈ bs
      · refine ite_no (by show (!L2.inV (.str (tx [c])) (oneV bs)) = false; rw [inV_one, decide_eq_true hcb]; rfl) (hN _ _ (Nat.le_succ_of_le hz) ⟨rfl, ?_⟩)
        rw [hst false (by rw [decide_eq_true hcb]; rfl)]
        exact (List.append_nil _).symm
      · refine ite_ya (by show (!L2.inV (.str (tx [c])) (oneV bs)) = true; rw [inV_one, decide_eq_false hcb]; rfl) ⟨_, rfl, hN _ _ (by rw [List.length_append]; exact Nat.succ_le_succ hz) ⟨rfl, ?_⟩⟩
        rw [hst true (by rw [decide_eq_false hcb]; rfl)]
        rfl
    rintro zs H3 hz ⟨rfl, rfl⟩ pl hpl
    rw [List.take_length]
    refine ⟨pl, _, _, .str (tx [firstL bs]), rfl, rfl, SqL.of upd_same, atI_nat (j := 0) ?_, q _ (u2.trans (Same.upd hpl))⟩
    rw [first_some hbl (by omega)]
    rfl
end
end Mr

namespace Mr
open PySem L2
section
variable {P : Program} {w : World} {K : PySem.W.Frag} {mg : Str → Option Value} {base : Heap}
theorem scRF : FnScope ["reaches", "leaders", "unlike", "told", "place", "leader"] ["reaches"] (defScope s_row_for) := ⟨rfl, rfl, rfl, by decide +kernel, rfl, by decide +kernel, by decide +kernel⟩
set_option maxHeartbeats 8000000 in
theorem ok_rowfor (a : At K mg "row_for" s_row_for ["reaches"]) (d_leaders_of : Df P w K mg base 1 "leaders_of" ["alike", "many"] spLead) (d_signs_many : Df P w K mg base 1 "signs_many" ["reaches"] spSigns) (d_alike_places : Df P w K mg base 5 "alike_places" ["reaches"] (spPrs fun ks s => alT ks ks.length)) (d_unlike_places : Df P w K mg base 5 "unlike_places" ["reaches"] (spPrs fun ks s => unT ks s ks.length)) (d_first_letter : Df P w K mg base 1 "first_letter" ["told", "place", "unlike"] spFirstL) (z_any : mg "any" = none) (z_enumerate : mg "enumerate" = none) : Df P w K mg base 6 "row_for" ["reaches"] spRowFor := by
  refine a.df fun f fd F => ?_
  refine F.ok scRF (fun vs H Q E h => ?_) (fun cdv A outer s H vs Q E hr h => ?_)
  · obtain ⟨_, _, _, rfl, _⟩ := h
    rfl
  · obtain ⟨p, ks, sg, rfl, hp, hF, hs, q⟩ := h
    refine ⟨_, (pss_cons (ps_set (i := 1) scRF.nd rfl (Or.inr rfl) (pe_df d_leaders_of hr rfl (pa_cons (pe_df d_alike_places hr rfl (pa_cons (pv 0) pa_nil)) (pa_cons (pe_df d_signs_many hr rfl (pa_cons (pv 0) pa_nil)) pa_nil))))
      (pss_cons (ps_setcL (i := 2) (xs := ["place", "later"]) (ys := ["leaders"]) (ix := [1]) ⟨rfl, by decide +kernel, rfl, by decide +kernel, by decide +kernel, ⟨rfl, trivial⟩, rfl, ⟨⟨rfl, rfl, rfl, rfl⟩, trivial⟩⟩ rfl (pi_list (pe_df d_unlike_places hr rfl (pa_cons (pv 0) pa_nil))) (fun C fp s H => pg_tup rfl (pgs_cons (pg_name (i := 0) (show List.Nodup ((["place", "later"] : List Str) ++ (["leaders"] : List Str)) by decide +kernel) rfl (Or.inl rfl)) (pgs_cons (pg_name (i := 1) (show List.Nodup ((["place", "later"] : List Str) ++ (["leaders"] : List Str)) by decide +kernel) rfl (Or.inl rfl)) pgs_nil))) gs2 (fun C fp s H => pts_nil) (fun C fp s H => (pe_tup (pa_cons (pe_ix (ix_listK (K := K) rfl) (pv 2) (pv 0) (fun _ _ => rfl)) (pa_cons (pe_ix (ix_listK (K := K) rfl) (pv 2) (pv 1) (fun _ _ => rfl)) pa_nil)))) scRF.nd rfl (Or.inl rfl))
      (pss_cons (ps_if (pt_val (pe_callB (call_anyB rfl) (by rfl) z_any bt_any (pa_cons (pe_compL (xs := ["leader", "other"]) (ys := []) (ix := []) ⟨rfl, by decide +kernel, rfl, by decide +kernel, by decide +kernel, trivial, rfl, trivial⟩ rfl (pi_list (pv 2)) (fun C fp s H => pg_tup rfl (pgs_cons (pg_name (i := 0) (show List.Nodup ((["leader", "other"] : List Str) ++ ([] : List Str)) by decide +kernel) rfl (Or.inl rfl)) (pgs_cons (pg_name (i := 1) (show List.Nodup ((["leader", "other"] : List Str) ++ ([] : List Str)) by decide +kernel) rfl (Or.inl rfl)) pgs_nil))) gs2 (fun C fp s H => pts_nil) (fun C fp s H => (pe_cmpR op_eq (pv 0) (pv 1) (nomark _)))) pa_nil))) (pss_one (ps_ret pe_non)) pss_nil)
      (pss_cons (ps_set (i := 3) scRF.nd rfl (Or.inl rfl) (pe_lst pa_nil))
      (pss_cons (ps_for PassesOwn.never rfl (pi_enum rfl z_enumerate (pa_cons (pv 1) pa_nil)) (pg_tup rfl (pgs_cons (pg_name (i := 4) scRF.nd rfl (Or.inl rfl)) (pgs_cons (pg_name (i := 5) scRF.nd rfl (Or.inl rfl)) pgs_nil))) (pss_one (ps_expr (pe_bm PySem.F.plainAttrs_list PySem.F.slot_list_append PySem.F.type_list_append mt_append (pv 3) (pa_cons (pe_ifExp (pt_cmpR op_lt (pv 5) (pv 4) (nomark _)) (pe_ix ix_list (pv 3) (pv 5) (fun _ _ => rfl)) (pe_df d_first_letter hr rfl (pa_cons (pv 3) (pa_cons (pv 4) (pa_cons (pv 2) pa_nil))))) pa_nil)))))
      (pss_one (ps_ret (pe_bm PySem.F.plainAttrs_str PySem.F.slot_str_join PySem.F.type_str_join mt_joinS pe_str (pa_cons (pv 3) pa_nil))))))))), ?_⟩
    have hlen := hF.len
    refine ⟨_, rfl, p, ks, sg, rfl, hp, hF, (by omega), fun la ya qa H1 a1 a2 a3 hfla hla s1 => ⟨_, rfl, p, ks, sg, rfl, s1 _ _ hp, hF, (by omega), la, ya, qa, sg, rfl, hla, a3, (fun r hr => (alT_in hF (Nat.le_refl _) r (a1.mem_iff.mp hr)).1), hs, fun pl H2 hfl hpl s2 => ?_⟩⟩
    have hIa : InP sg qa := fun r hr => (alT_in hF (Nat.le_refl _) r (a1.mem_iff.mp hr)).1
    obtain ⟨hl1, hl2⟩ := leadN_ok hIa
    have S2 : Same H H2 := s1.trans s2
    refine ⟨_, rfl, p, ks, sg, rfl, S2 _ _ hp, hF, (by omega), fun lu yu qu H3 b1 b2 b3 hflu hlu s3 => ?_⟩
    have hIu : InP sg qu := fun r hr => (unT_in hF (Nat.le_refl _) r (b1.mem_iff.mp hr)).1
    have hqul : qu.length ≤ 31 := by
      have h1 : qu.length = (unT ks sg ks.length).length := b1.length_eq
      have := unT_len ks sg ks.length
      omega
    have Q3 := fun H' => q qa qu H' a1 a2 b1 b2
    have hpl3 := s3 _ _ hpl
    have S3 : Same H H3 := S2.trans s3
    unfold rowN at Q3
    generalize leadN qa sg = ls at hpl3 hl1 hl2 Q3
    have hat : ∀ i : Int, 0 ≤ i → i < (sg : Int) → atI (lensV ls) i = some (.int ((ls.getD i.toNat 0 : Nat) : Int)) := fun i h0 h1 => lens_atI h0 (by omega)
    refine ⟨lu, rfl, ⟨_, SqL.of hlu⟩, comp_listL (K := K) (a := lu) (xs := yu) (kt := 2) (by rw [b3.1, sizeLine_eq]; omega) (fun i zs H' => PrsV H' zs (unL ls (qu.take i)) ∧ Same H3 H') ⟨PrsV.nil, Same.refl _⟩ (fun i zs H' ⟨_, s⟩ => SqL.of (s _ _ hlu)) ?_ ?_⟩
    · rintro i x zs H4 N hx hz ⟨hP4, s4⟩ hN
      obtain ⟨pq, rfl, hiq, hpq⟩ := PrsV.at b3 hx
      have hin := hIu _ (prAt_mem hiq)
      have hun : unL ls (qu.take (i + 1)) = unL ls (qu.take i) ++ [(((ls.getD (prAt qu i).1.toNat 0 : Nat) : Int), ((ls.getD (prAt qu i).2.toNat 0 : Nat) : Int))] := by
        unfold unL
        rw [List.take_succ, pr_get hiq, List.map_append]
        rfl
      generalize prAt qu i = qq at hpq hin hun
      have hpl4 := s4 _ _ hpl3
      refine ⟨pq, _, rfl, SqT.of (s4 _ _ hpq), rfl, yes_ok (iteT ⟨_, rfl, _, rfl, pl, _, _, _, rfl, rfl, SqL.of hpl4, hat qq.1 hin.1 (by omega), _, rfl, _, rfl, pl, _, _, _, rfl, rfl, SqL.of hpl4, hat qq.2 (by omega) hin.2.2, (by show 2 ≤ sizeLine; decide), fun pn hpn => hN _ _ (by rw [List.length_append]; exact Nat.succ_le_succ hz) ⟨?_, s4.trans (Same.upd hpn)⟩⟩)⟩
      rw [hun]
      exact (hP4.same (Same.upd hpn)).push upd_same
    rintro zu H4 hz ⟨hP4, s4⟩ pu hpu
    rw [b3.1, List.take_length] at hP4
    have hInU : ∀ r ∈ unL ls qu, 0 ≤ r.1 ∧ 0 ≤ r.2 := fun r hr => by
      obtain ⟨y, hy, rfl⟩ := List.mem_map.mp hr
      exact ⟨Int.natCast_nonneg _, Int.natCast_nonneg _⟩
    have hull : (unL ls qu).length = qu.length := by unfold unL; rw [List.length_map]
    generalize unL ls qu = ul at hP4 hInU hull Q3
    have u5 := Same.upd (o := .lst zu) hpu
    have v5 : upd H4 pu (.lst zu) pu = some (.lst zu) := upd_same
    generalize upd H4 pu (.lst zu) = H5 at u5 v5
    have hP5 := hP4.same u5
    have S5 : Same H H5 := S3.trans (s4.trans u5)
    have hpl5 := u5 _ _ (s4 _ _ hpl3)
    refine ⟨_, rfl, pu, rfl, ⟨_, SqL.of v5⟩, comp_listL (K := K) (a := pu) (xs := zu) (kt := 2) (by rw [hP5.1, sizeLine_eq]; omega) (fun i zs H' => H' = H5 ∧ zs = ((ul.take i).map fun r => decide (r.1 = r.2)).map V.bl) ⟨rfl, rfl⟩ (fun i zs H' ⟨e, _⟩ => by rw [e]; exact SqL.of v5) ?_ ?_⟩
    · rintro i x zs H6 N hx hz6 ⟨rfl, rfl⟩ hN
      obtain ⟨pq, rfl, hiq, hpq⟩ := PrsV.at hP5 hx
      refine ⟨pq, _, rfl, SqT.of hpq, rfl, yes_ok (iteT ⟨_, rfl, _, rfl, rfl, hN _ _ (by rw [List.length_append]; exact Nat.succ_le_succ hz6) ⟨rfl, ?_⟩⟩)⟩
      rw [List.take_succ, pr_get hiq, List.map_append, List.map_append]
      congr 1
      show [V.bl (decide (V.int (prAt ul i).1 = V.int (prAt ul i).2))] = [V.bl (decide ((prAt ul i).1 = (prAt ul i).2))]
      congr 2
      exact decide_eq_decide.mpr ⟨fun z => by injection z, fun z => by rw [z]⟩
    rintro zs H6 hz6 ⟨rfl, rfl⟩ pa hpa
    rw [hP5.1, List.take_length]
    refine ⟨pa, _, rfl, SqL.of upd_same, _, rfl, ?_⟩
    have u7 := Same.upd (o := .lst ((ul.map fun r => decide (r.1 = r.2)).map V.bl)) hpa
    generalize upd H6 pa (.lst ((ul.map fun r => decide (r.1 = r.2)).map V.bl)) = H7 at u7
    have ea : (ul.map fun r => decide (r.1 = r.2)).any id = ul.any fun r => decide (r.1 = r.2) := by rw [List.any_map]; rfl
    rw [ea]
    cases hany : ul.any fun r => decide (r.1 = r.2) with
    | true =>
      rw [hany, if_pos rfl] at Q3
      exact iteT (Q3 H7 (S5.trans u7))
    | false =>
    rw [hany, if_neg (by decide)] at Q3
    have hneq : ∀ r ∈ ul, r.1 ≠ r.2 := fun r hr e => by
      have := (List.any_eq_true (p := fun r : Int × Int => decide (r.1 = r.2))).mpr ⟨r, hr, decide_eq_true e⟩
      rw [hany] at this
      cases this
    refine iteF ⟨(by show 0 ≤ sizeLine; decide), fun pt hpt => ?_⟩
    have S7 : Same H H7 := S5.trans u7
    have frt : H pt = none := S7.free hpt
    have u8 := Same.upd (o := .lst ([] : List V)) hpt
    have v8 : upd H7 pt (.lst []) pt = some (.lst (oneV [])) := upd_same
    have ntl : pt ≠ pl := (ne_of_none (u7 _ _ hpl5) hpt).symm
    have ntu : pt ≠ pu := (ne_of_none (u7 _ _ v5) hpt).symm
    generalize upd H7 pt (.lst []) = H8 at u8 v8
    have K8 : Same H6 H8 := u7.trans u8
    refine ⟨_, rfl, pl, _, rfl, K8 _ _ hpl5, for_enum (xs := lensV ls) (fun j σ H' => ∃ (w4 w5 : Option V), σ = [some (.ref p), some (.ref pl), some (.ref pu), some (.ref pt), w4, w5] ∧ H' pt = some (.lst (oneV (rowT ls ul j))) ∧ H' pl = some (.lst (lensV ls)) ∧ H' pu = some (.lst zu) ∧ PrsV H' zu ul ∧ Same H H') ⟨_, _, rfl, v8, K8 _ _ hpl5, K8 _ _ v5, hP5.same K8, S7.trans u8⟩ (fun j σ H' _ ⟨_, _, _, _, h, _⟩ => h) ?_ ?_⟩
    · rintro j x σ H9 T hx ⟨w4, w5, rfl, ht9, hpl9, hpu9, hP9, s9⟩ hT
      obtain ⟨k, hk, rfl⟩ := lensV_at hx
      have hjl : j < ls.length := (List.getElem?_eq_some_iff.mp hk).1
      have hkd : ls.getD j 0 = k := by rw [List.getD_eq_getElem?_getD, hk]; rfl
      have uT := Same.upd (o := .tup [V.int (j : Int), V.int (k : Int)]) hT
      have vT : upd H9 T (.tup [V.int (j : Int), V.int (k : Int)]) T = some (.tup [V.int (j : Int), V.int (k : Int)]) := upd_same
      generalize upd H9 T (.tup [V.int (j : Int), V.int (k : Int)]) = HA at uT vT
      have hrl := rowT_len ls ul j
      refine ⟨T, _, rfl, SqT.of vT, rfl, _, _, rfl, _, _, rfl, rfl, ?_⟩
      have htA := uT _ _ ht9
      refine ⟨_, rfl, .inl ⟨rfl, _, SqL.of htA⟩, ?_⟩
      refine ⟨_, rfl, _, rfl, _, _, rfl, rfl, _, rfl, ?_⟩
      have SA : Same H HA := s9.trans uT
      have fin : ∀ (HB : Hp) (c : Nat), Same HA HB → (if ls.getD j 0 < j then (rowT ls ul j).getD (ls.getD j 0) 0 else firstL (barr (rowT ls ul j) j ul)) = c → ∃ (w4' w5' : Option V), [some (V.ref p), some (V.ref pl), some (V.ref pu), some (V.ref pt), some (V.int (j : Int)), some (V.int (k : Int))] = [some (.ref p), some (.ref pl), some (.ref pu), some (.ref pt), w4', w5'] ∧ upd HB pt (.lst (oneV (rowT ls ul j) ++ [.str (tx [c])])) pt = some (.lst (oneV (rowT ls ul (j + 1)))) ∧ upd HB pt (.lst (oneV (rowT ls ul j) ++ [.str (tx [c])])) pl = some (.lst (lensV ls)) ∧ upd HB pt (.lst (oneV (rowT ls ul j) ++ [.str (tx [c])])) pu = some (.lst zu) ∧ PrsV (upd HB pt (.lst (oneV (rowT ls ul j) ++ [.str (tx [c])]))) zu ul ∧ Same H (upd HB pt (.lst (oneV (rowT ls ul j) ++ [.str (tx [c])]))) := fun HB c sB e => by
        refine ⟨_, _, rfl, ?_, by rw [upd_ne ntl.symm]; exact sB _ _ (uT _ _ hpl9), by rw [upd_ne ntu.symm]; exact sB _ _ (uT _ _ hpu9), PrsV.upd (hP9.same (uT.trans sB)) (sB _ _ htA), same_upd (SA.trans sB) frt⟩
        rw [upd_same]
        show _ = some (HO.lst (oneV (rowT ls ul j ++ [if ls.getD j 0 < j then (rowT ls ul j).getD (ls.getD j 0) 0 else firstL (barr (rowT ls ul j) j ul)])))
        rw [e, oneV_app]
        rfl
      by_cases c : k < j
      · refine ite_ya (decide_eq_true (show (k : Int) < (j : Int) by omega)) ⟨_, rfl, _, rfl, pt, _, _, _, rfl, rfl, SqL.of htA, one_atI (Int.natCast_nonneg _) (by omega), pt, _, _, rfl, rfl, htA, (by rw [oneV_len, sizeLine_eq]; omega), ?_⟩
        exact fin HA _ (Same.refl _) (by rw [hkd, if_pos c, Int.toNat_natCast])
      · refine ite_no (decide_eq_false (show ¬ (k : Int) < (j : Int) by omega)) ⟨_, rfl, _, rfl, _, rfl, pt, pu, rowT ls ul j, zu, ul, (by rw [hrl]; rfl), htA, uT _ _ hpu9, hP9.same uT, by omega, (fun r hr => ⟨(hInU r hr).1, (hInU r hr).2, hneq r hr⟩), by omega, fun HB sB => ⟨pt, _, _, rfl, rfl, sB _ _ htA, (by rw [oneV_len, sizeLine_eq]; omega), ?_⟩⟩
        exact fin HB _ sB (by rw [hkd, if_neg c, hrl])
    · rintro σ H9 ⟨w4, w5, rfl, ht9, hpl9, hpu9, hP9, s9⟩
      rw [lensV_len, hl1] at ht9
      rw [e_nil]
      have hrl := rowT_len ls ul sg
      refine ⟨rfl, _, rfl, pt, (rowT ls ul sg).map one1, rfl, rfl, (by rw [ones_V]; exact SqL.of ht9), (by rw [ones_sum]; omega), ?_⟩
      rw [ones_flat]
      exact Q3 H9 s9
end
end Mr

namespace Mr
open PySem L2
section
variable {P : Program} {w : World} {K : PySem.W.Frag} {mg : Str → Option Value} {base : Heap}
theorem scHo : FnScope ["_law_row_here", "_law_found", "_law_place", "_law_later"] ["_law_row_here", "_law_found"] (defScope s_law_holds) := ⟨rfl, rfl, rfl, by decide +kernel, rfl, by decide +kernel, by decide +kernel⟩
set_option maxHeartbeats 8000000 in
theorem ok_holds76 (a : At K mg "_law_holds" s_law_holds ["_law_row_here", "_law_found"]) (d_alike_places : Df P w K mg base 5 "alike_places" ["reaches"] (spPrs fun ks s => alT ks ks.length)) (d_unlike_places : Df P w K mg base 5 "unlike_places" ["reaches"] (spPrs fun ks s => unT ks s ks.length))  : Df P w K mg base 6 "_law_holds" ["_law_row_here", "_law_found"] spHolds := by
  refine a.df fun f fd F => ?_
  refine F.ok scHo (fun vs H Q E h => ?_) (fun cdv A outer s H vs Q E hr h => ?_)
  · obtain ⟨_, _, _, _, rfl, _⟩ := h
    rfl
  · obtain ⟨p, ks, r, sg, rfl, hp, hF, hs, hrl, q⟩ := h
    refine ⟨_, (pss_cons (ps_for PassesOwn.never rfl (pi_list (pe_df d_alike_places hr rfl (pa_cons (pv 1) pa_nil))) (pg_tup rfl (pgs_cons (pg_name (i := 2) scHo.nd rfl (Or.inl rfl)) (pgs_cons (pg_name (i := 3) scHo.nd rfl (Or.inl rfl)) pgs_nil))) (pss_one (ps_if (pt_cmpR op_ne (pe_ix ix_strS (pv 0) (pv 2) (fun _ _ => rfl)) (pe_ix ix_strS (pv 0) (pv 3) (fun _ _ => rfl)) (nomark _)) (pss_one (ps_ret pe_bl)) pss_nil)))
      (pss_one (ps_ret (pe_cmpR (op_eqNil hr.units0) (pe_comp (ys := ["_law_row_here"]) (ix := [0]) ⟨rfl, by decide +kernel, rfl, by decide +kernel, rfl, by decide +kernel, ⟨rfl, trivial⟩, rfl, ⟨⟨rfl, rfl, rfl, rfl⟩, trivial⟩⟩ rfl (pi_list (pe_df d_unlike_places hr rfl (pa_cons (pv 1) pa_nil))) (fun C fp s H => (pts_one (pt_cmpR op_eq (pe_ix ix_strS (pv 1) (pe_ix (ix_tupK (K := K) rfl) (pv 0) pe_int (fun _ _ => rfl)) (fun _ _ => rfl)) (pe_ix ix_strS (pv 1) (pe_ix (ix_tupK (K := K) rfl) (pv 0) pe_int (fun _ _ => rfl)) (fun _ _ => rfl)) (nomark _)))) (fun C fp s H => (pv 0))) (pe_lst pa_nil) (nomark _))))), ?_⟩
    refine ⟨_, rfl, p, ks, sg, rfl, hp, hF, hs, fun la ya qs H1 a1 a2 hPa hfa hla s1 => ?_⟩
    have ea := al_law hF a1 a2
    have hiff := hold_iff hF hrl
    have hIa : InP sg qs := by rw [ea]; exact law_in
    rw [← ea] at hiff
    have hz : r.length ≤ sizeLine := by rw [sizeLine_eq]; omega
    have rat : ∀ i : Int, 0 ≤ i → i < (sg : Int) → atI r i = some (r.getD i.toNat 0) := fun i h0 h1 => by
      obtain ⟨n, rfl⟩ := Int.eq_ofNat_of_zero_le h0
      rw [Int.toNat_natCast]
      refine atI_nat ?_
      rw [List.getD_eq_getElem?_getD, List.getElem?_eq_getElem (show n < r.length by omega)]
      rfl
    have one_tx : ∀ {a b : Nat}, V.str (tx [a]) = V.str (tx [b]) → a = b := fun z => by
      have := v_tx.mp z
      injection this
    refine ⟨la, rfl, ⟨_, SqL.of hla⟩, for_list (K := K) (a := la) (xs := ya) (fun j σ H' => (∃ (w2 w3 : Option V), σ = [some (.str (tx r)), some (.ref p), w2, w3]) ∧ H' = H1 ∧ ∀ i, i < j → ∀ x, qs[i]? = some x → r.getD x.1.toNat 0 = r.getD x.2.toNat 0) ⟨⟨_, _, rfl⟩, rfl, fun i hi => absurd hi (Nat.not_lt_zero _)⟩ (fun j σ H' _ ⟨_, e, _⟩ => by rw [e]; exact SqL.of hla) ?_ ?_⟩
    · rintro j x σ H2 hx ⟨⟨w2, w3, rfl⟩, rfl, hno⟩
      obtain ⟨pq, rfl, hjq, hpq⟩ := PrsV.at hPa hx
      have hin := hIa _ (prAt_mem hjq)
      have hj := pr_get hjq
      have hmem := prAt_mem hjq
      generalize prAt qs j = qq at hpq hin hj hmem
      refine ⟨pq, _, rfl, SqT.of hpq, rfl, _, _, rfl, _, _, rfl, rfl, ?_⟩
      refine ⟨_, rfl, _, rfl, r, _, _, rfl, rfl, hz, rat qq.1 hin.1 (by omega), _, rfl, _, rfl, r, _, _, rfl, rfl, hz, rat qq.2 (by omega) hin.2.2, rfl, _, rfl, ?_⟩
      by_cases c : r.getD qq.1.toNat 0 = r.getD qq.2.toNat 0
      · refine ite_no (by show (!decide (V.str (tx [r.getD qq.1.toNat 0]) = V.str (tx [r.getD qq.2.toNat 0]))) = false; rw [decide_eq_true (by rw [c])]; rfl) ⟨⟨_, _, rfl⟩, rfl, fun i hi y hy => ?_⟩
        by_cases e : i = j
        · subst e
          rw [hj] at hy
          rw [← Option.some.inj hy]
          exact c
        · exact hno i (by omega) y hy
      · refine ite_ya (by show (!decide (V.str (tx [r.getD qq.1.toNat 0]) = V.str (tx [r.getD qq.2.toNat 0]))) = true; rw [decide_eq_false (fun z => c (one_tx z))]; rfl) ?_
        · exact q false H2 ⟨fun z => (by cases z), fun z => absurd ((hiff.mp z).1 qq hmem) c⟩ s1
    rintro σ H2 ⟨⟨w2, w3, rfl⟩, rfl, hno⟩
    rw [hPa.1] at hno
    have hal : ∀ x ∈ qs, r.getD x.1.toNat 0 = r.getD x.2.toNat 0 := fun x hx => by
      obtain ⟨i, hi⟩ := List.getElem?_of_mem hx
      exact hno i (List.getElem?_eq_some_iff.mp hi).1 x hi
    refine ⟨_, rfl, p, ks, sg, rfl, s1 _ _ hp, hF, hs, fun lu yu us H3 b1 b2 hPu hfu hlu s3 => ?_⟩
    have eu := un_law hF b1 b2
    have hIu : InP sg us := by rw [eu]; exact law_in
    rw [← eu] at hiff
    have hul : us.length ≤ 1000 := by
      have h1 := lawT_len (f := fUn ks) (s := sg) sg
      have h2 : sg * sg ≤ 16 * 16 := Nat.mul_le_mul hs hs
      rw [← eu] at h1
      omega
    refine ⟨lu, rfl, ⟨_, SqL.of hlu⟩, comp_list (K := K) (a := lu) (xs := yu) (by rw [hPu.1, sizeLine_eq]; omega) (fun i zs H' => H' = H3 ∧ (zs = [] ↔ ∀ j, j < i → ∀ x, us[j]? = some x → r.getD x.1.toNat 0 ≠ r.getD x.2.toNat 0)) ⟨rfl, ⟨fun _ j hj => absurd hj (Nat.not_lt_zero _), fun _ => rfl⟩⟩ (fun i zs H' ⟨e, _⟩ => by rw [e]; exact SqL.of hlu) ?_ ?_⟩
    · rintro i x zs H4 N hx hzz ⟨rfl, hno2⟩ hN
      obtain ⟨pq, rfl, hjq, hpq⟩ := PrsV.at hPu hx
      have hin := hIu _ (prAt_mem hjq)
      have hj := pr_get hjq
      generalize prAt us i = qq at hpq hin hj
      refine ⟨_, rfl, _, rfl, pq, _, _, _, rfl, rfl, SqT.of hpq, rfl, r, _, _, rfl, rfl, hz, rat qq.1 hin.1 (by omega), _, rfl, _, rfl, pq, _, _, _, rfl, rfl, SqT.of hpq, rfl, r, _, _, rfl, rfl, hz, rat qq.2 (by omega) hin.2.2, rfl, _, rfl, ?_⟩
      by_cases c : r.getD qq.1.toNat 0 = r.getD qq.2.toNat 0
      · refine ite_ya (decide_eq_true (by rw [c])) ⟨_, rfl, hN _ _ (by rw [List.length_append]; exact Nat.succ_le_succ hzz) ⟨rfl, ⟨fun z => ?_, fun z => absurd c (z i (Nat.lt_succ_self _) qq hj)⟩⟩⟩
        exact absurd z (by simp)
      · refine ite_no (decide_eq_false fun z => c ?_) (hN _ _ (Nat.le_succ_of_le hzz) ⟨rfl, ⟨fun z j hj2 y hy => ?_, fun z => hno2.mpr fun j hj2 y hy => z j (by omega) y hy⟩⟩)
        · exact one_tx z
        · by_cases e : j = i
          · subst e
            rw [hj] at hy
            rw [← Option.some.inj hy]
            exact c
          · exact hno2.mp z j (by omega) y hy
    rintro zs H4 hzz ⟨rfl, hno2⟩ pz hpz
    rw [hPu.1] at hno2
    refine ⟨(by show 0 ≤ sizeLine; decide), fun pe hpe => ⟨pz, pe, zs, rfl, rfl, ?_, upd_same, q _ _ ?_ (s1.trans (s3.trans ((Same.upd hpz).trans (Same.upd hpe))))⟩⟩
    · exact Same.upd hpe _ _ upd_same
    · show zs.isEmpty = true ↔ _
      rw [hiff, List.isEmpty_iff, hno2]
      refine ⟨fun z => ⟨hal, fun x hx => ?_⟩, fun z j hj x hx => z.2 x (List.mem_of_getElem? hx)⟩
      obtain ⟨i, hi⟩ := List.getElem?_of_mem hx
      exact z i (List.getElem?_eq_some_iff.mp hi).1 x hi
end
end Mr

namespace Mr
open PySem L2
section
variable {P : Program} {w : World} {K : PySem.W.Frag} {mg : Str → Option Value} {base : Heap}
theorem scLaw : FnScope ["_law_script", "_law_k", "_law_box_here", "_law_row_here", "_law_found", "_law_told", "_law_other", "_law_drawn"] ["_law_script"] (defScope sLaw) := ⟨rfl, rfl, rfl, by decide +kernel, rfl, by decide +kernel, by decide +kernel⟩
set_option maxHeartbeats 8000000 in
theorem ok_law {f : Addr} {fd : FuncData} (F : Fun K "law" "law" sLaw f fd) (d_law_box : Df P w K mg base 2 "_law_box" ["_law_script", "_law_k"] (spBoxI K)) (d_law_row : Df P w K mg base 3 "_law_row" ["_law_box_here", "_law_most"] spRowI) (d_reaches : Df P w K mg base 3 "reaches" ["row"] (spLens reachesN)) (d_row_for : Df P w K mg base 6 "row_for" ["reaches"] spRowFor) (d_are_reaches : Df P w K mg base 4 "are_reaches" ["thing", "row"] spAreL) (d_law_holds : Df P w K mg base 6 "_law_holds" ["_law_row_here", "_law_found"] spHolds) (d_law_take : Df P w K mg base 1 "_law_take" ["_law_box_here", "_law_many"] spTakeI) (z_len : mg "len" = none) (z_max : mg "max" = none) (z_min : mg "min" = none) (z_range : mg "range" = none)  : FnOk P w K mg base CX0 9 f fd ["_law_script"] (spLaw K) := by
  refine F.ok scLaw (fun vs H Q E h => ?_) (fun cdv A outer s H vs Q E hr h => ?_)
  · obtain ⟨_, _, rfl, _⟩ := h
    rfl
  · obtain ⟨a, ns, rfl, hS, hlen, q⟩ := h
    refine ⟨_, (pss_cons (ps_for PassesOwn.never rfl (pi_range1 rfl z_range (pa_cons (pe_callB (call_max2 rfl) (by rfl) z_max bt_max (pa_cons pe_int (pa_cons (pe_callB (call_min2 rfl) (by rfl) z_min bt_min (pa_cons (pe_callB call_len_seq (by rfl) z_len bt_len (pa_cons (pv 0) pa_nil)) (pa_cons pe_int pa_nil))) pa_nil))) pa_nil)) (pg_name (i := 1) scLaw.nd rfl (Or.inl rfl)) (pss_cons (ps_set (i := 2) scLaw.nd rfl (Or.inr rfl) (pe_df d_law_box hr rfl (pa_cons (pv 0) (pa_cons (pv 1) pa_nil))))
      (pss_cons (ps_set (i := 3) scLaw.nd rfl (Or.inl rfl) (pe_df d_law_row hr rfl (pa_cons (pv 2) (pa_cons pe_int pa_nil))))
      (pss_cons (ps_set (i := 4) scLaw.nd rfl (Or.inl rfl) (pe_df d_reaches hr rfl (pa_cons (pv 3) pa_nil)))
      (pss_cons (ps_set (i := 5) scLaw.nd rfl (Or.inl rfl) (pe_df d_row_for hr rfl (pa_cons (pv 4) pa_nil)))
      (pss_cons (ps_if (PW.pt (pw_or (pt_cmpR op_isN (pv 5) pe_non (nomark _)) (pw_or (pt_cmpR op_gtS (pv 5) (pv 3) (nomark _)) (pw_or (pt_cmpR (op_neL hr.units0) (pe_df d_reaches hr rfl (pa_cons (pv 5) pa_nil)) (pv 4) (nomark _)) (pw_or1 (pt_cmpR op_isnotB (pe_df d_are_reaches hr rfl (pa_cons (pv 4) (pa_cons (pv 5) pa_nil))) pe_bl (nomark _))))))) (pss_one (ps_ret pe_bl)) pss_nil)
      (pss_cons (ps_set (i := 6) scLaw.nd rfl (Or.inl rfl) (pe_bm PySem.F.plainAttrs_str PySem.F.slot_str_join PySem.F.type_str_join mt_joinS pe_str (pa_cons (pe_comp (ys := []) (ix := []) ⟨rfl, by decide +kernel, rfl, by decide +kernel, rfl, by decide +kernel, trivial, rfl, trivial⟩ rfl (pi_str (pv 3)) (fun C fp s H => pts_nil) (fun C fp s H => (pe_ix ix_strS pe_str (pe_bmK (K := K) rfl PySem.F.plainAttrs_str PySem.F.slot_str_index PySem.F.type_str_index mt_indexC pe_str (pa_cons (pv 0) pa_nil)) (fun _ _ => rfl)))) pa_nil)))
      (pss_cons (ps_if (PW.pt (pw_or (pt_cmpR op_ne (pe_df d_row_for hr rfl (pa_cons (pe_df d_reaches hr rfl (pa_cons (pv 6) pa_nil)) pa_nil)) (pv 5) (nomark _)) (pw_or (pt_cmpR op_ne (pe_df d_row_for hr rfl (pa_cons (pe_df d_reaches hr rfl (pa_cons (pv 5) pa_nil)) pa_nil)) (pv 5) (nomark _)) (pw_or1 (pt_cmpR (op_neL hr.units0) (pe_df d_reaches hr rfl (pa_cons (pe_rev (pv 3) (pe_un un_neg pe_int)) pa_nil)) (pe_revL (pv 4) (pe_un un_neg pe_int)) (nomark _)))))) (pss_one (ps_ret pe_bl)) pss_nil)
      (pss_cons (ps_if (PW.pt (pw_or (pt_not (pt_val (pe_df d_law_holds hr rfl (pa_cons (pv 3) (pa_cons (pv 4) pa_nil))))) (pw_or1 (pt_not (pt_val (pe_df d_law_holds hr rfl (pa_cons (pv 5) (pa_cons (pv 4) pa_nil)))))))) (pss_one (ps_ret pe_bl)) pss_nil)
      (pss_cons (ps_set (i := 7) scLaw.nd rfl (Or.inl rfl) (pe_bm PySem.F.plainAttrs_str PySem.F.slot_str_join PySem.F.type_str_join mt_joinS pe_str (pa_cons (pe_comp (ys := ["_law_box_here"]) (ix := [2]) ⟨rfl, by decide +kernel, rfl, by decide +kernel, rfl, by decide +kernel, ⟨rfl, trivial⟩, rfl, ⟨⟨rfl, rfl, rfl, rfl⟩, trivial⟩⟩ rfl (pi_str (pv 3)) (fun C fp s H => pts_nil) (fun C fp s H => (pe_ix ix_strS pe_str (pe_df (X := cmpCx _ _ _ _ C fp s H) d_law_take hr rfl (pa_cons (pv 1) (pa_cons pe_int pa_nil))) (fun _ _ => rfl)))) pa_nil)))
      (pss_one (ps_if (pt_cmpR op_ne (pe_df d_law_holds hr rfl (pa_cons (pv 7) (pa_cons (pv 4) pa_nil))) (pe_cmpR (op_eqL hr.units0) (pe_df d_reaches hr rfl (pa_cons (pv 7) pa_nil)) (pv 4) (nomark _)) (nomark _)) (pss_one (ps_ret pe_bl)) pss_nil))))))))))))
      (pss_one (ps_ret pe_bl))), ?_⟩
    refine ⟨_, rfl, a, _, rfl, .inl hS, _, _, rfl, _, _, rfl, _, rfl, ?_, ?_, ?_⟩
    · split <;> split <;> omega
    · split <;> split <;> omega
    refine for_range (fun i σ H' => ∃ (v1 v2 v3 v4 v5 v6 v7 : Option V), σ = [some (.ref a), v1, v2, v3, v4, v5, v6, v7] ∧ Same H H') ⟨none, none, none, none, none, none, none, rfl, Same.refl _⟩ ?_ ?_
    rotate_left
    · rintro σ H' ⟨v1, v2, v3, v4, v5, v6, v7, rfl, s0⟩
      exact q H'
    rintro i σ H0 hi ⟨v1, v2, v3, v4, v5, v6, v7, rfl, s0⟩
    refine ⟨_, rfl, _, rfl, a, ns, _, rfl, s0.seq hS, by omega, fun b n H1 hfr hb s1 => ?_⟩
    have fr : H b = none := s0.free hfr
    refine ⟨_, rfl, b, n, 16, rfl, hb, by decide, by decide, fun m n2 H2 hA hml hb2 k2 => ?_⟩
    have S2 : Same H H2 := same_but (s0.trans s1) fr k2
    have hrow : rowL m = true := rowL_iff.mpr ⟨by omega, hA.lets⟩
    refine ⟨_, rfl, m, rfl, hrow, fun pr H3 hfr3 hpr s3 => ?_⟩
    have hF := form_of m
    obtain ⟨t, et, htl, htr, htlt, htc⟩ := told_row (r := m) (by omega) fun c hc => mem_lets.mpr (hA.lets c hc)
    have tt : textV (some t) = V.str (tx t) := rfl
    have hrt : rowL t = true := rowL_iff.mpr ⟨by omega, fun c hc => mem_lets.mp (htc c hc)⟩
    refine ⟨_, rfl, pr, reachesN m, m.length, rfl, hpr, hF, by omega, fun qa ua H4 a1 a2 b1 b2 s4 => ?_⟩
    rw [row_is hF a1 a2 b1 b2, et, tt]
    have w4 := s4 _ _ hpr
    have heq : ∀ l : List Nat, (!eqVs (lensV l) (lensV l)) = false := fun l => by rw [eqVs_lens.mpr rfl]; rfl
    refine ⟨_, rfl, rfl, _, rfl, iteF ⟨_, rfl, _, rfl, t, m, rfl, rfl, _, rfl, ite_no (decide_eq_false htlt) ⟨_, rfl, t, rfl, hrt, fun p5 H5 hf5 hp5 s5 => ?_⟩⟩⟩
    rw [htr] at hp5
    have w5 := s5 _ _ w4
    refine ⟨_, rfl, p5, pr, _, _, rfl, rfl, SqL.of hp5, SqL.of w5, lensV_flat _, lensV_flat _, _, rfl, ite_no (heq _) ?_⟩
    refine ⟨_, rfl, _, rfl, pr, lensV (reachesN m), t, rfl, hrt, w5, lensV_scal, fun H6 s6 => ?_⟩
    rw [htr, decide_eq_true rfl]
    refine ⟨_, _, rfl, rfl, _, rfl, iteF ?_⟩
    have hz : m.length ≤ sizeLine := by rw [sizeLine_eq]; omega
    have w6 := s6 _ _ w5
    refine ⟨rfl, _, rfl, m, rfl, comp_str (l := m) hz (fun i zs H' => H' = H6 ∧ zs = oneV ((m.take i).map othC)) ⟨rfl, rfl⟩ ?_ ?_⟩
    · rintro i c zs H7 N hc hzz ⟨rfl, rfl⟩ hN
      obtain ⟨ix, ho, hx⟩ := oth_at (hA c (List.mem_of_getElem? hc))
      refine yes_ok (iteT ⟨rfl, _, rfl, _, c, ix, [], congrArg V.str e_zabc, rfl, ho, _, _, othC c, congrArg V.str e_qbw, rfl, (by rw [sizeLine_eq]; decide), atI_nat hx, hN _ _ (by rw [List.length_append]; exact Nat.succ_le_succ hzz) ⟨rfl, ?_⟩⟩)
      rw [List.take_succ, hc, List.map_append, oneV_app]
      rfl
    rintro zs H7 hzz ⟨rfl, rfl⟩ pz hpz
    rw [List.take_length]
    have u7 := Same.upd (o := .lst (oneV (m.map othC))) hpz
    have v7 : upd H7 pz (.lst (oneV (m.map othC))) pz = some (.lst (oneV (m.map othC))) := upd_same
    generalize upd H7 pz (.lst (oneV (m.map othC))) = H8 at u7 v7
    refine ⟨pz, (m.map othC).map one1, congrArg V.str e_nil, rfl, (by rw [ones_V]; exact SqL.of v7), (by rw [ones_sum, List.length_map]; exact hz), ?_⟩
    rw [ones_flat]
    have w8 := u7 _ _ w6
    have hor := oth_reaches hA
    refine ⟨_, rfl, m.map othC, rfl, oth_row hA (by omega), fun po H9 hfo hpo s9 => ?_⟩
    rw [hor] at hpo
    refine ⟨po, reachesN m, m.length, rfl, hpo, hF, by omega, fun qb ub H10 c1 c2 d1 d2 s10 => ?_⟩
    rw [row_is hF c1 c2 d1 d2, et, tt]
    have hsame : (!decide (V.str (tx t) = V.str (tx t))) = false := by rw [decide_eq_true rfl]; rfl
    refine ⟨_, rfl, rfl, _, rfl, ite_no hsame ?_⟩
    refine ⟨_, rfl, t, rfl, hrt, fun pb H11 hfb hpb s11 => ?_⟩
    rw [htr] at hpb
    refine ⟨pb, reachesN m, m.length, rfl, hpb, hF, by omega, fun qc uc H12 e1 e2 f1 f2 s12 => ?_⟩
    rw [row_is hF e1 e2 f1 f2, et, tt]
    refine ⟨_, rfl, rfl, _, rfl, ite_no hsame ?_⟩
    have w12 := s12 _ _ (s11 _ _ (s10 _ _ (s9 _ _ w8)))
    refine ⟨_, rfl, _, rfl, m, rfl, rfl, hz, m.reverse, rfl, rowL_iff.mpr ⟨by rw [List.length_reverse]; omega, hA.rev.lets⟩, fun pc H13 hfc hpc s13 => ?_⟩
    rw [reaches_rev] at hpc
    have w13 := s13 _ _ w12
    refine ⟨_, rfl, _, rfl, pr, _, rfl, rfl, SqL.of w13, fun pd hpd => ?_⟩
    have hrv : (lensV (reachesN m)).reverse = lensV (reachesN m).reverse := by unfold lensV; rw [List.map_reverse]
    rw [hrv]
    have u14 := Same.upd (o := .lst (lensV (reachesN m).reverse)) hpd
    have v14 : upd H13 pd (.lst (lensV (reachesN m).reverse)) pd = some (.lst (lensV (reachesN m).reverse)) := upd_same
    generalize upd H13 pd (.lst (lensV (reachesN m).reverse)) = H14 at u14 v14
    refine ⟨pc, pd, _, _, rfl, rfl, SqL.of (u14 _ _ hpc), SqL.of v14, lensV_flat _, lensV_flat _, _, rfl, ite_no (heq _) ?_⟩
    have w14 := u14 _ _ w13
    refine ⟨_, rfl, _, rfl, pr, reachesN m, m, m.length, rfl, w14, hF, by omega, rfl, fun bb H15 hb15 s15 => ?_⟩
    rw [hb15.mpr rfl]
    refine ⟨_, rfl, iteF ⟨_, rfl, _, rfl, pr, reachesN m, t, m.length, rfl, s15 _ _ w14, hF, by omega, htl, fun cc H16 hb16 s16 => ?_⟩⟩
    rw [hb16.mpr htr]
    refine ⟨_, rfl, iteF ?_⟩
    have w16 := s16 _ _ (s15 _ _ w14)
    have sB : Same H2 H16 := s3.trans (s4.trans (s5.trans (s6.trans (u7.trans (s9.trans (s10.trans (s11.trans (s12.trans (s13.trans (u14.trans (s15.trans s16)))))))))))
    have hb16 := sB _ _ hb2
    have S16 : Same H H16 := S2.trans sB
    have hprb : pr ≠ b := fun z => by rw [z, hb2] at hfr3; cases hfr3
    refine ⟨rfl, _, rfl, m, rfl, comp_str (l := m) hz (fun i zs H' => ∃ (d : List Nat) (n' : Int), d.length = i ∧ (∀ c ∈ d, c = 97 ∨ c = 98) ∧ zs = oneV d ∧ H' b = some (.lst [.int n']) ∧ H' pr = some (.lst (lensV (reachesN m))) ∧ Same H H') ⟨[], _, rfl, (fun c hc => by cases hc), rfl, hb16, w16, S16⟩ ?_ ?_⟩
    · rintro i c zs H17 N hc hzz ⟨d, n', hd, hd2, rfl, hbb, hpp, sS⟩ hN
      refine yes_ok (iteT ⟨_, rfl, b, n', 2, rfl, hbb, by decide, by decide, fun dg n18 H18 hg hg' hb18 k18 => ?_⟩)
      have hdg : ∃ e : Nat, (e = 97 ∨ e = 98) ∧ atI [97, 98] dg = some e := by
        have : dg = 0 ∨ dg = 1 := by omega
        rcases this with rfl | rfl
        · exact ⟨97, .inl rfl, rfl⟩
        · exact ⟨98, .inr rfl, rfl⟩
      obtain ⟨e, he, hat⟩ := hdg
      refine ⟨[97, 98], _, e, congrArg V.str e_ab76, rfl, (by rw [sizeLine_eq]; decide), hat, hN _ _ (by rw [List.length_append]; exact Nat.succ_le_succ hzz) ⟨d ++ [e], n18, by rw [List.length_append, hd]; rfl, fun c hc => ?_, by rw [oneV_app]; rfl, hb18, k18 _ _ hpp hprb, same_but sS fr k18⟩⟩
      rcases List.mem_append.mp hc with h | h
      · exact hd2 c h
      · rw [List.mem_singleton.mp h]; exact he
    rintro zs H17 hzz ⟨d, n', hd, hd2, rfl, hbb, hpp, sS⟩ px hpx
    have u18 := Same.upd (o := .lst (oneV d)) hpx
    have v18 : upd H17 px (.lst (oneV d)) px = some (.lst (oneV d)) := upd_same
    generalize upd H17 px (.lst (oneV d)) = H18 at u18 v18
    refine ⟨px, d.map one1, congrArg V.str e_nil, rfl, (by rw [ones_V]; exact SqL.of v18), (by rw [ones_sum, hd]; exact hz), ?_⟩
    rw [ones_flat]
    have hrd : rowL d = true := rowL_iff.mpr ⟨by omega, fun c hc => by have := hd2 c hc; omega⟩
    have w18 := u18 _ _ hpp
    refine ⟨_, rfl, _, rfl, pr, reachesN m, d, m.length, rfl, w18, hF, by omega, hd, fun bb H19 hb19 s19 => ⟨_, rfl, d, rfl, hrd, fun pe H20 hfe hpe s20 => ?_⟩⟩
    have w20 := s20 _ _ (s19 _ _ w18)
    refine ⟨_, rfl, pe, pr, _, _, rfl, rfl, SqL.of hpe, SqL.of w20, lensV_flat _, lensV_flat _, rfl, _, rfl, ?_⟩
    have hbe : bb = eqVs (lensV (reachesN d)) (lensV (reachesN m)) := by
      rw [Bool.eq_iff_iff, hb19, eqVs_lens]
    rw [← hbe]
    exact ite_no (by show (!decide (V.bl bb = V.bl bb)) = false; rw [decide_eq_true rfl]; rfl) ⟨_, _, _, _, _, _, _, rfl, sS.trans (u18.trans (s19.trans s20))⟩
end
end Mr

namespace PySem.W.Fast
def tw10344710171311557549 : Unit := ()
def tw12550601059498970541 : Unit := ()
def tw6381502676787794694 : Unit := ()
def tw4464334898747776365 : Unit := ()
def tw15003116629190604092 : Unit := ()
def tw11256394910806825934 : Unit := ()
def tw1756768654180473781 : Unit := ()
def tw12525624870337396187 : Unit := ()
def tw1192800738941519771 : Unit := ()
def tw870295474039435766 : Unit := ()
def tw15938710907541625702 : Unit := ()
def tw3898378504226080182 : Unit := ()
def tw8400368056246852602 : Unit := ()
def tw5713257638505097104 : Unit := ()
def tw11735201706967001044 : Unit := ()
def tw4819309109854047360 : Unit := ()
def tw1515736313256054496 : Unit := ()
def tw4300414692056984506 : Unit := ()
def tw13158587508181936356 : Unit := ()
def tw14777387827739257543 : Unit := ()
def tw10264268222331298361 : Unit := ()
def tw11577387929197301417 : Unit := ()
def tw10282587771371282398 : Unit := ()
def tw12044728821604107539 : Unit := ()
def tw17939040640414908495 : Unit := ()
def tw4012883140031329649 : Unit := ()
def tw13543348406921194259 : Unit := ()
def tw18127261277592361843 : Unit := ()
def tw516798485711562336 : Unit := ()
def tw16409537702991607744 : Unit := ()
def tw10836943077351703240 : Unit := ()
def tw5132076417086920432 : Unit := ()
def tw1497362811659315662 : Unit := ()
def tw13129539851852319820 : Unit := ()
def tw4660383896769195160 : Unit := ()
def tw10320579668186001241 : Unit := ()
def tw5776568324178076436 : Unit := ()
def tw2515348439630018267 : Unit := ()
def tw12287953449416853469 : Unit := ()
def tw9370760527846633469 : Unit := ()
def tw2463955052925004037 : Unit := ()
def tw1790683955206934058 : Unit := ()
def tw15382130049942981539 : Unit := ()
def tw7920050091155109696 : Unit := ()
def tw11266736217374124466 : Unit := ()
def tw15793663909958665213 : Unit := ()
def tw3849936338253500924 : Unit := ()
def tw7189709917640960128 : Unit := ()
def tw11168440430382087409 : Unit := ()
def tw14382459004435399746 : Unit := ()
def tw13381962149648698348 : Unit := ()
def tw15433499960545810315 : Unit := ()
def tw7030520019514501056 : Unit := ()
def tw9013181463456651512 : Unit := ()
def tw13206337437585804214 : Unit := ()
def tw7455200365079613231 : Unit := ()
def tw10598831675528843025 : Unit := ()
def tw15894225716039584145 : Unit := ()
def tw15178287677376778935 : Unit := ()
def tw469968735566225744 : Unit := ()
def tw17874184616909030205 : Unit := ()
def tw18203707124927927309 : Unit := ()
def tw16515468611024986192 : Unit := ()
def tw675578276675110775 : Unit := ()
def tw9096703120283368571 : Unit := ()
def tw1102899014569087797 : Unit := ()
def tw5138306763955894199 : Unit := ()
def tw16490507913938782817 : Unit := ()
def tw11829069866118425684 : Unit := ()
def tw6027173806739892962 : Unit := ()
def tw4595011720172280098 : Unit := ()
def tw14448513312046377542 : Unit := ()
def tw17242691225587037291 : Unit := ()
def tw3249893716884519374 : Unit := ()
def tw5327798617342560906 : Unit := ()
def tw12725302437493257414 : Unit := ()
def tw7387133071843351250 : Unit := ()
def tw71886979916790395 : Unit := ()
def tw6687912688988771695 : Unit := ()
def tw3128308203620683184 : Unit := ()
def tw11078752827354623612 : Unit := ()
def tw9665181033285236058 : Unit := ()
def tw17973278884951905573 : Unit := ()
def tw2834075217275825306 : Unit := ()
def tw5267232663942812653 : Unit := ()
def tw17692844894657595098 : Unit := ()
def tw1345615407399986954 : Unit := ()
def tw18289501781359211466 : Unit := ()
def tw10598379967117751750 : Unit := ()
def tw16778885049715959093 : Unit := ()
def tw17637684998660895891 : Unit := ()
def tw10961509951077671776 : Unit := ()
def tw3606259313444202288 : Unit := ()
def tw6323870144730864557 : Unit := ()
def tw14537117152637810203 : Unit := ()
def tw12405369367184605625 : Unit := ()
def tw3158924028460284277 : Unit := ()
def tw12480817759830105150 : Unit := ()
def tw6931787957127609561 : Unit := ()
def tw3939059153467096059 : Unit := ()
def tw11556103406811684006 : Unit := ()
def tw10564113785647479101 : Unit := ()
def tw6702771839803044718 : Unit := ()
def tw15225204657550800220 : Unit := ()
def tw16208553317159858775 : Unit := ()
def tw3712450550594786525 : Unit := ()
def tw1724410123917522172 : Unit := ()
def tw15646624974924240799 : Unit := ()
def tw8116696421602237016 : Unit := ()
def tw13323551099826840277 : Unit := ()
def tw11746510546314815140 : Unit := ()
def tw9624377813103180211 : Unit := ()
def tw13843240104246662304 : Unit := ()
def tw8368594339005484490 : Unit := ()
def tw1157054627577071399 : Unit := ()
def tw698818451079416677 : Unit := ()
def tw18073415310430999186 : Unit := ()
def tw15495253700723849548 : Unit := ()
def tw10387185557386835645 : Unit := ()
def tw12159498997137460857 : Unit := ()
def tw2399389264481326390 : Unit := ()
def tw1629867829903979838 : Unit := ()
def tw4739133425736437589 : Unit := ()
def tw15477038568102683326 : Unit := ()
def tw7097948813363218877 : Unit := ()
def tw6176548489339637430 : Unit := ()
def tw3028167550481825946 : Unit := ()
def tw13245430367378056834 : Unit := ()
def tw12892518590679029663 : Unit := ()
def tw5563949838194739838 : Unit := ()
def tw13604820779421683158 : Unit := ()
def tw7385615586873433318 : Unit := ()
def tw1152427057883835069 : Unit := ()
def tw10008824538777366513 : Unit := ()
def tw10338666315527791216 : Unit := ()
def tw10764462627207506072 : Unit := ()
def tw12533196937567656667 : Unit := ()
def tw10340001059087294523 : Unit := ()
def tw10684759224175692022 : Unit := ()
def tw15614156088039913372 : Unit := ()
def tw6091113295221614056 : Unit := ()
def tw1149389491294936462 : Unit := ()
def tw11165029960328003753 : Unit := ()
def tw15858646487816377775 : Unit := ()
def tw11933781497944562926 : Unit := ()
def tw2674229868149204171 : Unit := ()
def tw11545525889144656211 : Unit := ()
def tw18055407900085638257 : Unit := ()
def tw14243995676801003013 : Unit := ()
def tw5331325457930314768 : Unit := ()
def tw12713660718888527368 : Unit := ()
def tw14967995103369743503 : Unit := ()
def tw5126652739009774652 : Unit := ()
def tw6889251112440172742 : Unit := ()
def tw6815796843480190384 : Unit := ()
def tw11088570827028423379 : Unit := ()
def tw11036818273732437755 : Unit := ()
def tw17394278975519449765 : Unit := ()
def tw2294017342364516150 : Unit := ()
def tw17922389649856156536 : Unit := ()
def tw17071175210087528623 : Unit := ()
def tw4305292046755651435 : Unit := ()
def tw1041342274976929791 : Unit := ()
def tw15877894729378619684 : Unit := ()
def tw3566761164624658568 : Unit := ()
def tw14639026124797853545 : Unit := ()
def tw14484332728784546701 : Unit := ()
def tw4767170799989127560 : Unit := ()
end PySem.W.Fast
namespace Mr
open PySem L2
theorem all_mk {l : PySem.W.OpenLaw} {w : World} {K : PySem.W.Frag} {mg : Str → Option Value} {fa : Addr} {tM : Tok} {tL : Tok} {tMI : Tok} (hfa : mg "law" = some (.ref fa))
    (a_is_whole : At K mg "is_whole" sWhole ["thing"])
    (a_is_same_number : At K mg "is_same_number" s_is_same_number ["thing", "number"])
    (a_is_row : At K mg "is_row" sIsRow ["thing"])
    (a_need_row : At K mg "need_row" sNeedRow ["thing"])
    (a_are_form : At K mg "are_form" s_are_form ["thing"])
    (a_fits : At K mg "fits" s_fits ["length", "middle", "middles"])
    (a_need_form : At K mg "need_form" s_need_form ["thing"])
    (a_signs_many : At K mg "signs_many" s_signs_many ["reaches"])
    (a_alike_places : At K mg "alike_places" s_alike_places ["reaches"])
    (a_unlike_places : At K mg "unlike_places" s_unlike_places ["reaches"])
    (a_leaders_of : At K mg "leaders_of" s_leaders_of ["alike", "many"])
    (a_row_for : At K mg "row_for" s_row_for ["reaches"])
    (a_first_letter : At K mg "first_letter" s_first_letter ["told", "place", "unlike"])
    (a_reaches : At K mg "reaches" s_reaches ["row"])
    (a_reach_around : At K mg "reach_around" s_reach_around ["row", "middle"])
    (a_are_reaches : At K mg "are_reaches" s_are_reaches ["thing", "row"])
    (a_law_box : At K mg "_law_box" sBox ["_law_script", "_law_k"])
    (a_law_take : At K mg "_law_take" sTake ["_law_box_here", "_law_many"])
    (a_law_row : At K mg "_law_row" sRow ["_law_box_here", "_law_most"])
    (a_law_holds : At K mg "_law_holds" s_law_holds ["_law_row_here", "_law_found"])
    (a_law : At K mg "law" sLaw ["_law_script"])
    (hM : mg "MOST_SIGNS" = some (.int 200 tM))
    (hL : mg "LETTERS" = some (.str (tx lets) tL))
    (hMI : mg "MOST_MIDDLES" = some (.int 119 tMI))
    (z_len : mg "len" = none)
    (z_range : mg "range" = none)
    (z_divmod : mg "divmod" = none)
    (z_isinstance : mg "isinstance" = none)
    (z_bool : mg "bool" = none)
    (z_str : mg "str" = none)
    (z_all : mg "all" = none)
    (z_max : mg "max" = none)
    (z_min : mg "min" = none)
    (z_int : mg "int" = none)
    (z_list : mg "list" = none)
    (z_sorted : mg "sorted" = none)
    (z_zip : mg "zip" = none)
    (z_enumerate : mg "enumerate" = none)
    (z_any : mg "any" = none)
    : ∃ fd : FuncData, (∀ (s : Shared) (v : Value), BindsTo s fd ⟨[v], []⟩ [("_law_script", v)]) ∧ ∀ base : Heap, K.In base → base.Ns mainGlobals mg → FnOk l.prog w K mg base CX0 9 fa fd ["_law_script"] (spLaw K) := by
  obtain ⟨f, fd, F, hm, hb⟩ := a_law.ex
  have e := hfa.symm.trans hm
  cases e
  refine ⟨fd, fun s v => .of_eq (hb [v] rfl), fun base _ _ => ?_⟩
  have dIR := ok_isrow (P := l.prog) (w := w) (base := base) a_is_row z_isinstance z_str z_len z_all hM hL
  have dN := ok_need a_need_row dIR
  have dWh := ok_whole (P := l.prog) (w := w) (base := base) a_is_whole z_isinstance z_int z_bool
  have d_ra := ok_reach_around (P := l.prog) (w := w) (base := base) a_reach_around z_len
  have d_reaches := ok_reaches a_reaches dN d_ra z_len z_range
  have d_same := ok_same a_is_same_number dWh
  have d_are := ok_are_reaches a_are_reaches d_reaches d_same z_all z_isinstance z_len z_list z_zip
  have dTake := ok_take4 (P := l.prog) (w := w) (base := base) a_law_take z_divmod
  have dBox := ok_box4 (P := l.prog) (w := w) (base := base) a_law_box z_len z_range
  have dRow := ok_row4 a_law_row dTake z_len z_range
  have dWG := ok_wholeg (P := l.prog) (w := w) (base := base) a_is_whole z_isinstance z_int z_bool
  have d_fits := ok_fits a_fits dWG z_min
  have d_af := ok_are_form a_are_form d_fits z_all z_enumerate z_isinstance z_len z_list hMI
  have dNF := ok_needf a_need_form d_af
  have d_sm := ok_signs (P := l.prog) (w := w) (base := base) a_signs_many z_len
  have d_al := ok_alike a_alike_places dNF z_enumerate z_range z_sorted
  have d_un := ok_unlike a_unlike_places dNF d_sm z_enumerate z_sorted
  have d_ld := ok_leaders (P := l.prog) (w := w) (base := base) a_leaders_of z_list z_max z_min z_range
  have d_fl := ok_first (P := l.prog) (w := w) (base := base) a_first_letter z_max z_min hL
  have d_rf := ok_rowfor a_row_for d_ld d_sm d_al d_un d_fl z_any z_enumerate
  have dHo := ok_holds76 a_law_holds d_al d_un
  exact ok_law F dBox dRow d_reaches d_rf d_are dHo dTake z_len z_max z_min z_range
theorem walk {l : PySem.W.OpenLaw} {q : Program} {loose : List Str} {XP : (Str → Option Value) → Heap → Prop} {YP : World → Heap → Prop} {d : DefRec} {K : Params → PySem.W.Frag} (hn : l.most = some 63) (hdf : d.params.defaults = [])
    (hY : ∀ (w : World) (h : Heap), YP w h → (K w.params).In h)
    (F : ∀ (w : World) (mg : Str → Option Value) (fa : Addr) (h : Heap), (K w.params).In h → h.Ns mainGlobals mg → mg d.name = some (.ref fa) →
      ∃ fd : FuncData, (∀ (s : Shared) (u : Value), BindsTo s fd ⟨[u], []⟩ [("_law_script", u)]) ∧ ∀ base : Heap, (K w.params).In base → base.Ns mainGlobals mg → FnOk l.prog w (K w.params) mg base CX0 9 fa fd ["_law_script"] (spLaw (K w.params))) :
    PySem.W.WalkO q loose XP YP l.row.toRowW d [] (fun f vs => PySem.call f vs) :=
  L2.walk_of (n := 63) (k := 9) (x := "_law_script") (CX := fun _ => CX0) (sp := fun w => spLaw (K w.params)) hn (by decide) hdf ⟨rfl, by decide, by decide⟩ hY F (fun _ _ a ns hl _ hS => ⟨a, ns, rfl, hS, hl, fun _ => rfl⟩) fun _ _ _ _ _ z => z
theorem us1 {us : List Value} (hl : us.length = 1) : ∃ x0, us = [x0] := by
  rcases us with _ | ⟨x0, _ | ⟨w, t⟩⟩
  all_goals first
    | exact ⟨_, rfl⟩
    | cases hl
theorem us2 {us : List Value} (hl : us.length = 2) : ∃ x0 x1, us = [x0, x1] := by
  rcases us with _ | ⟨x0, _ | ⟨x1, _ | ⟨w, t⟩⟩⟩
  all_goals first
    | exact ⟨_, _, rfl⟩
    | cases hl
theorem us3 {us : List Value} (hl : us.length = 3) : ∃ x0 x1 x2, us = [x0, x1, x2] := by
  rcases us with _ | ⟨x0, _ | ⟨x1, _ | ⟨x2, _ | ⟨w, t⟩⟩⟩⟩
  all_goals first
    | exact ⟨_, _, _, rfl⟩
    | cases hl
end Mr
open PySem PySem.W PyProof.Rows
set_option maxRecDepth 100000 in
set_option maxHeartbeats 0 in
theorem PySem.Challenge.cw_mirrorruns_k76_whole_rows_and_reaches_holds : PySem.Challenge.rw_mirrorruns_k76_whole_rows_and_reaches.Holds := by
  w_on; o_law; k_head; (case hw => w_witness2)
  k_fill
  refine Mr.walk (l := PySem.Challenge.rw_mirrorruns_k76_whole_rows_and_reaches) rfl rfl (fun w h Y => PySem.W.kIn_of Y) ?F
  case F =>
    intro w mg fa h KX G hmg
    refine' Mr.all_mk hmg ?a_is_whole ?a_is_same_number ?a_is_row ?a_need_row ?a_are_form ?a_fits ?a_need_form ?a_signs_many ?a_alike_places ?a_unlike_places ?a_leaders_of ?a_row_for ?a_first_letter ?a_reaches ?a_reach_around ?a_are_reaches ?a_law_box ?a_law_take ?a_law_row ?a_law_holds ?a_law ?hM ?hL ?hMI ?z_len ?z_range ?z_divmod ?z_isinstance ?z_bool ?z_str ?z_all ?z_max ?z_min ?z_int ?z_list ?z_sorted ?z_zip ?z_enumerate ?z_any
    (case a_is_whole => refine' L2.At.mk' KX G ?a ?l ?c ?k (fun _ _ _ _ _ _ us hl => by obtain ⟨x0, rfl⟩ := Mr.us1 hl; rfl); (case a => k_is); (case l => k_is); (case c => k_is); (case k => k_is))
    (case a_is_same_number => refine' L2.At.mk' KX G ?a ?l ?c ?k (fun _ _ _ _ _ _ us hl => by obtain ⟨x0, x1, rfl⟩ := Mr.us2 hl; rfl); (case a => k_is); (case l => k_is); (case c => k_is); (case k => k_is))
    (case a_is_row => refine' L2.At.mk' KX G ?a ?l ?c ?k (fun _ _ _ _ _ _ us hl => by obtain ⟨x0, rfl⟩ := Mr.us1 hl; rfl); (case a => k_is); (case l => k_is); (case c => k_is); (case k => k_is))
    (case a_need_row => refine' L2.At.mk' KX G ?a ?l ?c ?k (fun _ _ _ _ _ _ us hl => by obtain ⟨x0, rfl⟩ := Mr.us1 hl; rfl); (case a => k_is); (case l => k_is); (case c => k_is); (case k => k_is))
    (case a_are_form => refine' L2.At.mk' KX G ?a ?l ?c ?k (fun _ _ _ _ _ _ us hl => by obtain ⟨x0, rfl⟩ := Mr.us1 hl; rfl); (case a => k_is); (case l => k_is); (case c => k_is); (case k => k_is))
    (case a_fits => refine' L2.At.mk' KX G ?a ?l ?c ?k (fun _ _ _ _ _ _ us hl => by obtain ⟨x0, x1, x2, rfl⟩ := Mr.us3 hl; rfl); (case a => k_is); (case l => k_is); (case c => k_is); (case k => k_is))
    (case a_need_form => refine' L2.At.mk' KX G ?a ?l ?c ?k (fun _ _ _ _ _ _ us hl => by obtain ⟨x0, rfl⟩ := Mr.us1 hl; rfl); (case a => k_is); (case l => k_is); (case c => k_is); (case k => k_is))
    (case a_signs_many => refine' L2.At.mk' KX G ?a ?l ?c ?k (fun _ _ _ _ _ _ us hl => by obtain ⟨x0, rfl⟩ := Mr.us1 hl; rfl); (case a => k_is); (case l => k_is); (case c => k_is); (case k => k_is))
    (case a_alike_places => refine' L2.At.mk' KX G ?a ?l ?c ?k (fun _ _ _ _ _ _ us hl => by obtain ⟨x0, rfl⟩ := Mr.us1 hl; rfl); (case a => k_is); (case l => k_is); (case c => k_is); (case k => k_is))
    (case a_unlike_places => refine' L2.At.mk' KX G ?a ?l ?c ?k (fun _ _ _ _ _ _ us hl => by obtain ⟨x0, rfl⟩ := Mr.us1 hl; rfl); (case a => k_is); (case l => k_is); (case c => k_is); (case k => k_is))
    (case a_leaders_of => refine' L2.At.mk' KX G ?a ?l ?c ?k (fun _ _ _ _ _ _ us hl => by obtain ⟨x0, x1, rfl⟩ := Mr.us2 hl; rfl); (case a => k_is); (case l => k_is); (case c => k_is); (case k => k_is))
    (case a_row_for => refine' L2.At.mk' KX G ?a ?l ?c ?k (fun _ _ _ _ _ _ us hl => by obtain ⟨x0, rfl⟩ := Mr.us1 hl; rfl); (case a => k_is); (case l => k_is); (case c => k_is); (case k => k_is))
    (case a_first_letter => refine' L2.At.mk' KX G ?a ?l ?c ?k (fun _ _ _ _ _ _ us hl => by obtain ⟨x0, x1, x2, rfl⟩ := Mr.us3 hl; rfl); (case a => k_is); (case l => k_is); (case c => k_is); (case k => k_is))
    (case a_reaches => refine' L2.At.mk' KX G ?a ?l ?c ?k (fun _ _ _ _ _ _ us hl => by obtain ⟨x0, rfl⟩ := Mr.us1 hl; rfl); (case a => k_is); (case l => k_is); (case c => k_is); (case k => k_is))
    (case a_reach_around => refine' L2.At.mk' KX G ?a ?l ?c ?k (fun _ _ _ _ _ _ us hl => by obtain ⟨x0, x1, rfl⟩ := Mr.us2 hl; rfl); (case a => k_is); (case l => k_is); (case c => k_is); (case k => k_is))
    (case a_are_reaches => refine' L2.At.mk' KX G ?a ?l ?c ?k (fun _ _ _ _ _ _ us hl => by obtain ⟨x0, x1, rfl⟩ := Mr.us2 hl; rfl); (case a => k_is); (case l => k_is); (case c => k_is); (case k => k_is))
    (case a_law_box => refine' L2.At.mk' KX G ?a ?l ?c ?k (fun _ _ _ _ _ _ us hl => by obtain ⟨x0, x1, rfl⟩ := Mr.us2 hl; rfl); (case a => k_is); (case l => k_is); (case c => k_is); (case k => k_is))
    (case a_law_take => refine' L2.At.mk' KX G ?a ?l ?c ?k (fun _ _ _ _ _ _ us hl => by obtain ⟨x0, x1, rfl⟩ := Mr.us2 hl; rfl); (case a => k_is); (case l => k_is); (case c => k_is); (case k => k_is))
    (case a_law_row => refine' L2.At.mk' KX G ?a ?l ?c ?k (fun _ _ _ _ _ _ us hl => by obtain ⟨x0, x1, rfl⟩ := Mr.us2 hl; rfl); (case a => k_is); (case l => k_is); (case c => k_is); (case k => k_is))
    (case a_law_holds => refine' L2.At.mk' KX G ?a ?l ?c ?k (fun _ _ _ _ _ _ us hl => by obtain ⟨x0, x1, rfl⟩ := Mr.us2 hl; rfl); (case a => k_is); (case l => k_is); (case c => k_is); (case k => k_is))
    (case a_law => refine' L2.At.mk' KX G ?a ?l ?c ?k (fun _ _ _ _ _ _ us hl => by obtain ⟨x0, rfl⟩ := Mr.us1 hl; rfl); (case a => k_is); (case l => k_is); (case c => k_is); (case k => k_is))
    (case hM => exact PySem.W.mg_of KX G (by k_is))
    (case hL => exact (PySem.W.mg_of KX G (by k_is)).trans (congrArg (fun z => some (Value.str z _)) Mr.e_lets))
    (case hMI => exact PySem.W.mg_of KX G (by k_is))
    (case z_len => exact PySem.W.mg_none_of KX G (by k_is))
    (case z_range => exact PySem.W.mg_none_of KX G (by k_is))
    (case z_divmod => exact PySem.W.mg_none_of KX G (by k_is))
    (case z_isinstance => exact PySem.W.mg_none_of KX G (by k_is))
    (case z_bool => exact PySem.W.mg_none_of KX G (by k_is))
    (case z_str => exact PySem.W.mg_none_of KX G (by k_is))
    (case z_all => exact PySem.W.mg_none_of KX G (by k_is))
    (case z_max => exact PySem.W.mg_none_of KX G (by k_is))
    (case z_min => exact PySem.W.mg_none_of KX G (by k_is))
    (case z_int => exact PySem.W.mg_none_of KX G (by k_is))
    (case z_list => exact PySem.W.mg_none_of KX G (by k_is))
    (case z_sorted => exact PySem.W.mg_none_of KX G (by k_is))
    (case z_zip => exact PySem.W.mg_none_of KX G (by k_is))
    (case z_enumerate => exact PySem.W.mg_none_of KX G (by k_is))
    (case z_any => exact PySem.W.mg_none_of KX G (by k_is))
