import PyProof.Rows.All
import Wide.All
import OpenK.AllK
import Wide.FinOn
import Lean
import PyProof.EqAt
import PyProof.EqKinds
import PyProof.TupleCall
import PySem.Challenge.RW_mirrorruns_k54_mend_tables
set_option Elab.async false
set_option linter.all false
set_option maxRecDepth 100000
namespace L2
open PySem PySem.Spec PyProof.Rows
abbrev Key := Sum Int Str
def keyIs : Key → Value → Bool
  | .inl k, v => Value.isInt k v
  | .inr x, v => Value.isStrOf x v
def keyH (w : World) : Key → Int
  | .inl k => hashInt k
  | .inr x => hashStr w x
theorem keyIs_shape : ∀ {k : Key} {v : Value}, keyIs k v = true → (∃ i t, k = Sum.inl i ∧ v = Value.int i t) ∨ (∃ x t, k = Sum.inr x ∧ v = Value.str x t)
  | .inl i, v, h => by
    obtain ⟨t, e⟩ := Value.isInt_shape (k := i) (v := v) h
    exact .inl ⟨i, t, rfl, e⟩
  | .inr x, v, h => by
    obtain ⟨t, e⟩ := Value.isStrOf_shape (x := x) (v := v) h
    exact .inr ⟨x, t, rfl, e⟩
theorem keyIs_int (i : Int) (t : Tok) : keyIs (.inl i) (.int i t) = true := by simp [keyIs, Value.isInt]
theorem keyIs_str (x : Str) (t : Tok) : keyIs (.inr x) (.str x t) = true := by simp [keyIs, Value.isStrOf]
theorem key_ll (a b : Int) : decide ((Sum.inl a : Key) = Sum.inl b) = (a == b) := by
  by_cases e : a = b
  · subst e; simp
  · have h : ¬ (Sum.inl a : Key) = Sum.inl b := fun q => e (Sum.inl.inj q)
    rw [decide_eq_false h]
    exact (beq_eq_false_iff_ne.mpr e).symm
theorem key_rr (a b : Str) : decide ((Sum.inr a : Key) = Sum.inr b) = decide (a = b) := by
  by_cases e : a = b
  · subst e; simp
  · have h : ¬ (Sum.inr a : Key) = Sum.inr b := fun q => e (Sum.inr.inj q)
    rw [decide_eq_false h, decide_eq_false e]
theorem key_lr (a : Int) (b : Str) : decide ((Sum.inl a : Key) = Sum.inr b) = false := decide_eq_false (fun q => nomatch q)
theorem key_rl (a : Str) (b : Int) : decide ((Sum.inr a : Key) = Sum.inl b) = false := decide_eq_false (fun q => nomatch q)
def mixKind (prog : Program) (w : World) : PySem.KeyKind prog w Key where
  is := keyIs
  hash := keyH w
  inj := fun v a b ha hb => by
    rcases keyIs_shape ha with ⟨i, t, rfl, rfl⟩ | ⟨x, t, rfl, rfl⟩
    · rcases keyIs_shape hb with ⟨j, u, rfl, e⟩ | ⟨y, u, rfl, e⟩
      · injection e with e1 _; rw [e1]
      · exact nomatch e
    · rcases keyIs_shape hb with ⟨j, u, rfl, e⟩ | ⟨y, u, rfl, e⟩
      · exact nomatch e
      · injection e with e1 _; rw [e1]
  byValue := fun k v h => by
    rcases keyIs_shape h with ⟨i, t, rfl, rfl⟩ | ⟨x, t, rfl, rfl⟩ <;> rfl
  pyHash := fun hv h => by
    rcases keyIs_shape hv with ⟨i, t, rfl, rfl⟩ | ⟨x, t, rfl, rfl⟩
    · exact wpAny_pyHash_int h
    · exact wpAny_pyHash_str h
  eqBool := fun hu hv h => by
    rcases keyIs_shape hu with ⟨i, t, rfl, rfl⟩ | ⟨x, t, rfl, rfl⟩
    · rcases keyIs_shape hv with ⟨j, u, rfl, rfl⟩ | ⟨y, u, rfl, rfl⟩
      · rw [key_ll] at h; exact wpAny_eqBool_int h
      · rw [key_lr] at h; exact SeqAt.EqAt.int_str i t y u _ _ _ _ h
    · rcases keyIs_shape hv with ⟨j, u, rfl, rfl⟩ | ⟨y, u, rfl, rfl⟩
      · rw [key_rl] at h; exact SeqAt.EqAt.str_int x t j u _ _ _ _ h
      · rw [key_rr] at h; exact wpAny_eqBool_str h
  «strs» := fun k x t v h => by
    rcases keyIs_shape h with ⟨i, u, rfl, e⟩ | ⟨y, u, rfl, e⟩
    · exact nomatch e
    · injection e with e1 _
      subst e1
      cases v <;> rfl
theorem mixKind_is (prog : Program) (w : World) (k : Key) (v : Value) : (mixKind prog w).is k v = keyIs k v := rfl
theorem mixKind_int (prog : Program) (w : World) (i : Int) (t : Tok) : (mixKind prog w).is (.inl i) (.int i t) = true := keyIs_int i t
theorem mixKind_str (prog : Program) (w : World) (x : Str) (t : Tok) : (mixKind prog w).is (.inr x) (.str x t) = true := keyIs_str x t
end L2
namespace L2
open PySem PySem.Spec PyProof.Rows
inductive V where
  | non | bl (b : Bool) | int (i : Int) | str (x : Str) | byt (b : Array UInt8) | flt (b : UInt64) | ref (a : Addr) | ty (n : String)
  deriving DecidableEq
def RelV : V → Value → Prop
  | .non, u => u = Value.none
  | .bl b, u => u = Value.bool b
  | .int i, u => ∃ t, u = Value.int i t
  | .str x, u => ∃ t, u = Value.str x t
  | .byt b, u => ∃ t, u = Value.bytes b t
  | .flt b, u => ∃ t, u = Value.float b t
  | .ref a, u => u = Value.ref a
  | .ty n, u => u = Value.type n
abbrev Vals : List V → List Value → Prop := Paired RelV
theorem Vals.length {xs : List V} {us : List Value} (r : Vals xs us) : xs.length = us.length := Paired.length r
theorem Vals.get : ∀ {xs : List V} {us : List Value} {i : Nat} {x : V}, Vals xs us → xs[i]? = some x → ∃ u, us[i]? = some u ∧ RelV x u
  | _, _, _, _, .nil, e => by simp at e
  | _, _, 0, _, .cons r _, e => by simp at e; subst e; exact ⟨_, rfl, r⟩
  | _, _, i + 1, x, .cons _ t, e => by
    obtain ⟨u, h1, h2⟩ := Vals.get (i := i) (x := x) t (by simpa using e)
    exact ⟨u, by simpa using h1, h2⟩
theorem Vals.set {x : V} {u : Value} (r : RelV x u) : ∀ {xs : List V} {us : List Value} (i : Nat), Vals xs us → Vals (xs.set i x) (us.set i u)
  | _, _, _, .nil => .nil
  | _, _, 0, .cons _ t => .cons r t
  | _, _, i + 1, .cons q t => .cons q (Vals.set r i t)
theorem Vals.append : ∀ {xs ys : List V} {us ws : List Value}, Vals xs us → Vals ys ws → Vals (xs ++ ys) (us ++ ws)
  | _, _, _, _, .nil, s => s
  | _, _, _, _, .cons r t, s => .cons r (Vals.append t s)
def RelO : Option V → Option Value → Prop
  | some v, some u => RelV v u
  | none, none => True
  | _, _ => False
def KV {κ : Type} : List (κ × V) → List (κ × Value) → Prop := Paired fun (p : κ × V) (q : κ × Value) => p.1 = q.1 ∧ RelV p.2 q.2
def kV : Key → V
  | .inl i => .int i
  | .inr x => .str x
inductive HO where
  | lst (xs : List V)
  | tup (xs : List V)
  | dK (kvs : List (Key × V)) | dT (kvs : List (List Key × V))
  | set (S : Int → Bool) (n : Nat)
  | ins (C dx : Addr) (fs : List (Str × V))
  | own (x : Addr)
  | xd (fs : List (Str × V))
  | met (f x : Addr)
  | rng (lo hi : Int)
  | frz (o : Obj) (u : HO)
  | tbl (ps : Array Value)
  | ext (φ : Heap → Prop)
abbrev Hp := Addr → Option HO
def upd (H : Hp) (a : Addr) (o : HO) : Hp := fun b => if b = a then some o else H b
theorem upd_same {H : Hp} {a : Addr} {o : HO} : upd H a o a = some o := by unfold upd; rw [if_pos rfl]
theorem upd_ne {H : Hp} {a b : Addr} {o : HO} (h : b ≠ a) : upd H a o b = H b := by unfold upd; rw [if_neg h]
theorem upd_upd {H : Hp} {a : Addr} {o u : HO} : upd (upd H a o) a u = upd H a u := by
  funext b; unfold upd; split <;> rfl
theorem ne_of {H : Hp} {a b : Addr} {o u : HO} (h : H a = some o) (h' : H b = some u) (d : o ≠ u) : a ≠ b := by
  intro e; subst e; rw [h] at h'; exact d (Option.some.inj h')
theorem ne_of_none {H : Hp} {a b : Addr} {o : HO} (h : H a = some o) (h' : H b = none) : a ≠ b := by
  intro e; subst e; rw [h] at h'; cases h'
section
variable (P : Program) (w : World)
def ObjOk (H : Hp) (h : Heap) (a : Addr) : HO → Prop
  | .lst xs => xs.length ≤ sizeLine ∧ ∃ (its : List Value) (n : Nat), Vals xs its ∧ h.get? a = some { cls := .type "list", data := .seq its.toArray n }
  | .tup xs => xs.length ≤ sizeLine ∧ ∃ its : List Value, Vals xs its ∧ IsTup h a its.toArray
  | .dK kvs => kvs.length ≤ sizeLine ∧ (a == sysModules) = false ∧ ∃ vs, KV kvs vs ∧ h.DictOf (mixKind P w) a vs
  | .dT kvs => kvs.length ≤ sizeLine ∧ (a == sysModules) = false ∧ ∃ xs : List (List Key × Addr × Value),
      Paired (fun (p : List Key × V) (q : List Key × Addr × Value) => p.1 = q.1 ∧ H q.2.1 = some (.tup (p.1.map kV)) ∧ RelV p.2 q.2.2) kvs xs ∧
      ∃ o es ep, h.get? a = some o ∧ o.ExactDict ∧ o.data = .dict es ep ∧ es.toList = xs.map (entryOfKey (tupleKind (mixKind P w))) ∧ (xs.map (·.1)).Nodup
  | .set S n => h.SetOf (intKind P w) a S n
  | .ins C dx fs => H dx = some (.own a) ∧ fs.length ≤ 1000 ∧ dx ≠ a ∧ h.get? a = some (PySem.W.instObj C dx) ∧
      ∃ mA, h.Ns1 dx mA ∧ (∀ f, RelO (fs.lookup f) (mA f)) ∧ PySem.Within mA (fs.map (·.1))
  | .own _ => ∃ o, h.get? a = some o
  | .xd fs => ∃ mA, h.Ns1 a mA ∧ ∀ f, RelO (fs.lookup f) (mA f)
  | .rng lo hi => ∃ t u v, h.get? a = some { cls := .type "range", data := .fields #[.int lo t, .int hi u, .int 1 v] }
  | .frz o u => h.get? a = some o ∧ ObjOk H h a u
  | .tbl ps => h.get? a = some { cls := .none, data := .fields ps }
  | .met f x => h.get? a = some (PySem.W.methodObj (.ref f) (.ref x))
  | .ext φ => φ h ∧ (∃ o, h.get? a = some o) ∧ ∀ h1 h2 : Heap, φ h1 → (∀ o, h1.get? a = some o → h2.get? a = some o) → φ h2
def HOk (H : Hp) (h : Heap) : Prop := ∀ a o, H a = some o → ObjOk P w H h a o
end
section
variable {P : Program} {w : World} {H H' : Hp} {h h' : Heap} {a : Addr} {o : HO}
theorem ObjOk.lt (x : ObjOk P w H h a o) : a < h.objs.size := by
  cases o with
  | lst xs => obtain ⟨_, _, _, _, e⟩ := x; exact Heap.lt_size e
  | tup xs => obtain ⟨_, _, _, p⟩ := x; exact p.lt
  | dK kvs => obtain ⟨_, _, _, _, o, _, _, e, _⟩ := x; exact Heap.lt_size e
  | dT kvs => obtain ⟨_, _, _, _, o, _, _, e, _⟩ := x; exact Heap.lt_size e
  | set S n => obtain ⟨o, _, _, _, e, _⟩ := x; exact Heap.lt_size e
  | ins C dx fs => obtain ⟨_, _, _, e, _⟩ := x; exact Heap.lt_size e
  | own y => obtain ⟨_, e⟩ := x; exact Heap.lt_size e
  | xd fs => obtain ⟨_, ⟨_, _, _, e, _⟩, _⟩ := x; exact Heap.lt_size e
  | rng lo hi => obtain ⟨_, _, _, e⟩ := x; exact Heap.lt_size e
  | frz ob u => obtain ⟨e, _⟩ := x; exact Heap.lt_size e
  | tbl ps => exact Heap.lt_size (show h.get? a = some _ from x)
  | met f y => exact Heap.lt_size (show h.get? a = some _ from x)
  | ext φ => obtain ⟨_, ⟨_, e⟩, _⟩ := x; exact Heap.lt_size e
theorem Paired.mapP {α β : Type} {F G : α → β → Prop} : ∀ {l₁ : List α} {l₂ : List β}, Paired F l₁ l₂ → (∀ a b, F a b → G a b) → Paired G l₁ l₂
  | _, _, .nil, _ => .nil
  | _, _, .cons r t, f => .cons (f _ _ r) (Paired.mapP t f)
theorem ObjOk.stay (x : ObjOk P w H h a o) (k : ∀ b u, (b = a ∨ H b = some (.own a)) → h.get? b = some u → h'.get? b = some u)
    (ho : ∀ b, H b = some (.own a) → H' b = some (.own a)) (ht : ∀ b xs, H b = some (.tup xs) → H' b = some (.tup xs)) : ObjOk P w H' h' a o := by
  induction o with
  | lst xs => obtain ⟨z, its, n, r, e⟩ := x; exact ⟨z, its, n, r, k _ _ (.inl rfl) e⟩
  | tup xs => obtain ⟨z, its, r, ob, e, c⟩ := x; exact ⟨z, its, r, ob, k _ _ (.inl rfl) e, c⟩
  | dK kvs => obtain ⟨z, y, vs, r, ob, es, ep, e, c⟩ := x; exact ⟨z, y, vs, r, ob, es, ep, k _ _ (.inl rfl) e, c⟩
  | dT kvs =>
    obtain ⟨z, y, xs, r, ob, es, ep, e, c⟩ := x
    exact ⟨z, y, xs, Paired.mapP r fun p q z => ⟨z.1, ht _ _ z.2.1, z.2.2⟩, ob, es, ep, k _ _ (.inl rfl) e, c⟩
  | set S n => obtain ⟨ob, es, ep, t, e, c⟩ := x; exact ⟨ob, es, ep, t, k _ _ (.inl rfl) e, c⟩
  | ins C dx fs =>
    obtain ⟨d, z, ne, e, mA, ⟨od, es, ep, e2, c⟩, r⟩ := x
    exact ⟨ho _ d, z, ne, k _ _ (.inl rfl) e, mA, ⟨od, es, ep, k _ _ (.inr d) e2, c⟩, r⟩
  | own y => obtain ⟨ob, e⟩ := x; exact ⟨ob, k _ _ (.inl rfl) e⟩
  | xd fs => obtain ⟨mA, ⟨od, es, ep, e, c⟩, r⟩ := x; exact ⟨mA, ⟨od, es, ep, k _ _ (.inl rfl) e, c⟩, r⟩
  | rng lo hi => obtain ⟨t, u, v, e⟩ := x; exact ⟨t, u, v, k _ _ (.inl rfl) e⟩
  | frz ob u ih => obtain ⟨e, q⟩ := x; exact ⟨k _ _ (.inl rfl) e, ih q⟩
  | tbl ps =>
    have e : h.get? a = some { cls := .none, data := .fields ps } := x
    show h'.get? a = some { cls := .none, data := .fields ps }
    exact k a _ (.inl rfl) e
  | met f y =>
    have e : h.get? a = some (PySem.W.methodObj (.ref f) (.ref y)) := x
    show h'.get? a = some (PySem.W.methodObj (.ref f) (.ref y))
    exact k a _ (.inl rfl) e
  | ext φ => obtain ⟨p, ⟨o, e⟩, st⟩ := x; exact ⟨st _ _ p fun o q => k _ _ (.inl rfl) q, ⟨o, k _ _ (.inl rfl) e⟩, st⟩
theorem HOk.lt (x : HOk P w H h) (e : H a = some o) : a < h.objs.size := (x a o e).lt
theorem HOk.fresh (x : HOk P w H h) (e : h.objs.size ≤ a) : H a = none := by
  cases q : H a with
  | none => rfl
  | some u => exact absurd (Nat.lt_of_lt_of_le (x.lt q) e) (Nat.lt_irrefl _)
theorem HOk.kept (x : HOk P w H h) (k : ∀ b u, h.get? b = some u → h'.get? b = some u) : HOk P w H h' := fun a o e =>
  (x a o e).stay (fun b u _ q => k b u q) (fun _ q => q) fun _ _ q => q
theorem HOk.laid (x : HOk P w H h) (k : ∀ b u, h.get? b = some u → h'.get? b = some u) (hp : h.objs.size ≤ a) (new : ObjOk P w (upd H a o) h' a o) : HOk P w (upd H a o) h' := fun b u e => by
  have hn := x.fresh hp
  by_cases hb : b = a
  · subst hb; rw [upd_same] at e; cases e; exact new
  · rw [upd_ne hb] at e
    exact (x b u e).stay (fun c v _ q => k c v q) (fun c q => by rw [upd_ne (ne_of_none q hn)]; exact q) fun c xs q => by rw [upd_ne (ne_of_none q hn)]; exact q
end
def Rd (H : Hp) (a : Addr) (u : HO) : Prop := H a = some u ∨ ∃ o, H a = some (.frz o u)
theorem Rd.ok {P : Program} {w : World} {H : Hp} {h : Heap} {a : Addr} {u : HO} (r : Rd H a u) (x : HOk P w H h) : ObjOk P w H h a u := by
  rcases r with r | ⟨o, r⟩
  · exact x a u r
  · obtain ⟨_, q⟩ := x a _ r
    exact q
def Mut : Option HO → Prop
  | some (.lst _) => True
  | some (.dK _) => True
  | some (.dT _) => True
  | some (.set _ _) => True
  | some (.ins _ _ _) => True
  | some (.ext _) => True
  | _ => False
section
variable {P : Program} {w : World} {H : Hp} {h h' : Heap} {x e : Addr} {o' : HO}
theorem HOk.write (ok : HOk P w H h) (mu : Mut (H x)) (he : e = x ∨ H e = some (.own x)) (k : ∀ b u, b ≠ e → h.get? b = some u → h'.get? b = some u) (heo : ∃ u, h'.get? e = some u)
    (new : ObjOk P w (upd H x o') h' x o') : HOk P w (upd H x o') h' := fun b u q => by
  have nown : ∀ c y, H c = some (.own y) → c ≠ x := fun c y r z => by subst z; rw [r] at mu; exact mu
  have ntup : ∀ c xs, H c = some (.tup xs) → c ≠ x := fun c xs r z => by subst z; rw [r] at mu; exact mu
  by_cases hb : b = x
  · subst hb; rw [upd_same] at q; cases q; exact new
  · rw [upd_ne hb] at q
    by_cases hbe : b = e
    · have q' : H b = some (.own x) := by
        rcases he with z | z
        · exact absurd (hbe.trans z) hb
        · rw [hbe]; exact z
      rw [q] at q'; cases q'
      obtain ⟨v, hv⟩ := heo
      exact ⟨v, by rw [hbe]; exact hv⟩
    · refine (ok b u q).stay (fun c v hc r => k c v ?_ r) (fun c r => by rw [upd_ne (nown c b r)]; exact r) fun c xs r => by rw [upd_ne (ntup c xs r)]; exact r
      rcases hc with rfl | hc
      · exact hbe
      · rintro rfl
        rcases he with z | z
        · exact nown c b hc z
        · rw [hc] at z; cases z; exact hb rfl
end
structure Un (fs ex : List Addr) (H H' : Hp) (h h' : Heap) : Prop where
  keep : ∀ b o, h.get? b = some o → H b = none → b ∉ fs → b ∉ ex → h'.get? b = some o
  slot : ∀ b o, h.get? b = some o → H b = none → b ∈ fs → b ∉ ex → ∃ sl, h'.get? b = some { o with slots := sl }
  free : ∀ b o, h.get? b = some o → H b = none → b ∉ ex → H' b = none
  there : ∀ b o, h.get? b = some o → b ∉ ex → ∃ o', h'.get? b = some o'
  tups : ∀ b xs, H b = some (.tup xs) → H' b = some (.tup xs)
  frzs : ∀ b o u, H b = some (.frz o u) → H' b = some (.frz o u)
  tbls : ∀ b ps, H b = some (.tbl ps) → ∃ more, H' b = some (.tbl (ps ++ more))
section
variable {fs fs' ex ex' : List Addr} {H H1 H2 : Hp} {h h1 h2 h' : Heap} {a x e : Addr} {o : HO}
theorem Un.any (u : Un fs ex H H1 h h1) {b : Addr} {ob : Obj} (q : h.get? b = some ob) (n : H b = none) (hx : b ∉ ex) : ∃ sl, h1.get? b = some { ob with slots := sl } := by
  by_cases hb : b ∈ fs
  · exact u.slot b ob q n hb hx
  · exact ⟨ob.slots, u.keep b ob q n hb hx⟩
theorem Un.kept (k : ∀ b u, h.get? b = some u → h'.get? b = some u) : Un fs ex H H h h' :=
  ⟨fun b ob q _ _ _ => k b ob q, fun b ob q _ _ _ => ⟨ob.slots, k b ob q⟩, fun _ _ _ n _ => n, fun b ob q _ => ⟨ob, k b ob q⟩, fun _ _ q => q, fun _ _ _ q => q, fun _ ps q => ⟨#[], by rw [q]; simp⟩⟩
theorem Un.refl : Un fs ex H H h h := Un.kept fun _ _ q => q
theorem Un.laid (k : ∀ b u, h.get? b = some u → h'.get? b = some u) (hp : h.objs.size ≤ a) (hn : H a = none) : Un fs ex H (upd H a o) h h' where
  keep := fun b u q _ _ _ => k b u q
  slot := fun b u q _ _ _ => ⟨u.slots, k b u q⟩
  free := fun b u q n _ => by rw [upd_ne (Nat.ne_of_lt (Nat.lt_of_lt_of_le (Heap.lt_size q) hp))]; exact n
  there := fun b u q _ => ⟨u, k b u q⟩
  tups := fun b xs q => by rw [upd_ne (ne_of_none q hn)]; exact q
  frzs := fun b u xs q => by rw [upd_ne (ne_of_none q hn)]; exact q
  tbls := fun b ps q => ⟨#[], by rw [upd_ne (ne_of_none q hn), q]; simp⟩
theorem Un.write (mu : Mut (H x)) (he : e = x ∨ H e = some (.own x)) (k : ∀ b u, b ≠ e → h.get? b = some u → h'.get? b = some u) (heo : ∃ u, h'.get? e = some u) : Un fs ex H (upd H x o) h h' := by
  have hx : ∀ b, H b = none → b ≠ x := fun b n z => by subst z; rw [n] at mu; exact mu
  have hb : ∀ b, H b = none → b ≠ e := fun b n z => by
    subst z
    rcases he with r | r
    · exact hx b n r
    · rw [n] at r; cases r
  have hm : ∀ b u, H b = some u → ¬ Mut (some u) → b ≠ x := fun b u q nm z => by subst z; rw [q] at mu; exact nm mu
  refine ⟨fun b u q n _ _ => k b u (hb b n) q, fun b u q n _ _ => ⟨u.slots, k b u (hb b n) q⟩, fun b u q n _ => by rw [upd_ne (hx b n)]; exact n, fun b u q _ => ?_,
    fun b xs q => by rw [upd_ne (hm b _ q fun z => z)]; exact q, fun b u xs q => by rw [upd_ne (hm b _ q fun z => z)]; exact q, fun b ps q => ⟨#[], by rw [upd_ne (hm b _ q fun z => z), q]; simp⟩⟩
  by_cases hbe : b = e
  · subst hbe; exact heo
  · exact ⟨u, k b u hbe q⟩
end
def trk (h : Heap) (H : Hp) : List Addr := (List.range h.objs.size).filter fun a => (H a).isSome
def hidT (h : Heap) (H : Hp) : Heap := PySem.W.hideAll h (trk h H)
theorem hidT_size (h : Heap) (H : Hp) : (hidT h H).objs.size = h.objs.size := PySem.W.hideAll_size _ _
theorem hidT_get {h : Heap} {H : Hp} {b : Addr} {o : Obj} (e : h.get? b = some o) (n : H b = none) : (hidT h H).get? b = some o :=
  PySem.W.hideAll_get _ e fun hm => by
    have q : (H b).isSome = true := (List.mem_filter.mp hm).2
    rw [n] at q; simp at q
theorem of_hidT {h : Heap} {H : Hp} {b : Addr} {o : Obj} (e : (hidT h H).get? b = some o) : h.get? b = some o ∧ H b = none := by
  have e' : h.get? b = some o := PySem.W.of_hideAll (trk h H) e
  refine ⟨e', ?_⟩
  cases q : H b with
  | none => rfl
  | some x =>
    have hm : b ∈ trk h H := List.mem_filter.mpr ⟨List.mem_range.mpr (Heap.lt_size e'), by simp [q]⟩
    have z : (hidT h H).get? b = none := PySem.W.hideAll_none (trk h H) hm
    rw [z] at e; cases e
def allNews (g h : Heap) (L : Addr) : List (Addr × Obj) := (List.range h.objs.size).filterMap fun a => if a = L ∨ (g.get? a).isSome = true then none else (h.get? a).map fun o => (a, o)
def rest (g h : Heap) (L d : Addr) : List (Addr × Obj) := (allNews g h L).filter fun p => decide (p.1 ≠ d)
end L2
namespace L2
open PySem PySem.Spec PyProof.Rows
structure Mod (K : PySem.W.Frag) (mg : Str → Option Value) (base : Heap) : Prop where
  kin : K.In base
  glob : base.Ns mainGlobals mg
  blt : ∃ mb, base.Ns builtinsNs mb ∧ ∀ x : Str, x ≠ "__name__" → mb x = bootBuiltins x
  nolimit : base.NoLimit
structure Cx where
  prog : Program
  w : World
  K : PySem.W.Frag
  mg : Str → Option Value
  base : Heap
  A : Around
  N : List Str
  s₀ : Shared
  H₀ : Hp
  env : Env
  outer : List Env
  stack : List Env
  ex : List Addr
  fn : Str → Bool
  calm : Bool
  pn : List (Addr × Obj)
  xe : Value → Shared → Prop
def frs (l : List Env) : List Addr := l.filterMap (·.frame)
abbrev Cx.fs (X : Cx) : List Addr := frs X.outer
def Vis (sc : Scope) (x : Str) : Prop := sc.names.lookup x = some .local ∨ sc.names.lookup x = some .cell ∨ sc.names.lookup x = some .free
def Loc (sc : Scope) (x : Str) : Prop := sc.names.lookup x = some .local ∨ sc.names.lookup x = some .cell
def Look (env : Env) (h : Heap) (m : Str → Option Value) (x : Str) (u : Value) : Prop :=
  (env.kindOf x = some .local ∧ m x = some u) ∨ ((env.kindOf x = some .cell ∨ env.kindOf x = some .free) ∧ ∃ c, env.cells.lookup x = some c ∧ h.IsCell c (some u))
structure Cx.Ok (X : Cx) : Prop where
  mod : Mod X.K X.mg X.base
  kind : X.env.scope.kind = .function
  glob : X.env.globals = mainGlobals
  blt : X.env.builtins = builtinsNs
  above : X.s₀.heap.objs.size ≤ X.env.locals
  inj : ∀ x y c, X.env.cells.lookup x = some c → X.env.cells.lookup y = some c → x = y
  has : ∀ x, (X.env.kindOf x = some .cell ∨ X.env.kindOf x = some .free) → ∃ c, X.env.cells.lookup x = some c
  cab : ∀ x c, X.fn x = true → X.env.cells.lookup x = some c → X.s₀.heap.objs.size ≤ c
  hd : X.calm = true → X.A.handled = none
  frames : X.A.frames = some X.stack
  stk : X.stack = X.outer ∨ (X.stack = X.env :: X.outer ∧ X.env.frame = some X.env.locals)
  exf : ∀ b ∈ X.ex, b ≠ X.env.locals ∧ ∀ x c, X.env.cells.lookup x = some c → c ≠ b
  bs : ∀ b o, X.base.get? b = some o → X.s₀.heap.get? b = some o ∧ X.H₀ b = none
  bsz : X.base.objs.size ≤ X.s₀.heap.objs.size
  noex : ∀ b o, X.base.get? b = some o → b ∉ X.ex
  exfs : ∀ b ∈ X.ex, b ∉ X.fs
  funs : X.s₀.heap.FunFrames X.base X.outer
  frf : ∀ b ∈ X.fs, X.H₀ b = none
structure Inv (X : Cx) (pins : List (Addr × Obj)) (σ : List (Option V)) (H : Hp) (s : Shared) : Prop where
  ok : X.Ok
  os : s.os = X.s₀.os
  bare : AllBare s.gens
  base : Un X.fs X.ex X.H₀ H X.s₀.heap s.heap
  loc : ∃ m, s.heap.Ns X.env.locals m ∧ ∀ (i : Nat) (x : Str) (v : V), X.N[i]? = some x → σ[i]? = some (some v) → Vis X.env.scope x → ∃ u, RelV v u ∧ Look X.env s.heap m x u
  cell : ∀ x c, X.env.cells.lookup x = some c → ∃ v, s.heap.IsCell c v
  free : H X.env.locals = none
  freeC : ∀ x c, X.env.cells.lookup x = some c → H c = none
  pin : ∀ p ∈ X.pn ++ pins, s.heap.get? p.1 = some p.2 ∧ H p.1 = none ∧ p.1 ≠ X.env.locals ∧ p.1 ∉ X.fs ∧ ∀ v, p.2.data ≠ .cell v
  hok : HOk X.prog X.w H s.heap
  len : σ.length = X.N.length
section
variable {X : Cx} {pins : List (Addr × Obj)} {σ : List (Option V)} {H H' : Hp} {s : Shared} {h' : Heap}
theorem Cx.Ok.nofr (ok : X.Ok) {b : Addr} {o : Obj} (e : X.base.get? b = some o) : b ∉ X.fs := fun hb => by
  have := (ok.funs.mem hb).1
  rw [e] at this; cases this
theorem Inv.bs (I : Inv X pins σ H s) : ∀ b o, X.base.get? b = some o → s.heap.get? b = some o ∧ H b = none := fun b o e =>
  ⟨I.base.keep b o (I.ok.bs b o e).1 (I.ok.bs b o e).2 (I.ok.nofr e) (I.ok.noex b o e), I.base.free b o (I.ok.bs b o e).1 (I.ok.bs b o e).2 (I.ok.noex b o e)⟩
theorem Inv.bk (I : Inv X pins σ H s) : ∀ b o, X.base.get? b = some o → s.heap.get? b = some o := fun b o e => (I.bs b o e).1
theorem Inv.mod (I : Inv X pins σ H s) : Mod X.K X.mg X.base := I.ok.mod
theorem Inv.kIn (I : Inv X pins σ H s) : X.K.In s.heap := I.ok.mod.kin.keeps I.bk
theorem Inv.lt (I : Inv X pins σ H s) : X.env.locals < s.heap.objs.size := let ⟨_, hn, _⟩ := I.loc; hn.lt
theorem Inv.sz (I : Inv X pins σ H s) : X.s₀.heap.objs.size ≤ s.heap.objs.size := Nat.le_trans I.ok.above (Nat.le_of_lt I.lt)
theorem Inv.nofs (I : Inv X pins σ H s) {a : Addr} (h : s.heap.objs.size ≤ a) : a ∉ X.fs := fun hb => by
  obtain ⟨_, o, ho, _⟩ := I.ok.funs.mem hb
  exact absurd (Nat.lt_of_lt_of_le (Heap.lt_size ho) (Nat.le_trans I.sz h)) (Nat.lt_irrefl _)
theorem Inv.cne (I : Inv X pins σ H s) : ∀ x c, X.env.cells.lookup x = some c → c ≠ X.env.locals := fun x c e z => by
  obtain ⟨v, o, ho, hd⟩ := I.cell x c e
  obtain ⟨m, ⟨o', es, ep, ho', hd', _⟩, _⟩ := I.loc
  rw [z, ho'] at ho; cases ho; rw [hd'] at hd; cases hd
theorem Inv.funs (I : Inv X pins σ H s) : s.heap.FunFrames X.base X.outer := by
  have all : ∀ (l : List Env), (∀ b ∈ frs l, b ∈ X.fs) → X.s₀.heap.FunFrames X.base l → s.heap.FunFrames X.base l := by
    intro l
    induction l with
    | nil => intro _ _; trivial
    | cons env r ih =>
      intro hs hl
      obtain ⟨hk, ⟨L, o, hf, hn, ho, hd⟩, hr⟩ := hl
      have hL : L ∈ X.fs := hs L (by unfold frs; rw [List.filterMap_cons, hf]; exact List.mem_cons_self)
      obtain ⟨sl, e⟩ := I.base.slot L o ho (I.ok.frf L hL) hL fun z => I.ok.exfs L z hL
      exact ⟨hk, ⟨L, _, hf, hn, e, hd⟩, ih (fun b hb => hs b (by unfold frs; rw [List.filterMap_cons, hf]; exact List.mem_cons_of_mem _ hb)) hr⟩
  exact all X.outer (fun _ hb => hb) I.ok.funs
theorem Inv.stack (I : Inv X pins σ H s) : s.heap.FunFrames X.base X.stack := by
  rcases I.ok.stk with e | ⟨e, hf⟩
  · rw [e]; exact I.funs
  · rw [e]
    obtain ⟨m, hn, _⟩ := I.loc
    refine .cons (by rw [I.ok.kind]; decide) hf hn ?_ I.funs
    exact Heap.get?_none_of_le (Nat.le_trans I.ok.bsz I.ok.above)
theorem Inv.stkSub (I : Inv X pins σ H s) : ∀ b ∈ frs X.stack, b ∈ X.env.locals :: X.fs := fun b hb => by
  rcases I.ok.stk with e | ⟨e, hf⟩
  · rw [e] at hb; exact List.mem_cons_of_mem _ hb
  · rw [e] at hb
    unfold frs at hb
    rw [List.filterMap_cons, hf] at hb
    exact hb
theorem Inv.stkFree (I : Inv X pins σ H s) : ∀ b ∈ frs X.stack, H b = none := fun b hb => by
  rcases List.mem_cons.mp (I.stkSub b hb) with e | hb
  · rw [e]; exact I.free
  · obtain ⟨_, o, ho, _⟩ := I.ok.funs.mem hb
    exact I.base.free b o ho (I.ok.frf b hb) fun z => I.ok.exfs b z hb
theorem Inv.step {g' : Array GenState} {t' : Nat} {d' : Drawn} {ch : List Addr} (I : Inv X pins σ H s)
    (hch : ∀ b ∈ ch, (b ∈ X.ex ∨ X.s₀.heap.objs.size ≤ b) ∧ b ≠ X.env.locals ∧ (∀ x c, X.env.cells.lookup x = some c → c ≠ b) ∧ ∀ p ∈ X.pn ++ pins, p.1 ≠ b)
    (keep : ∀ b o, b ≠ X.env.locals → b ∉ X.fs → b ∉ ch → s.heap.get? b = some o → H b = none → h'.get? b = some o)
    (slot : ∀ b o, b ≠ X.env.locals → b ∈ X.fs → b ∉ ch → s.heap.get? b = some o → H b = none → ∃ sl, h'.get? b = some { o with slots := sl }) (free : ∀ b o, b ∉ ch → s.heap.get? b = some o → H b = none → H' b = none)
    (there : ∀ b o, b ∉ ch → s.heap.get? b = some o → ∃ o', h'.get? b = some o')
    (tups : ∀ b xs, H b = some (.tup xs) → H' b = some (.tup xs)) (frzs : ∀ b o u, H b = some (.frz o u) → H' b = some (.frz o u)) (tbls : ∀ b ps, H b = some (.tbl ps) → ∃ more, H' b = some (.tbl (ps ++ more)))
    (ns : ∀ m, s.heap.Ns X.env.locals m → h'.Ns X.env.locals m) (hok : HOk X.prog X.w H' h') (hg : AllBare g') :
    Inv X pins σ H' { s with heap := h', gens := g', drawn := d', toks := t' } := by
  have neL : ∀ b o, X.s₀.heap.get? b = some o → b ≠ X.env.locals := fun b o e => Nat.ne_of_lt (Nat.lt_of_lt_of_le (Heap.lt_size e) I.ok.above)
  have neC : ∀ b o, X.s₀.heap.get? b = some o → b ∉ X.ex → b ∉ ch := fun b o e hx hb => by
    rcases (hch b hb).1 with z | z
    · exact hx z
    · exact absurd (Nat.lt_of_lt_of_le (Heap.lt_size e) z) (Nat.lt_irrefl _)
  have cellK : ∀ x c, X.env.cells.lookup x = some c → ∀ v, s.heap.IsCell c v → h'.IsCell c v := fun x c e v ⟨o, ho, hd⟩ => by
    have nch : c ∉ ch := fun z => (hch c z).2.2.1 x c e rfl
    by_cases hc : c ∈ X.fs
    · obtain ⟨sl, q⟩ := slot c o (I.cne x c e) hc nch ho (I.freeC x c e)
      exact ⟨_, q, hd⟩
    · exact ⟨o, keep c o (I.cne x c e) hc nch ho (I.freeC x c e), hd⟩
  refine ⟨I.ok, I.os, hg, ⟨fun b o e n hb hx => ?_, fun b o e n hb hx => ?_, fun b o e n hx => ?_, fun b o e hx => ?_, fun b xs e => tups b xs (I.base.tups b xs e), fun b o xs e => frzs b o xs (I.base.frzs b o xs e), fun b ps e => ?_⟩, ?_, fun x c e => ?_, ?_, fun x c e => ?_, fun p hp => ?_, hok, I.len⟩
  · exact keep b o (neL b o e) hb (neC b o e hx) (I.base.keep b o e n hb hx) (I.base.free b o e n hx)
  · obtain ⟨sl, e1⟩ := I.base.slot b o e n hb hx
    obtain ⟨sl', e2⟩ := slot b _ (neL b o e) hb (neC b o e hx) e1 (I.base.free b o e n hx)
    exact ⟨sl', e2⟩
  · obtain ⟨o', e1⟩ := I.base.there b o e hx
    exact free b o' (neC b o e hx) e1 (I.base.free b o e n hx)
  · obtain ⟨o', e1⟩ := I.base.there b o e hx
    exact there b o' (neC b o e hx) e1
  · obtain ⟨m1, e1⟩ := I.base.tbls b ps e
    obtain ⟨m2, e2⟩ := tbls b _ e1
    exact ⟨m1 ++ m2, by rw [e2, Array.append_assoc]⟩
  · obtain ⟨m, hn, hl⟩ := I.loc
    refine ⟨m, ns m hn, fun i x v e1 e2 e3 => ?_⟩
    obtain ⟨u, r, l⟩ := hl i x v e1 e2 e3
    refine ⟨u, r, ?_⟩
    rcases l with l | ⟨k, c, e, z⟩
    · exact .inl l
    · exact .inr ⟨k, c, e, cellK x c e _ z⟩
  · obtain ⟨v, z⟩ := I.cell x c e
    exact ⟨v, cellK x c e v z⟩
  · obtain ⟨m, ⟨o, _, _, ho, _⟩, _⟩ := I.loc
    exact free _ o (fun z => (hch _ z).2.1 rfl) ho I.free
  · obtain ⟨v, o, ho, hd⟩ := I.cell x c e
    exact free c o (fun z => (hch c z).2.2.1 x c e rfl) ho (I.freeC x c e)
  · obtain ⟨e, n, ne, nf, d⟩ := I.pin p hp
    have nch : p.1 ∉ ch := fun z => (hch p.1 z).2.2.2 p hp rfl
    exact ⟨keep p.1 p.2 ne nf nch e n, free p.1 p.2 nch e n, ne, nf, d⟩
theorem Inv.un {t' : Nat} (I : Inv X pins σ H s) (u : Un X.fs [] H H' s.heap h') (hok : HOk X.prog X.w H' h') : Inv X pins σ H' { s with heap := h', toks := t' } := by
  obtain ⟨m, ⟨o, es, ep, ho, r⟩, _⟩ := id I.loc
  obtain ⟨sl, hL⟩ := u.any ho I.free (by simp)
  exact I.step (g' := s.gens) (d' := s.drawn) (ch := []) (fun _ z => nomatch z) (fun b o _ hb _ e n => u.keep b o e n hb (by simp)) (fun b o _ hb _ e n => u.slot b o e n hb (by simp)) (fun b o _ e n => u.free b o e n (by simp)) (fun b o _ e => u.there b o e (by simp)) u.tups u.frzs u.tbls (fun m' hm => by
    obtain ⟨o', es', ep', ho', r'⟩ := hm
    rw [ho] at ho'; cases ho'
    exact ⟨_, es', ep', hL, r'⟩) hok I.bare
theorem Inv.call {g' : Array GenState} {t' : Nat} {d' : Drawn} {ch : List Addr} (I : Inv X pins σ H s) (u : Un (frs X.stack) ch H H' s.heap h') (hok : HOk X.prog X.w H' h') (hg : AllBare g')
    (hch : ∀ b ∈ ch, (b ∈ X.ex ∨ X.s₀.heap.objs.size ≤ b) ∧ b ≠ X.env.locals ∧ (∀ x c, X.env.cells.lookup x = some c → c ≠ b) ∧ ∀ p ∈ X.pn ++ pins, p.1 ≠ b) :
    Inv X pins σ H' { s with heap := h', gens := g', drawn := d', toks := t' } := by
  obtain ⟨m, ⟨o, es, ep, ho, r⟩, _⟩ := id I.loc
  obtain ⟨sl, hL⟩ := u.any ho I.free fun z => (hch _ z).2.1 rfl
  exact I.step (ch := ch) hch (fun b o hL hb hc e n => u.keep b o e n (fun z => (List.mem_cons.mp (I.stkSub b z)).elim hL hb) hc) (fun b o _ _ hc e n => u.any e n hc) (fun b o hc e n => u.free b o e n hc) (fun b o hc e => u.there b o e hc) u.tups u.frzs u.tbls (fun m' hm => by
    obtain ⟨o', es', ep', ho', r'⟩ := hm
    rw [ho] at ho'; cases ho'
    exact ⟨_, es', ep', hL, r'⟩) hok hg
theorem Inv.turned {t' : Nat} {it : Addr} (I : Inv X pins σ H s) (k : ∀ b o, b ≠ it → s.heap.get? b = some o → h'.get? b = some o) (hn : H it = none) (hL : it ≠ X.env.locals)
    (h1 : it ∈ X.ex ∨ X.s₀.heap.objs.size ≤ it) (h2 : ∀ x c, X.env.cells.lookup x = some c → c ≠ it) (h3 : ∀ p ∈ X.pn ++ pins, p.1 ≠ it) : Inv X pins σ H { s with heap := h', toks := t' } := by
  have nit : ∀ b u, H b = some u → b ≠ it := fun b u e z => by rw [z, hn] at e; cases e
  refine I.step (g' := s.gens) (d' := s.drawn) (ch := [it]) (fun b hb => ?_) (fun b o _ _ hc e _ => k b o (fun z => hc (by simp [z])) e) (fun b o _ _ hc e _ => ⟨o.slots, k b o (fun z => hc (by simp [z])) e⟩) (fun _ _ _ _ n => n)
    (fun b o hc e => ⟨o, k b o (fun z => hc (by simp [z])) e⟩) (fun _ _ e => e) (fun _ _ _ e => e) (fun b ps e => ⟨#[], by rw [e]; simp⟩) (fun m hm => ?_) (fun b u e => ?_) I.bare
  · have e : b = it := by simpa using hb
    subst e
    exact ⟨h1, hL, h2, h3⟩
  · obtain ⟨o, es, ep, ho, r⟩ := hm
    exact ⟨o, es, ep, k _ o (Ne.symm hL) ho, r⟩
  · refine (I.hok b u e).stay (fun c v hc q => k c v ?_ q) (fun _ q => q) fun _ _ q => q
    rcases hc with z | z
    · rw [z]; exact nit b u e
    · exact nit c _ z
theorem Inv.tok (I : Inv X pins σ H s) (t : Nat) : Inv X pins σ H { s with toks := t } := I.un (h' := s.heap) (t' := t) Un.refl I.hok
theorem Inv.kept {t' : Nat} (I : Inv X pins σ H s) (k : ∀ b u, s.heap.get? b = some u → h'.get? b = some u) : Inv X pins σ H { s with heap := h', toks := t' } := I.un (Un.kept k) (I.hok.kept k)
theorem Inv.laid {a : Addr} {o : HO} {t' : Nat} (I : Inv X pins σ H s) (k : ∀ b u, s.heap.get? b = some u → h'.get? b = some u) (hp : s.heap.objs.size ≤ a) (new : ObjOk X.prog X.w (upd H a o) h' a o) :
    Inv X pins σ (upd H a o) { s with heap := h', toks := t' } := I.un (Un.laid k hp (I.hok.fresh hp)) (I.hok.laid k hp new)
theorem Inv.write {x e : Addr} {o : HO} {t' : Nat} (I : Inv X pins σ H s) (mu : Mut (H x)) (he : e = x ∨ H e = some (.own x)) (k : ∀ b u, b ≠ e → s.heap.get? b = some u → h'.get? b = some u) (heo : ∃ u, h'.get? e = some u)
    (new : ObjOk X.prog X.w (upd H x o) h' x o) : Inv X pins σ (upd H x o) { s with heap := h', toks := t' } := I.un (Un.write mu he k heo) (I.hok.write mu he k heo new)
theorem Inv.weak {σ' : List (Option V)} (I : Inv X pins σ H s) (hl : σ'.length = σ.length) (w : ∀ (i : Nat) v, σ'[i]? = some (some v) → σ[i]? = some (some v)) : Inv X pins σ' H s :=
  ⟨I.ok, I.os, I.bare, I.base, let ⟨m, hn, hl'⟩ := I.loc; ⟨m, hn, fun i x v e1 e2 e3 => hl' i x v e1 (w i v e2) e3⟩, I.cell, I.free, I.freeC, I.pin, I.hok, hl.trans I.len⟩
theorem Inv.pins_of {pins' : List (Addr × Obj)} (I : Inv X pins σ H s) (h : ∀ p ∈ pins', s.heap.get? p.1 = some p.2 ∧ H p.1 = none ∧ p.1 ≠ X.env.locals ∧ p.1 ∉ X.fs ∧ ∀ v, p.2.data ≠ .cell v) : Inv X pins' σ H s :=
  ⟨I.ok, I.os, I.bare, I.base, I.loc, I.cell, I.free, I.freeC, fun p hp => (List.mem_append.mp hp).elim (fun z => I.pin p (List.mem_append_left _ z)) (h p), I.hok, I.len⟩
theorem nodup_ix {N : List Str} (hN : N.Nodup) {i j : Nat} {x : Str} (a : N[i]? = some x) (b : N[j]? = some x) : i = j := by
  obtain ⟨h1, e1⟩ := List.getElem?_eq_some_iff.mp a
  obtain ⟨h2, e2⟩ := List.getElem?_eq_some_iff.mp b
  exact (List.getElem_inj hN).mp (e1.trans e2.symm)
theorem store_ok2 {M : Model} {A : Around} {E : Value → Shared → Prop} {i : Nat} {x : Str} {v : V} {u : Value} {Q : Unit → Shared → Prop} (I : Inv X pins σ H s) (hN : X.N.Nodup) (hi : X.N[i]? = some x) (hx : Loc X.env.scope x) (r : RelV v u)
    (h : ∀ s', Inv X pins (σ.set i (some v)) H s' → (∃ a, Heap.SameBut a s.heap s'.heap ∧ (a = X.env.locals ∨ X.env.cells.lookup x = some a)) → Q () s') (hf : X.fn x = true ∨ X.env.scope.names.lookup x = some .local := by first | exact .inl rfl | exact .inr rfl | assumption) : wpAny M A (storeName X.env x u) Q E s := by
  obtain ⟨m, hn, hl⟩ := id I.loc
  have hcls : (X.env.scope.kind == .class || (X.env.scope.kind == .module && X.env.locals != X.env.globals)) = false := by rw [I.ok.kind]; rfl
  have hiσ : i < σ.length := by rw [I.len]; exact (List.getElem?_eq_some_iff.mp hi).1
  have cne := I.cne
  have tracked : ∀ {a : Addr} {h' : Heap}, (∃ o, s.heap.get? a = some o ∧ H a = none) → Heap.SameBut a s.heap h' → HOk X.prog X.w H h' := fun {a h'} ha hs b ob e => by
    obtain ⟨_, _, hfree⟩ := ha
    refine (I.hok b ob e).stay (fun c w' hc q => (hs.2 c ?_).trans q) (fun _ q => q) fun _ _ q => q
    rintro rfl
    rcases hc with rfl | hc
    · rw [hfree] at e; cases e
    · rw [hfree] at hc; cases hc
  rcases hx with hk | hk
  · refine wpAny_storeName_local hk hn (fun h' hn' hs => ?_) hcls
    obtain ⟨oL, _, _, hoL, _⟩ := id hn
    refine h _ ⟨I.ok, I.os, I.bare, ⟨fun b o e n hb hx => ?_, fun b o e n hb hx => ?_, I.base.free, fun b o e hx => ?_, I.base.tups, I.base.frzs, I.base.tbls⟩, ⟨_, hn', fun j y v' e1 e2 e3 => ?_⟩, fun y c e => ?_, I.free, I.freeC, fun p hp => ?_, tracked ⟨oL, hoL, I.free⟩ hs, by simpa using I.len⟩ ⟨_, hs, .inl rfl⟩
    · exact (hs.2 b (Nat.ne_of_lt (Nat.lt_of_lt_of_le (Heap.lt_size e) I.ok.above))).trans (I.base.keep b o e n hb hx)
    · obtain ⟨sl, e1⟩ := I.base.slot b o e n hb hx
      exact ⟨sl, (hs.2 b (Nat.ne_of_lt (Nat.lt_of_lt_of_le (Heap.lt_size e) I.ok.above))).trans e1⟩
    · obtain ⟨o', e1⟩ := I.base.there b o e hx
      exact ⟨o', (hs.2 b (Nat.ne_of_lt (Nat.lt_of_lt_of_le (Heap.lt_size e) I.ok.above))).trans e1⟩
    · by_cases hj : j = i
      · subst hj
        rw [hi] at e1; cases e1
        rw [List.getElem?_set_self hiσ] at e2
        cases e2
        exact ⟨u, r, .inl ⟨hk, by simp⟩⟩
      · rw [List.getElem?_set_ne (Ne.symm hj)] at e2
        obtain ⟨u', r', q⟩ := hl j y v' e1 e2 e3
        refine ⟨u', r', ?_⟩
        rcases q with ⟨k, e⟩ | ⟨k, c, e, z⟩
        · refine .inl ⟨k, ?_⟩
          have : y ≠ x := fun e => hj (nodup_ix hN e1 (e ▸ hi))
          simp [this, e]
        · exact .inr ⟨k, c, e, z.sameBut hs (cne y c e)⟩
    · obtain ⟨w', z⟩ := I.cell y c e
      exact ⟨w', z.sameBut hs (cne y c e)⟩
    · obtain ⟨e, n, ne, nf, d⟩ := I.pin p hp
      exact ⟨(hs.2 p.1 ne).trans e, n, ne, nf, d⟩
  · have hfn : X.fn x = true := by
      rcases hf with z | z
      · exact z
      · rw [z] at hk; cases hk
    obtain ⟨c, hc⟩ := I.ok.has x (.inl hk)
    obtain ⟨w', z⟩ := I.cell x c hc
    refine wpAny_storeName_cell I.ok.kind hk hc z (fun h' hc' hs => ?_)
    obtain ⟨oc, hoc, hocd⟩ := id z
    refine h { s with heap := h' } ⟨I.ok, I.os, I.bare, ⟨fun b o e n hb hx => ?_, fun b o e n hb hx => ?_, I.base.free, fun b o e hx => ?_, I.base.tups, I.base.frzs, I.base.tbls⟩, ⟨m, hn.sameBut hs (Ne.symm (cne x c hc)), fun j y v' e1 e2 e3 => ?_⟩, fun y c' e => ?_, I.free, I.freeC, fun p hp => ?_, tracked ⟨oc, hoc, I.freeC x c hc⟩ hs, by simpa using I.len⟩ ⟨c, hs, .inr hc⟩
    · exact (hs.2 b (Nat.ne_of_lt (Nat.lt_of_lt_of_le (Heap.lt_size e) (I.ok.cab x c hfn hc)))).trans (I.base.keep b o e n hb hx)
    · obtain ⟨sl, e1⟩ := I.base.slot b o e n hb hx
      exact ⟨sl, (hs.2 b (Nat.ne_of_lt (Nat.lt_of_lt_of_le (Heap.lt_size e) (I.ok.cab x c hfn hc)))).trans e1⟩
    · obtain ⟨o', e1⟩ := I.base.there b o e hx
      exact ⟨o', (hs.2 b (Nat.ne_of_lt (Nat.lt_of_lt_of_le (Heap.lt_size e) (I.ok.cab x c hfn hc)))).trans e1⟩
    · by_cases hj : j = i
      · subst hj
        rw [hi] at e1; cases e1
        rw [List.getElem?_set_self hiσ] at e2
        cases e2
        exact ⟨u, r, .inr ⟨.inl hk, c, hc, hc'⟩⟩
      · rw [List.getElem?_set_ne (Ne.symm hj)] at e2
        obtain ⟨u', r', q⟩ := hl j y v' e1 e2 e3
        refine ⟨u', r', ?_⟩
        rcases q with q | ⟨k, c', e, z'⟩
        · exact .inl q
        · refine .inr ⟨k, c', e, z'.sameBut hs ?_⟩
          rintro rfl
          exact hj (nodup_ix hN e1 (I.ok.inj _ _ _ e hc ▸ hi))
    · by_cases hcc : c' = c
      · subst hcc; exact ⟨_, hc'⟩
      · obtain ⟨w2, z2⟩ := I.cell y c' e
        exact ⟨w2, z2.sameBut hs hcc⟩
    · obtain ⟨e, n, ne, nf, d⟩ := I.pin p hp
      refine ⟨(hs.2 p.1 ?_).trans e, n, ne, nf, d⟩
      intro q
      rw [q, hoc] at e
      have q' : oc = p.2 := Option.some.inj e
      exact d w' (by rw [← q']; exact hocd)
theorem store_ok {M : Model} {A : Around} {E : Value → Shared → Prop} {i : Nat} {x : Str} {v : V} {u : Value} {Q : Unit → Shared → Prop} (I : Inv X pins σ H s) (hN : X.N.Nodup) (hi : X.N[i]? = some x) (hx : Loc X.env.scope x) (r : RelV v u)
    (h : ∀ s', Inv X pins (σ.set i (some v)) H s' → Q () s') (hf : X.fn x = true ∨ X.env.scope.names.lookup x = some .local := by first | exact .inl rfl | exact .inr rfl | assumption) : wpAny M A (storeName X.env x u) Q E s :=
  store_ok2 I hN hi hx r (fun s' I' _ => h s' I') hf
theorem Inv.call' {s' : Shared} {ch : List Addr} (I : Inv X pins σ H s) (ho : s'.os = s.os) (u : Un (frs X.stack) ch H H' s.heap s'.heap) (hok : HOk X.prog X.w H' s'.heap) (hg : AllBare s'.gens)
    (hch : ∀ b ∈ ch, (b ∈ X.ex ∨ X.s₀.heap.objs.size ≤ b) ∧ b ≠ X.env.locals ∧ (∀ x c, X.env.cells.lookup x = some c → c ≠ b) ∧ ∀ p ∈ X.pn ++ pins, p.1 ≠ b) : Inv X pins σ H' s' := by
  obtain ⟨h', g', d', t', o'⟩ := s'
  have e : o' = s.os := ho
  subst e
  exact I.call (g' := g') (t' := t') (d' := d') u hok hg hch
end
abbrev XK := Value → Option Addr → Hp → Prop
abbrev St := List (Option V)
abbrev VK := V → Hp → Prop
abbrev TE := St → Hp → VK → Prop
abbrev TT := St → Hp → (Bool → Hp → Prop) → Prop
abbrev TA := St → Hp → (List V → Hp → Prop) → Prop
structure Ends where
  nx : St → Hp → Prop
  rt : VK
  bk : St → Hp → Prop := fun _ _ => False
  ct : St → Hp → Prop := fun _ _ => False
abbrev TS := Ends → St → Hp → Prop
def EP (X : Cx) (pins : List (Addr × Obj)) (σ : St) (Q : VK) (u : Value) (s' : Shared) : Prop := ∃ v H', Inv X pins σ H' s' ∧ RelV v u ∧ Q v H'
def TP (X : Cx) (pins : List (Addr × Obj)) (σ : St) (Q : Bool → Hp → Prop) (b : Bool) (s' : Shared) : Prop := ∃ H', Inv X pins σ H' s' ∧ Q b H'
def AP (X : Cx) (pins : List (Addr × Obj)) (σ : St) (Q : List V → Hp → Prop) (us : List Value) (s' : Shared) : Prop := ∃ vs H', Inv X pins σ H' s' ∧ Vals vs us ∧ Q vs H'
def SP (X : Cx) (pins : List (Addr × Obj)) (D : Ends) (f : Flow) (s' : Shared) : Prop :=
  match f with
  | .next => ∃ σ' H', Inv X pins σ' H' s' ∧ D.nx σ' H'
  | .brk => ∃ σ' H', Inv X pins σ' H' s' ∧ D.bk σ' H'
  | .cont => ∃ σ' H', Inv X pins σ' H' s' ∧ D.ct σ' H'
  | .ret u => ∃ v σ' H', Inv X pins σ' H' s' ∧ RelV v u ∧ D.rt v H'
def PE (X : Cx) (e : Expr) (t : TE) : Prop :=
  ∀ (pins : List (Addr × Obj)) (s : Shared) (σ : St) (H : Hp) (Q : VK), Inv X pins σ H s → t σ H Q → wpAny (model X.prog X.w) X.A (eval e X.env) (EP X pins σ Q) X.xe s
def PT (X : Cx) (e : Expr) (t : TT) : Prop :=
  ∀ (pins : List (Addr × Obj)) (s : Shared) (σ : St) (H : Hp) (Q : Bool → Hp → Prop), Inv X pins σ H s → t σ H Q → wpAny (model X.prog X.w) X.A (isTrue e X.env (eval e X.env)) (TP X pins σ Q) X.xe s
def PW (X : Cx) (e : Expr) (t : TT) : Prop :=
  ∀ (whole : Sem Value) (pins : List (Addr × Obj)) (s : Shared) (σ : St) (H : Hp) (Q : Bool → Hp → Prop), Inv X pins σ H s → t σ H Q → wpAny (model X.prog X.w) X.A (isTrue e X.env whole) (TP X pins σ Q) X.xe s
theorem PW.pt {X : Cx} {e : Expr} {t : TT} (h : PW X e t) : PT X e t := h _
def PA (X : Cx) (es : List Expr) (t : TA) : Prop :=
  ∀ (pos : Pos) (pins : List (Addr × Obj)) (s : Shared) (σ : St) (H : Hp) (Q : List V → Hp → Prop), Inv X pins σ H s → t σ H Q → wpAny (model X.prog X.w) X.A (spliced (backTo pos (starEach es X.env))) (AP X pins σ Q) X.xe s
def PS (X : Cx) (st : Stmt) (t : TS) : Prop :=
  ∀ (pins : List (Addr × Obj)) (s : Shared) (σ : St) (H : Hp) (D : Ends), Inv X pins σ H s → t D σ H → wpAny (model X.prog X.w) X.A (exec st X.env) (SP X pins D) X.xe s
def PSs (X : Cx) (st : List Stmt) (t : TS) : Prop :=
  ∀ (pins : List (Addr × Obj)) (s : Shared) (σ : St) (H : Hp) (D : Ends), Inv X pins σ H s → t D σ H → wpAny (model X.prog X.w) X.A (execs st X.env) (SP X pins D) X.xe s
theorem thn {α : Type} {t : Sem α} {Q Q' : α → Shared → Prop} {M : Model} {A : Around} {E : Value → Shared → Prop} {s : Shared} (h : wpAny M A t Q E s) (hQ : ∀ a s, Q a s → Q' a s) : wpAny M A t Q' E s := wpAny_mono h hQ fun _ _ x => x
end L2
namespace L2
open PySem PySem.Spec PyProof.Rows
section
variable {X : Cx}
def tVar (i : Nat) : TE := fun σ H Q => ∃ v, σ[i]? = some (some v) ∧ Q v H
def tC (v : V) : TE := fun _ H Q => Q v H
theorem pe_var {i : Nat} {x : Str} {pos : Pos} (hN : X.N[i]? = some x) (hv : Vis X.env.scope x) (hd : (x == ("__debug__" : Str)) = false := by decide) (hcd : (x == ("__classdict__" : Str)) = false := by decide) : PE X (.Name x pos) (tVar i) := by
  intro pins s σ H Q I h
  obtain ⟨v, e, h⟩ := h
  obtain ⟨m, hn, hl⟩ := I.loc
  obtain ⟨u, r, l⟩ := hl i x v hN e hv
  have fin : EP X pins σ Q u s := ⟨v, H, I, r, h⟩
  rcases l with ⟨hk, hm⟩ | ⟨hk, c, hc, hcell⟩
  · exact wpAny_Name (wpAny_loadName_local I.ok.kind hk hn hm fin) hd
  · rcases hk with hk | hk
    · exact wpAny_Name (wpAny_loadName_cell I.ok.kind hk hc hcell fin) hd
    · exact wpAny_Name (wpAny_loadName_free I.ok.kind hk hc hcell fin hcd) hd
theorem pe_int {i j pos} : PE X (.Constant (.int i) j pos) (tC (.int i)) := fun _ _ _ H _ I h => wpAny_Constant_int ⟨.int i, H, I.tok _, ⟨_, rfl⟩, h⟩
theorem pe_bl {b j pos} : PE X (.Constant (.bool b) j pos) (tC (.bl b)) := fun _ _ _ H _ I h => Constant_bool ⟨.bl b, H, I, rfl, h⟩
theorem pe_non {j pos} : PE X (.Constant .none j pos) (tC .non) := fun _ _ _ H _ I h => Constant_none ⟨.non, H, I, rfl, h⟩
theorem pe_str {x j pos} : PE X (.Constant (.str x) j pos) (tC (.str x)) := fun _ _ _ H _ I h => Calls.Constant_str ⟨.str x, H, I.tok _, ⟨_, rfl⟩, h⟩
def Gl (X : Cx) (x : Str) : Prop := X.env.kindOf x = some .globalImplicit
theorem ld_glob {E : Value → Shared → Prop} {pins : List (Addr × Obj)} {s : Shared} {σ : St} {H : Hp} {x : Str} {u : Value} {pos : Pos} {Q : Value → Shared → Prop} (I : Inv X pins σ H s) (hg : Gl X x) (hm : X.mg x = some u) (h : Q u s)
    (hd : (x == ("__debug__" : Str)) = false := by decide) : wpAny (model X.prog X.w) X.A (eval (.Name x pos) X.env) Q E s :=
  Calls.Name_function_global I.ok.kind hg (Calls.loadGlobal_global (by rw [I.ok.glob]; exact I.mod.glob.keeps I.bk) hm h) hd
theorem ld_blt {E : Value → Shared → Prop} {pins : List (Addr × Obj)} {s : Shared} {σ : St} {H : Hp} {x : Str} {u : Value} {pos : Pos} {Q : Value → Shared → Prop} (I : Inv X pins σ H s) (hg : Gl X x) (hm : X.mg x = none) (hv : bootBuiltins x = some u) (h : Q u s)
    (hn : x ≠ "__name__" := by decide) (hd : (x == ("__debug__" : Str)) = false := by decide) : wpAny (model X.prog X.w) X.A (eval (.Name x pos) X.env) Q E s := by
  obtain ⟨mb, h1, h2⟩ := I.mod.blt
  exact Calls.Name_function_global I.ok.kind hg (Calls.loadGlobal_builtin (by rw [I.ok.glob]; exact I.mod.glob.keeps I.bk) hm (by rw [I.ok.blt]; exact h1.keeps I.bk) ((h2 x hn).trans hv) h) hd
theorem pe_glob {x : Str} {v : V} {u : Value} {pos : Pos} (hg : Gl X x) (hm : X.mg x = some u) (r : RelV v u) (hd : (x == ("__debug__" : Str)) = false := by decide) : PE X (.Name x pos) (tC v) :=
  fun _ _ _ H _ I h => ld_glob I hg hm ⟨v, H, I, r, h⟩ hd
theorem pe_bltn {x : Str} {v : V} {u : Value} {pos : Pos} (hg : Gl X x) (hm : X.mg x = none) (hv : bootBuiltins x = some u) (r : RelV v u) (hn : x ≠ "__name__" := by decide) (hd : (x == ("__debug__" : Str)) = false := by decide) : PE X (.Name x pos) (tC v) :=
  fun _ _ _ H _ I h => ld_blt I hg hm hv ⟨v, H, I, r, h⟩ hn hd
def t2I (ta tb : TE) (k : Int → Int → Hp → Prop) : St → Hp → Prop := fun σ H => ta σ H fun x H1 => tb σ H1 fun y H2 => ∃ i j, x = .int i ∧ y = .int j ∧ k i j H2
def tAdd (ta tb : TE) : TE := fun σ H Q => t2I ta tb (fun i j H2 => Q (.int (i + j)) H2) σ H
def tSub (ta tb : TE) : TE := fun σ H Q => t2I ta tb (fun i j H2 => Q (.int (i - j)) H2) σ H
def tMul (ta tb : TE) : TE := fun σ H Q => t2I ta tb (fun i j H2 => (-(2 ^ 64) < i ∧ i < 2 ^ 64) ∧ Q (.int (i * j)) H2) σ H
variable {a b : Expr} {ta tb : TE} {pos : Pos}
def PC (X : Cx) (op : CmpOp) (a b : Expr) (t : TE) : Prop :=
  ∀ (pins : List (Addr × Obj)) (s : Shared) (σ : St) (H : Hp) (Q : VK), Inv X pins σ H s → t σ H Q →
    wpAny (model X.prog X.w) X.A (eval a X.env) (fun v s₁ => wpAny (model X.prog X.w) X.A (eval b X.env) (fun u s₂ => wpAny (model X.prog X.w) X.A (compareOp op v u) (EP X pins σ Q) X.xe s₂) X.xe s₁) X.xe s
def tCmp (p : Int → Int → Bool) (ta tb : TE) : TE := fun σ H Q => t2I ta tb (fun i j H2 => Q (.bl (p i j)) H2) σ H
abbrev tLt : TE → TE → TE := tCmp fun i j => decide (i < j)
abbrev tLe : TE → TE → TE := tCmp fun i j => decide (i ≤ j)
abbrev tGt : TE → TE → TE := tCmp fun i j => decide (j < i)
abbrev tGe : TE → TE → TE := tCmp fun i j => decide (j ≤ i)
abbrev tEqI : TE → TE → TE := tCmp fun i j => decide (i = j)
abbrev tNeI : TE → TE → TE := tCmp fun i j => !decide (i = j)
def tIsN (ta : TE) : TE := fun σ H Q => ta σ H fun x H1 => Q (.bl (decide (x = .non))) H1
def tNotN (ta : TE) : TE := fun σ H Q => ta σ H fun x H1 => Q (.bl (!decide (x = .non))) H1
def tB (t : TE) : TT := fun σ H Q => t σ H fun x H1 => ∃ c, x = .bl c ∧ Q c H1
theorem pt_val {e : Expr} {t : TE} (h : PE X e t) (he : ∀ whole, isTrue e X.env whole = (do let v ← whole; standAt e.pos; holding [v] (truthy v)) := by intro _; rfl) : PT X e (tB t) := by
  intro pins s σ H Q I hw
  refine isTrue_plain (thn (h pins s σ H _ I hw) fun v s1 ⟨x, H1, I1, r1, q1⟩ => ?_) (he _)
  obtain ⟨d, rfl, q⟩ := q1
  cases r1
  exact wpAny_truthy_bool ⟨H1, I1, q⟩
variable {tA tB' : TT} {rest : List Expr}
def tAnd (t u : TT) : TT := fun σ H Q => t σ H fun c H1 => if c = true then u σ H1 Q else Q false H1
def tOr (t u : TT) : TT := fun σ H Q => t σ H fun c H1 => if c = true then Q true H1 else u σ H1 Q
def tNot (t : TT) : TT := fun σ H Q => t σ H fun c H1 => Q (!c) H1
theorem pw_or1 (ha : PT X a tA) : PW X (.BoolOp .Or [a] pos) tA := by
  intro wh pins s σ H Q I h
  refine isTrue_or (thn (ha pins s σ H Q I h) fun c s1 e => ?_)
  cases c with
  | false => exact isTrue_or_nil e
  | true => exact e
theorem pw_or (ha : PT X a tA) (hb : PW X (.BoolOp .Or (b :: rest) pos) tB') : PW X (.BoolOp .Or (a :: b :: rest) pos) (tOr tA tB') := by
  intro wh pins s σ H Q I h
  refine isTrue_or (thn (ha pins s σ H _ I h) fun c s1 ⟨H1, I1, q1⟩ => ?_)
  cases c with
  | true => exact ⟨H1, I1, q1⟩
  | false => exact hb wh pins s1 σ H1 Q I1 q1
theorem pt_not (ha : PT X a tA) : PT X (.UnaryOp .Not a pos) (tNot tA) := by
  intro pins s σ H Q I h
  exact isTrue_not (ha pins s σ H (fun c H1 => Q (!c) H1) I h)
def tAndV (ta tb : TE) : TE := fun σ H Q => ta σ H fun x H1 => ∃ c, x = .bl c ∧ if c = true then tb σ H1 Q else Q (.bl false) H1
def tOrV (ta tb : TE) : TE := fun σ H Q => ta σ H fun x H1 => ∃ c, x = .bl c ∧ if c = true then Q (.bl true) H1 else tb σ H1 Q
def tNotV (ta : TE) : TE := fun σ H Q => ta σ H fun x H1 => ∃ c, x = .bl c ∧ Q (.bl (!c)) H1
theorem pe_one {op} {t : TE} (h : PE X a t) : PE X (.BoolOp op [a] pos) t := fun pins s σ H Q I hw => BoolOp_one (h pins s σ H Q I hw)
theorem pe_and (ha : PE X a ta) (hb : PE X (.BoolOp .And (b :: rest) pos) tb) : PE X (.BoolOp .And (a :: b :: rest) pos) (tAndV ta tb) := by
  intro pins s σ H Q I h
  refine BoolOp_and (thn (ha pins s σ H _ I h) fun v s1 ⟨x, H1, I1, r1, q1⟩ => ?_)
  obtain ⟨c, rfl, q1⟩ := q1
  cases r1
  refine wpAny_truthy_bool ?_
  cases c with
  | true => exact hb pins s1 σ H1 Q I1 q1
  | false => exact ⟨.bl false, H1, I1, rfl, q1⟩
theorem pe_not (ha : PE X a ta) : PE X (.UnaryOp .Not a pos) (tNotV ta) := by
  intro pins s σ H Q I h
  refine UnaryOp_ (thn (ha pins s σ H _ I h) fun v s1 ⟨x, H1, I1, r1, q1⟩ => ?_)
  obtain ⟨c, rfl, q1⟩ := q1
  cases r1
  exact not_of (wpAny_truthy_bool ⟨.bl (!c), H1, I1, rfl, q1⟩)
def tIf (t : TT) (ta tb : TE) : TE := fun σ H Q => t σ H fun c H1 => if c = true then ta σ H1 Q else tb σ H1 Q
end
end L2
namespace L2
open PySem PySem.Spec PyProof.Rows
def SqL (K : PySem.W.Frag) (H : Hp) (a : Addr) (xs : List V) : Prop :=
  Rd H a (.lst xs) ∨
    ∃ (o : Obj) (its : Array Value) (n : Nat), K.lookup a = some o ∧ o.cls = .type "list" ∧ o.dict = none ∧ o.data = .seq its n ∧ its.size ≤ sizeLine ∧ Vals xs its.toList
def SqT (K : PySem.W.Frag) (H : Hp) (a : Addr) (xs : List V) : Prop :=
  Rd H a (.tup xs) ∨
    ∃ (o : Obj) (its : Array Value) (n : Nat), K.lookup a = some o ∧ o.cls = .type "tuple" ∧ o.data = .seq its n ∧ its.size ≤ sizeLine ∧ Vals xs its.toList
def absV : Value → Option V
  | .none => some .non
  | .bool b => some (.bl b)
  | .int i _ => some (.int i)
  | .str x _ => some (.str x)
  | .bytes b _ => some (.byt b)
  | .float b _ => some (.flt b)
  | .ref a => some (.ref a)
  | .type n => some (.ty n)
  | _ => none
theorem RelV.abs {x : V} {u : Value} (r : RelV x u) : absV u = some x := by
  cases x with
  | non => cases r; rfl
  | bl _ => cases r; rfl
  | int _ => obtain ⟨t, rfl⟩ := r; rfl
  | str _ => obtain ⟨t, rfl⟩ := r; rfl
  | byt _ => obtain ⟨t, rfl⟩ := r; rfl
  | flt _ => obtain ⟨t, rfl⟩ := r; rfl
  | ref _ => cases r; rfl
  | ty _ => cases r; rfl
theorem RelV.inj {x y : V} {u : Value} (r : RelV x u) (q : RelV y u) : x = y := Option.some.inj (r.abs.symm.trans q.abs)
theorem Vals.inj : ∀ {xs ys : List V} {us : List Value}, Vals xs us → Vals ys us → xs = ys
  | _, _, _, .nil, .nil => rfl
  | _, _, _, .cons r t, .cons r' t' => by rw [r.inj r', Vals.inj t t']
section
variable {X : Cx} {pins : List (Addr × Obj)} {σ : St} {H : Hp} {s : Shared} {a : Addr} {xs ys : List V}
theorem SqL.of {K : PySem.W.Frag} (h : H a = some (.lst xs)) : SqL K H a xs := .inl (.inl h)
theorem SqT.of {K : PySem.W.Frag} (h : H a = some (.tup xs)) : SqT K H a xs := .inl (.inl h)
theorem Inv.list (I : Inv X pins σ H s) (h : SqL X.K H a xs) : ∃ its : List Value, Vals xs its ∧ PlainL s.heap a its.toArray ∧ xs.length ≤ sizeLine := by
  rcases h with h | ⟨o, its, n, hk, hc, hd, hs, hz, r⟩
  · obtain ⟨z, its, n, r, e⟩ := h.ok I.hok
    exact ⟨its, r, ⟨_, n, e, rfl, rfl, rfl⟩, z⟩
  · refine ⟨its.toList, r, ⟨o, n, I.kIn a o hk, hc, hd, by simpa using hs⟩, ?_⟩
    have e := r.length
    simp only [Array.length_toList] at e
    omega
theorem Inv.tuple (I : Inv X pins σ H s) (h : SqT X.K H a xs) : ∃ its : List Value, Vals xs its ∧ IsTup s.heap a its.toArray ∧ xs.length ≤ sizeLine := by
  rcases h with h | ⟨o, its, n, hk, hc, hs, hz, r⟩
  · obtain ⟨z, its, r, p⟩ := h.ok I.hok
    exact ⟨its, r, p, z⟩
  · refine ⟨its.toList, r, ⟨o, I.kIn a o hk, hc, n, by simpa using hs⟩, ?_⟩
    have e := r.length
    simp only [Array.length_toList] at e
    omega
theorem Inv.list_inj (I : Inv X pins σ H s) (h : SqL X.K H a xs) (h' : SqL X.K H a ys) : xs = ys := by
  obtain ⟨its, r, ⟨o, n, e, _, _, d⟩, _⟩ := I.list h
  obtain ⟨its', r', ⟨o', n', e', _, _, d'⟩, _⟩ := I.list h'
  rw [e] at e'; cases e'
  rw [d] at d'
  injection d' with d1 _
  have : its = its' := by simpa using congrArg Array.toList d1
  subst this
  exact r.inj r'
end
abbrev Cx.wish (X : Cx) (E : Value → Shared → Prop) : Cx := { X with xe := E }
abbrev Cx.nox (X : Cx) : Cx := X.wish fun _ _ => False
theorem Cx.Ok.wish {X : Cx} (ok : X.Ok) (E : Value → Shared → Prop) : (X.wish E).Ok :=
  ⟨ok.mod, ok.kind, ok.glob, ok.blt, ok.above, ok.inj, ok.has, ok.cab, ok.hd, ok.frames, ok.stk, ok.exf, ok.bs, ok.bsz, ok.noex, ok.exfs, ok.funs, ok.frf⟩
theorem Cx.Ok.unwish {X : Cx} {E : Value → Shared → Prop} (ok : (X.wish E).Ok) : X.Ok :=
  ⟨ok.mod, ok.kind, ok.glob, ok.blt, ok.above, ok.inj, ok.has, ok.cab, ok.hd, ok.frames, ok.stk, ok.exf, ok.bs, ok.bsz, ok.noex, ok.exfs, ok.funs, ok.frf⟩
section
variable {X : Cx} {pins : List (Addr × Obj)} {σ : St} {H : Hp} {s : Shared} {E : Value → Shared → Prop}
theorem Inv.wish (I : Inv X pins σ H s) (E : Value → Shared → Prop) : Inv (X.wish E) pins σ H s := ⟨I.ok.wish E, I.os, I.bare, I.base, I.loc, I.cell, I.free, I.freeC, I.pin, I.hok, I.len⟩
theorem Inv.unwish (I : Inv (X.wish E) pins σ H s) : Inv X pins σ H s := ⟨I.ok.unwish, I.os, I.bare, I.base, I.loc, I.cell, I.free, I.freeC, I.pin, I.hok, I.len⟩
theorem SP.unwish {D : Ends} {f : Flow} {s' : Shared} (h : SP (X.wish E) pins D f s') : SP X pins D f s' := by
  cases f with
  | next => obtain ⟨σ', H', I, q⟩ := h; exact ⟨σ', H', I.unwish, q⟩
  | brk => obtain ⟨σ', H', I, q⟩ := h; exact ⟨σ', H', I.unwish, q⟩
  | cont => obtain ⟨σ', H', I, q⟩ := h; exact ⟨σ', H', I.unwish, q⟩
  | ret u => obtain ⟨v, σ', H', I, r, q⟩ := h; exact ⟨v, σ', H', I.unwish, r, q⟩
theorem PSs.nox {st : List Stmt} {t : TS} (h : PSs X.nox st t) : PSs X st t := fun pins s σ H D I hw =>
  wpAny_mono (h pins s σ H D (I.wish _) hw) (fun _ _ q => q.unwish) fun _ _ z => False.elim z
end
section
variable {X : Cx} {st : Stmt} {rest : List Stmt} {t u : TS} {e : Expr} {te : TE} {pos : Pos}
def tNext : TS := fun D σ H => D.nx σ H
def tSeq (t u : TS) : TS := fun D σ H => t { D with nx := u D } σ H
theorem pss_nil : PSs X [] tNext := fun _ _ σ H _ I h => wpAny_execs_nil ⟨σ, H, I, h⟩
theorem pss_cons (h1 : PS X st t) (h2 : PSs X rest u) : PSs X (st :: rest) (tSeq t u) := by
  intro pins s σ H D I h
  refine wpAny_execs_cons (thn (h1 pins s σ H { D with nx := u D } I h) fun f s1 q => ?_)
  cases f with
  | next =>
    obtain ⟨σ', H', I', q⟩ := q
    exact h2 pins s1 σ' H' D I' q
  | ret v => exact q
  | brk => exact q
  | cont => exact q
theorem pss_one (h1 : PS X st t) : PSs X [st] t := by
  intro pins s σ H D I h
  refine wpAny_execs_cons (thn (h1 pins s σ H D I h) fun f s1 q => ?_)
  cases f with
  | next => exact wpAny_execs_nil q
  | ret v => exact q
  | brk => exact q
  | cont => exact q
def tBreak : TS := fun D σ H => D.bk σ H
def tCont : TS := fun D σ H => D.ct σ H
theorem Inv.quiet {pins : List (Addr × Obj)} {σ : St} {H : Hp} {s : Shared} (I : Inv X pins σ H s) : interactive X.env = false := by simp [interactive, I.ok.kind]
def tDrop (te : TE) : TS := fun D σ H => te σ H fun _ H1 => D.nx σ H1
theorem ps_expr (he : PE X e te) (hs : swapsWith e none pos.line X.env = pure false := by rfl) : PS X (.Expr e pos) (tDrop te) := by
  intro pins s σ H D I h
  exact wpAny_Expr_any (thn (he pins s σ H _ I h) fun v s1 ⟨x, H1, I1, r1, q1⟩ => ⟨σ, H1, I1, q1⟩) I.quiet hs
def tRet (te : TE) : TS := fun D σ H => te σ H D.rt
theorem ps_ret (he : PE X e te) : PS X (.Return (some e) pos) (tRet te) := by
  intro pins s σ H D I h
  exact wpAny_Return_some (thn (he pins s σ H _ I h) fun v s1 ⟨x, H1, I1, r1, q1⟩ => ⟨x, σ, H1, I1, r1, q1⟩)
def tRetN : TS := fun D _ H => D.rt .non H
def tIfS (c : TT) (t u : TS) : TS := fun D σ H => c σ H fun b H1 => if b = true then t D σ H1 else u D σ H1
theorem ps_if {c : Expr} {a b : List Stmt} {tc : TT} (hc : PT X c tc) (ha : PSs X a t) (hb : PSs X b u) : PS X (.If c a b pos) (tIfS tc t u) := by
  intro pins s σ H D I h
  refine wpAny_If (thn (hc pins s σ H _ I h) fun d s1 ⟨H1, I1, q1⟩ => ?_)
  cases d with
  | true => exact ha pins s1 σ H1 D I1 q1
  | false => exact hb pins s1 σ H1 D I1 q1
def tNever : TS := fun _ _ _ => False
theorem ps_never : PS X st tNever := fun _ _ _ _ _ _ h => h.elim
theorem pss_never {sts : List Stmt} : PSs X sts tNever := fun _ _ _ _ _ _ h => h.elim
end
abbrev TG := V → St → Hp → (St → Hp → Prop) → Prop
abbrev TGs := List V → St → Hp → (St → Hp → Prop) → Prop
def PG (X : Cx) (target : Expr) (t : TG) : Prop :=
  ∀ (pins : List (Addr × Obj)) (s : Shared) (σ : St) (H : Hp) (v : V) (u : Value) (Q : St → Hp → Prop), Inv X pins σ H s → RelV v u → t v σ H Q →
    wpAny (model X.prog X.w) X.A (assign target X.env u) (fun _ s' => ∃ σ' H', Inv X pins σ' H' s' ∧ Q σ' H') X.xe s
def PGs (X : Cx) (ts : List Expr) (t : TGs) : Prop :=
  ∀ (pins : List (Addr × Obj)) (s : Shared) (σ : St) (H : Hp) (vs : List V) (us : List Value) (Q : St → Hp → Prop), Inv X pins σ H s → Vals vs us → t vs σ H Q →
    wpAny (model X.prog X.w) X.A (assignInOrder ((assignEach ts X.env).map (·.2)) us) (fun _ s' => ∃ σ' H', Inv X pins σ' H' s' ∧ Q σ' H') X.xe s
abbrev TSet := V → V → V → Hp → (Hp → Prop) → Prop
def PSet (X : Cx) (t : TSet) : Prop :=
  ∀ (pins : List (Addr × Obj)) (s : Shared) (σ : St) (H : Hp) (o i v : V) (ov iv u : Value) (Q : Hp → Prop), Inv X pins σ H s → RelV o ov → RelV i iv → RelV v u → t o i v H Q →
    wpAny (model X.prog X.w) X.A (setItem ov iv u) (fun _ s' => ∃ H', Inv X pins σ H' s' ∧ Q H') X.xe s
abbrev TIp := V → V → Hp → VK → Prop
def PIp (X : Cx) (op : Operator) (t : TIp) : Prop :=
  ∀ (pins : List (Addr × Obj)) (s : Shared) (σ : St) (H : Hp) (x y : V) (v u : Value) (Q : VK), Inv X pins σ H s → RelV x v → RelV y u → t x y H Q →
    wpAny (model X.prog X.w) X.A (inplaceOp op v u) (EP X pins σ Q) X.xe s
section
variable {X : Cx} {pos : Pos}
def gName (i : Nat) : TG := fun v σ H Q => Q (σ.set i (some v)) H
theorem pg_name {i : Nat} {x : Str} (hN : X.N.Nodup) (hi : X.N[i]? = some x) (hx : Loc X.env.scope x) (hf : X.fn x = true ∨ X.env.scope.names.lookup x = some .local := by first | exact .inl rfl | exact .inr rfl | assumption) : PG X (.Name x pos) (gName i) := by
  intro pins s σ H v u Q I r h
  exact wpAny_assign_Name (store_ok I hN hi hx r (fun s' I' => ⟨_, H, I', h⟩) hf)
def gNil : TGs := fun vs σ H Q => vs = [] ∧ Q σ H
def gCons (t : TG) (u : TGs) : TGs := fun vs σ H Q => ∃ v r, vs = v :: r ∧ t v σ H fun σ' H' => u r σ' H' Q
theorem pgs_nil : PGs X [] gNil := by
  intro pins s σ H vs us Q I r h
  obtain ⟨e, h⟩ := h
  subst e
  cases r
  exact assignInOrder_nil ⟨σ, H, I, h⟩
theorem pgs_cons {e : Expr} {es : List Expr} {t : TG} {u : TGs} (h1 : PG X e t) (h2 : PGs X es u)
    (hs : (assignEach (e :: es) X.env).map (·.2) = assign e X.env :: (assignEach es X.env).map (·.2) := by rfl) : PGs X (e :: es) (gCons t u) := by
  intro pins s σ H vs us Q I r h
  obtain ⟨v, vr, e1, h⟩ := h
  subst e1
  cases r with
  | cons r rr =>
    rw [hs]
    refine assignInOrder_cons (thn (h1 pins s σ H _ _ _ I r h) fun _ s1 ⟨σ1, H1, I1, q1⟩ => ?_)
    exact h2 pins s1 σ1 H1 _ _ Q I1 rr q1
def gTup (K : PySem.W.Frag) (n : Nat) (t : TGs) : TG := fun v σ H Q => ∃ a xs, v = .ref a ∧ SqT K H a xs ∧ xs.length = n ∧ t xs σ H Q
theorem pg_tup {es : List Expr} {k : Nat} {t : TGs} {n : Nat} (hc : X.calm = true) (h : PGs X es t)
    (hn : (assignEach es X.env).length = n := by rfl) (hst : (assignEach es X.env).findIdx? (·.1) = none := by rfl) : PG X (.Tuple es k pos) (gTup X.K n t) := by
  intro pins s σ H v u Q I r hw
  obtain ⟨a, xs, e1, hq, hl, hw⟩ := hw
  subst e1
  cases r
  obtain ⟨its, rv, ht, hz⟩ := I.tuple hq
  refine assign_Tuple_tuple (I.ok.hd hc) ht (by simp [hn, ← hl, rv.length]) hst fun h' hx => ?_
  have I1 : Inv X pins σ H { s with heap := h' } := I.kept (t' := s.toks) fun b o e => hx b o (Nat.ne_of_lt (Heap.lt_size e)) e
  exact h pins _ σ H xs _ Q I1 (by simpa using rv) hw
def gSub (to ti : TE) (t : TSet) : TG := fun v σ H Q => to σ H fun o H1 => ti σ H1 fun i H2 => t o i v H2 fun H3 => Q σ H3
theorem pg_sub {o i : Expr} {to ti : TE} {t : TSet} (ho : PE X o to) (hi : PE X i ti) (hs : PSet X t)
    (ha : ∀ v, assign (.Subscript o i pos) X.env v = (do
      let ov ← holding [v] (eval o X.env)
      let iv ← holding [v, ov] (eval i X.env)
      standAt pos
      holding [v, ov, iv] (setItem ov iv v)
      release [v, ov, iv] []) := by intro _; rfl) : PG X (.Subscript o i pos) (gSub to ti t) := by
  intro pins s σ H v u Q I r h
  rw [ha]
  refine wpAny_bind (wpAny_holding (thn (ho pins s σ H _ I h) fun ov s1 ⟨x, H1, I1, r1, q1⟩ => ?_))
  refine wpAny_bind (wpAny_holding (thn (hi pins s1 σ H1 _ I1 q1) fun iv s2 ⟨y, H2, I2, r2, q2⟩ => ?_))
  refine wpAny_bind (wpAny_standAt (wpAny_bind (wpAny_holding (thn (hs pins s2 σ H2 x y v ov iv u _ I2 r1 r2 r q2) fun _ s3 ⟨H3, I3, q3⟩ => ?_))))
  exact wpAny_release ⟨σ, H3, I3, q3⟩
def tAsg (te : TE) (g : TG) : TS := fun D σ H => te σ H fun x H1 => g x σ H1 D.nx
theorem ps_asg {tg e : Expr} {te : TE} {g : TG} (he : PE X e te) (hg : PG X tg g) (hs : swapsWithSole [tg] e pos.line X.env = pure false := by rfl) (hw : swappedStores [tg] e X.env = pure none := by rfl)
    (h1 : (assignEach [tg] X.env).map (·.2) = [assign tg X.env] := by rfl) : PS X (.Assign [tg] e pos) (tAsg te g) := by
  intro pins s σ H D I h
  refine wpAny_Assign_stores (thn (he pins s σ H _ I h) fun v s1 ⟨x, H1, I1, r1, q1⟩ => ?_) hs hw
  rw [h1]
  exact thn (hg pins s1 σ H1 x v _ I1 r1 q1) fun _ s2 q => q
theorem ps_set {i : Nat} {x : Str} {e : Expr} {te : TE} {pos' : Pos} (hN : X.N.Nodup) (hi : X.N[i]? = some x) (hx : Loc X.env.scope x) (he : PE X e te) (hs : swapsWith e (some (.Name x pos')) pos.line X.env = pure false := by rfl) (hf : X.fn x = true ∨ X.env.scope.names.lookup x = some .local := by first | exact .inl rfl | exact .inr rfl | assumption) :
    PS X (.Assign [.Name x pos'] e pos) (tAsg te (gName i)) := by
  intro pins s σ H D I h
  refine wpAny_Assign_Name (thn (he pins s σ H _ I h) fun v s1 ⟨y, H1, I1, r1, q1⟩ => ?_) hs
  exact store_ok I1 hN hi hx r1 (fun s2 I2 => ⟨_, H1, I2, q1⟩) hf
def tPar (i j : Nat) (ta : TA) : TS := fun D σ H => ta σ H fun vs H1 => ∃ v w, vs = [v, w] ∧ D.nx ((σ.set i (some v)).set j (some w)) H1
def tAug (i : Nat) (te : TE) (ti : TIp) : TS := fun D σ H => ∃ x, σ[i]? = some (some x) ∧ te σ H fun y H1 => ti x y H1 fun z H2 => D.nx (σ.set i (some z)) H2
def tAugS (to ti te : TE) (tget : V → V → Hp → VK → Prop) (tip : TIp) (tset : TSet) : TS := fun D σ H => to σ H fun o H1 => ti σ H1 fun i H2 => tget o i H2 fun x H3 => te σ H3 fun y H4 => tip x y H4 fun z H5 => tset o i z H5 fun H6 => D.nx σ H6
def PGet (X : Cx) (t : V → V → Hp → VK → Prop) : Prop :=
  ∀ (pins : List (Addr × Obj)) (s : Shared) (σ : St) (H : Hp) (o i : V) (ov iv : Value) (Q : VK), Inv X pins σ H s → RelV o ov → RelV i iv → t o i H Q →
    wpAny (model X.prog X.w) X.A (getItem ov iv) (EP X pins σ Q) X.xe s
def ipI (f : Int → Int → Int) : TIp := fun x y H Q => ∃ i j, x = .int i ∧ y = .int j ∧ Q (.int (f i j)) H
end
section
variable {X : Cx} {pos : Pos}
def tWhile (c : TT) (tb : TS) : TS := fun D σ H => ∃ W : Nat → St → Hp → Prop, (∃ m, W m σ H) ∧ ∀ m σ H, W m σ H →
  c σ H fun b H1 => if b = true then ∃ N : St → Hp → Prop, (∀ σ' H', N σ' H' → ∃ m', m' < m ∧ W m' σ' H') ∧ tb { D with nx := N, ct := N, bk := D.nx } σ H1 else D.nx σ H1
end
structure It where
  go : Nat → Hp → Prop
  yld : Nat → Hp → V → Hp → Prop
  stop : Nat → Hp → Prop
def FpOk (X : Cx) (pins : List (Addr × Obj)) (H : Hp) (b : Addr) : Prop :=
  H b = none ∧ b ≠ X.env.locals ∧ b ∉ X.fs ∧ (b ∈ X.ex ∨ X.s₀.heap.objs.size ≤ b) ∧ (∀ x c, X.env.cells.lookup x = some c → c ≠ b) ∧ ∀ p ∈ X.pn ++ pins, p.1 ≠ b
theorem Inv.fpOk {X : Cx} {pins : List (Addr × Obj)} {σ : St} {H H' : Hp} {s : Shared} {b : Addr} (I : Inv X pins σ H s) (hb : s.heap.objs.size ≤ b) (hn : H' b = none) : FpOk X pins H' b := by
  refine ⟨hn, Nat.ne_of_gt (Nat.lt_of_lt_of_le I.lt hb), I.nofs hb, .inr (Nat.le_trans I.sz hb), fun x c e z => ?_, fun p hp z => ?_⟩
  · obtain ⟨v, q⟩ := I.cell x c e
    exact absurd (Nat.lt_of_lt_of_le q.lt (by rw [z]; exact hb)) (Nat.lt_irrefl _)
  · exact absurd (Nat.lt_of_lt_of_le (Heap.lt_size (I.pin p hp).1) (by rw [z]; exact hb)) (Nat.lt_irrefl _)
structure Turn (P : Program) (w : World) (K : PySem.W.Frag) (tg : Expr) (J : It) (fp : List Addr) (it : Addr) (tn : Nat → Heap → Prop) : Prop where
  mem : it ∈ fp
  obj : ∀ i h, tn i h → ∀ b ∈ fp, ∃ o, h.get? b = some o ∧ ∀ v, o.data ≠ .cell v
  keep : ∀ i h h', tn i h → (∀ b ∈ fp, ∀ o, h.get? b = some o → h'.get? b = some o) → tn i h'
  item : ∀ (X : Cx), X.prog = P → X.w = w → X.K = K → X.calm = true → ∀ (i : Nat) (pins : List (Addr × Obj)) (s : Shared) (σ : St) (H : Hp) (E : Value → Shared → Prop), Inv X pins σ H s → (∀ b ∈ fp, FpOk X pins H b) → tn i s.heap → J.go i H →
    wpAny (model P w) X.A (pyNext (.ref it)) (fun r s1 => ∃ u, r = some u ∧
      wpAny (model P w) X.A (letOwnedTupleGo tg (.ref it) u) (fun _ s2 => ∃ x H', Inv X pins σ H' s2 ∧ RelV x u ∧ J.yld i H x H' ∧ tn (i + 1) s2.heap ∧ ∀ b ∈ fp, H' b = none) E s1) E s
  done : ∀ (X : Cx), X.prog = P → X.w = w → X.K = K → X.calm = true → ∀ (i : Nat) (pins : List (Addr × Obj)) (s : Shared) (σ : St) (H : Hp) (E : Value → Shared → Prop), Inv X pins σ H s → (∀ b ∈ fp, FpOk X pins H b) → tn i s.heap → J.stop i H →
    wpAny (model P w) X.A (pyNext (.ref it)) (fun r s1 => r = none ∧ Inv X pins σ H s1) E s
  self : ∀ (A : Around) (i : Nat) (s : Shared) (Q : Value → Shared → Prop) (E : Value → Shared → Prop), tn i s.heap → Q (.ref it) s → wpAny (model P w) A (pyIter (.ref it)) Q E s
abbrev TI := St → Hp → (It → Hp → Prop) → Prop
def PIE (X : Cx) (pins : List (Addr × Obj)) (σ : St) (tg : Expr) (R : It → Hp → Prop) (itv : Value) (s2 : Shared) : Prop :=
  ∃ (it : Addr) (fp : List Addr) (tn : Nat → Heap → Prop) (J : It) (H' : Hp), itv = .ref it ∧ Inv X pins σ H' s2 ∧ Turn X.prog X.w X.K tg J fp it tn ∧ tn 0 s2.heap ∧ (∀ b ∈ fp, FpOk X pins H' b) ∧ R J H'
def PI (X : Cx) (tg iter : Expr) (wi : TI) : Prop :=
  ∀ (pins : List (Addr × Obj)) (s : Shared) (σ : St) (H : Hp) (R : It → Hp → Prop), Inv X pins σ H s → wi σ H R →
    wpAny (model X.prog X.w) X.A (eval iter X.env) (fun v s1 => wpAny (model X.prog X.w) X.A (pyIter v) (PIE X pins σ tg R) X.xe s1) X.xe s
theorem go_of {M : Model} {A : Around} {E : Value → Shared → Prop} {s : Shared} {tg : Expr} {it : Addr} {u : Value} {o : Obj} {n : String} {vs : Array Value} {Q : Unit → Shared → Prop} (ho : s.heap.get? it = some o) (hc : o.cls = .type n) (hd : o.data = .fields vs)
    (hn : ["enumerate", "zip", "dict_itemiterator", "dict_reverseitemiterator", "odict_iterator", "itertools.zip_longest", "itertools.pairwise"].contains n = false) (hQ : Q () s) : wpAny M A (letOwnedTupleGo tg (.ref it) u) Q E s := by
  unfold letOwnedTupleGo
  cases tg <;> first
    | exact wpAny_pure hQ
    | (cases u <;> first
        | exact wpAny_pure hQ
        | (refine wpAny_bind (wpAny_load ho ?_)
           rw [hc, hd]
           show wpAny M A (if (["enumerate", "zip", "dict_itemiterator", "dict_reverseitemiterator", "odict_iterator", "itertools.zip_longest", "itertools.pairwise"].contains n && vs[0]? == some (rawInt _)) = true then _ else _) Q E s
           rw [if_neg (by intro h; rw [hn, Bool.false_and] at h; cases h)]
           exact wpAny_pure hQ))
def Itl (K : PySem.W.Frag) (a : Addr) : It :=
  ⟨fun i H => ∃ xs x, SqL K H a xs ∧ xs[i]? = some x, fun i H x H' => H' = H ∧ ∀ xs, SqL K H a xs → xs[i]? = some x, fun i H => ∃ xs, SqL K H a xs ∧ xs.length ≤ i⟩
def Itt (K : PySem.W.Frag) (a : Addr) : It :=
  ⟨fun i H => ∃ xs x, SqT K H a xs ∧ xs[i]? = some x, fun i H x H' => H' = H ∧ ∀ xs, SqT K H a xs → xs[i]? = some x, fun i H => ∃ xs, SqT K H a xs ∧ xs.length ≤ i⟩
def Itr (lo : Int) (n : Nat) : It := ⟨fun i _ => i < n, fun i H x H' => H' = H ∧ x = .int (lo + i), fun i _ => n ≤ i⟩
theorem turn_list {P : Program} {w : World} {K : PySem.W.Frag} {tg : Expr} (a it : Addr) : Turn P w K tg (Itl K a) [it] it (fun i h => h.IsListIter it a i) where
  mem := by simp
  obj := fun i h st b hb => by
    have e : b = it := by simpa using hb
    subst e
    obtain ⟨o, e, c, d⟩ := st
    exact ⟨o, e, fun v z => by rw [d] at z; cases z⟩
  keep := fun i h h' st k => st.at fun o e => k it (by simp) o e
  item := by
    intro X hP hw hK hc i pins s σ H E I hf st hg
    subst hP hw hK
    obtain ⟨xs, x, hq, hx⟩ := hg
    obtain ⟨its, rv, p, hz⟩ := I.list hq
    obtain ⟨u, hu, ru⟩ := rv.get hx
    obtain ⟨f0, f1, f2, f3, f4, f5⟩ := hf it (by simp)
    refine wpAny_pyNext_list_item st p.isList (x := u) (by simpa using hu) fun h' st' sb => ?_
    have I1 : Inv X pins σ H { s with heap := h' } := I.turned (t' := s.toks) (fun b o hb e => (sb.2 b hb).trans e) f0 f1 f3 f4 f5
    obtain ⟨o, e, c, d⟩ := id st'
    exact ⟨u, rfl, go_of (s := { s with heap := h' }) e c d (by decide) ⟨x, H, I1, ru, ⟨rfl, fun ys hy => by rw [I.list_inj hy hq]; exact hx⟩, st', fun b hb => (hf b hb).1⟩⟩
  done := by
    intro X hP hw hK hc i pins s σ H E I hf st hg
    subst hP hw hK
    obtain ⟨xs, hq, hx⟩ := hg
    obtain ⟨its, rv, p, hz⟩ := I.list hq
    obtain ⟨f0, f1, f2, f3, f4, f5⟩ := hf it (by simp)
    have hl := rv.length
    exact wpAny_pyNext_list_end (I.ok.hd hc) st p.isList (by simp; omega) fun h' eb => ⟨rfl, I.turned (t' := s.toks) (fun b o hb e => eb b o hb e) f0 f1 f3 f4 f5⟩
  self := fun _ _ _ _ _ st h => wpAny_pyIter_listiter st h
theorem turn_range {P : Program} {w : World} {K : PySem.W.Frag} {tg : Expr} (it : Addr) (lo : Int) (n : Nat) : Turn P w K tg (Itr lo n) [it] it (fun i h => IsRangeIter h it (lo + (i : Nat) * 1) ((n : Int) - (i : Nat)) 1) where
  mem := by simp
  obj := fun i h st b hb => by
    have e : b = it := by simpa using hb
    subst e
    exact ⟨_, st, fun v z => by
      have z' : Data.fields _ = Data.cell v := z
      cases z'⟩
  keep := fun i h h' st k => k it (by simp) _ st
  item := by
    intro X hP hw hK hc i pins s σ H E I hf st hg
    subst hP hw hK
    obtain ⟨f0, f1, f2, f3, f4, f5⟩ := hf it (by simp)
    have W := Walks.range (prog := X.prog) (w := X.w) (I.ok.hd hc) it lo 1 n
    refine W.item i s _ _ hg st fun v h' tk hv st' kk => ?_
    obtain ⟨t, rfl⟩ := hv
    have I1 : Inv X pins σ H { s with heap := h', toks := tk } := I.turned (fun b o hb e => kk b o (by simpa using hb) e) f0 f1 f3 f4 f5
    refine ⟨_, rfl, go_of (s := { s with heap := h', toks := tk }) (n := "range_iterator") st' rfl rfl (by decide) ⟨.int (lo + i), H, I1, ⟨t, ?_⟩, ⟨rfl, rfl⟩, st', fun b hb => (hf b hb).1⟩⟩
    rw [Int.mul_one]
  done := by
    intro X hP hw hK hc i pins s σ H E I hf st hg
    subst hP hw hK
    obtain ⟨f0, f1, f2, f3, f4, f5⟩ := hf it (by simp)
    exact wpAny_pyNext_range_end (I.ok.hd hc) st (by have : n ≤ i := hg; omega) fun h' eb => ⟨rfl, I.turned (t' := s.toks) (fun b o hb e => eb b o hb e) f0 f1 f3 f4 f5⟩
  self := fun _ _ _ _ _ st h => wpAny_pyIter_rangeiter st h
end L2
namespace L2
open PySem PySem.Spec PyProof.Rows
section
variable {X : Cx} {tg : Expr}
def iList (K : PySem.W.Frag) (tl : TE) : TI := fun σ H R => tl σ H fun x H1 => ∃ a, x = .ref a ∧ (∃ xs, SqL K H1 a xs) ∧ R (Itl K a) H1
def iTup (K : PySem.W.Frag) (tl : TE) : TI := fun σ H R => tl σ H fun x H1 => ∃ a, x = .ref a ∧ (∃ xs, SqT K H1 a xs) ∧ R (Itt K a) H1
theorem pi_list {l : Expr} {tl : TE} (hl : PE X l tl) : PI X tg l (iList X.K tl) := by
  intro pins s σ H R I h
  refine thn (hl pins s σ H _ I h) fun v s1 ⟨x, H1, I1, r1, q1⟩ => ?_
  obtain ⟨a, e, ⟨xs, hq⟩, q⟩ := q1
  subst e
  cases r1
  obtain ⟨its, rv, p, hz⟩ := I1.list hq
  refine wpAny_pyIter_list p.isList ?_
  refine ⟨s1.heap.objs.size, [s1.heap.objs.size], _, _, H1, rfl, I1.kept (t' := s1.toks) fun b o e => Heap.get?_push_of_some _ e, turn_list a _, ⟨_, Heap.get?_push_size _ rfl, rfl, rfl⟩, fun b hb => ?_, q⟩
  have e : b = s1.heap.objs.size := by simpa using hb
  subst e
  exact I1.fpOk (Nat.le_refl _) (I1.hok.fresh (Nat.le_refl _))
theorem range_it {pins : List (Addr × Obj)} {σ : St} {H : Hp} {s : Shared} {R : It → Hp → Prop} {E : Value → Shared → Prop} {lo hi : Int} {t u v : Tok} {tk : Nat} (I : Inv X pins σ H s) (h1 : -(2 ^ 62) ≤ lo) (h2 : lo < 2 ^ 62) (h3 : -(2 ^ 62) ≤ hi) (h4 : hi < 2 ^ 62)
    (q : R (Itr lo (hi - lo).toNat) H) : wpAny (model X.prog X.w) X.A (pyIter (.ref s.heap.objs.size)) (PIE X pins σ tg R) E { s with heap := s.heap.push { cls := .type "range", data := .fields #[.int lo t, .int hi u, .int 1 v] }, toks := tk } := by
  refine wpAny_pyIter_range (IsRange.new ..) (small_one h1 h2 h3 h4) ?_
  have I1 : Inv X pins σ H { s with heap := s.heap.push { cls := .type "range", data := .fields #[.int lo t, .int hi u, .int 1 v] }, toks := tk } := I.kept fun b o e => Heap.get?_push_of_some _ e
  refine ⟨(s.heap.push { cls := .type "range", data := .fields #[.int lo t, .int hi u, .int 1 v] }).objs.size, [(s.heap.push { cls := .type "range", data := .fields #[.int lo t, .int hi u, .int 1 v] }).objs.size], _, _, H, rfl,
    I1.kept (t' := tk) fun b o e => Heap.get?_push_of_some _ e, turn_range _ lo (hi - lo).toNat, ?_, fun b hb => ?_, q⟩
  · have e1 : lo + ((0 : Nat) : Int) * 1 = lo := by simp
    have e2 : (((hi - lo).toNat : Nat) : Int) - ((0 : Nat) : Int) = Builtin.Range.rangeSize lo hi 1 := by rw [rangeSize_one]; split <;> omega
    show IsRangeIter _ _ (lo + ((0 : Nat) : Int) * 1) ((((hi - lo).toNat : Nat) : Int) - ((0 : Nat) : Int)) 1
    rw [e1, e2]
    exact Heap.get?_push_size _ rfl
  · have e : b = (s.heap.push { cls := .type "range", data := .fields #[.int lo t, .int hi u, .int 1 v] }).objs.size := by simpa using hb
    subst e
    exact I1.fpOk (Nat.le_refl _) (I1.hok.fresh (Nat.le_refl _))
def iRng1 (ta : TA) : TI := fun σ H R => ta σ H fun vs H1 => ∃ j : Int, vs = [.int j] ∧ -(2 ^ 62) ≤ j ∧ j < 2 ^ 62 ∧ R (Itr 0 j.toNat) H1
def iRng2 (ta : TA) : TI := fun σ H R => ta σ H fun vs H1 => ∃ i j : Int, vs = [.int i, .int j] ∧ (-(2 ^ 62) ≤ i ∧ i < 2 ^ 62 ∧ -(2 ^ 62) ≤ j ∧ j < 2 ^ 62) ∧ R (Itr i (j - i).toNat) H1
theorem pi_range1 {a : Expr} {ta : TA} {p pos : Pos} (hg : Gl X "range") (hm : X.mg "range" = none) (ha : PA X [a] ta) (hs : starEach [a] X.env = [(false, eval a X.env)] := by rfl) : PI X tg (.Call (.Name "range" p) [a] [] pos) (iRng1 ta) := by
  intro pins s σ H R I h
  refine Call_ (ld_blt I hg hm boot_range (PyProof.Rows.callWith_type1 (thn (ha pos pins s σ H _ I h) fun us s1 ⟨vs, H1, I1, r1, q1⟩ => ?_) hs rfl))
  obtain ⟨j, e, q1, q2, q⟩ := q1
  subst e
  cases r1 with
  | cons r rr =>
    cases rr
    obtain ⟨t, rfl⟩ := r
    exact call_range_1 (range_it I1 (by omega) (by omega) q1 q2 (by simpa using q))
theorem pi_range2 {a b : Expr} {ta : TA} {p pos : Pos} (hg : Gl X "range") (hm : X.mg "range" = none) (ha : PA X [a, b] ta) (hs : starEach [a, b] X.env = [(false, eval a X.env), (false, eval b X.env)] := by rfl) (hs2 : starEach [b] X.env = [(false, eval b X.env)] := by rfl) :
    PI X tg (.Call (.Name "range" p) [a, b] [] pos) (iRng2 ta) := by
  intro pins s σ H R I h
  refine Call_ (ld_blt I hg hm boot_range (PyProof.Rows.callWith_type1 (thn (ha pos pins s σ H _ I h) fun us s1 ⟨vs, H1, I1, r1, q1⟩ => ?_) (by rw [hs, hs2]) (by rw [hs2]; rfl)))
  obtain ⟨i, j, e, ⟨q1, q2, q3, q4⟩, q⟩ := q1
  subst e
  cases r1 with
  | cons r rr =>
    cases rr with
    | cons r' rr =>
      cases rr
      obtain ⟨t, rfl⟩ := r
      obtain ⟨t', rfl⟩ := r'
      exact call_range_2 (range_it I1 q1 q2 q3 q4 q)
def tFor (wi : TI) (g : TG) (tb : TS) : TS := fun D σ H => wi σ H fun J H1 => ∃ W : Nat → Nat → St → Hp → Prop, (∃ m, W 0 m σ H1) ∧ ∀ i m σ H, W i m σ H →
  (J.stop i H ∧ D.nx σ H) ∨ (J.go i H ∧ ∃ N : St → Hp → Prop, (∀ σ' H', N σ' H' → ∃ m', m' < m ∧ W (i + 1) m' σ' H') ∧ ∀ x H', J.yld i H x H' → g x σ H' fun σ2 H2 => tb { D with nx := N, ct := N, bk := D.nx } σ2 H2)
def pinsAt (fp : List Addr) (h : Heap) : List (Addr × Obj) := fp.filterMap fun b => (h.get? b).map fun o => (b, o)
theorem mem_pinsAt {fp : List Addr} {h : Heap} {b : Addr} {o : Obj} (hb : b ∈ fp) (e : h.get? b = some o) : (b, o) ∈ pinsAt fp h := List.mem_filterMap.mpr ⟨b, hb, by rw [e]; rfl⟩
theorem of_pinsAt {fp : List Addr} {h : Heap} {p : Addr × Obj} (hp : p ∈ pinsAt fp h) : p.1 ∈ fp ∧ h.get? p.1 = some p.2 := by
  obtain ⟨b, hb, e⟩ := List.mem_filterMap.mp hp
  cases q : h.get? b with
  | none => rw [q] at e; cases e
  | some o =>
    rw [q] at e
    have e' : (b, o) = p := Option.some.inj e
    subst e'
    exact ⟨hb, q⟩
theorem Inv.pinned {pins : List (Addr × Obj)} {σ : St} {H : Hp} {s : Shared} {fp : List Addr} (I : Inv X pins σ H s) (hf : ∀ b ∈ fp, FpOk X pins H b) (ho : ∀ b ∈ fp, ∃ o, s.heap.get? b = some o ∧ ∀ v, o.data ≠ .cell v) : Inv X (pins ++ pinsAt fp s.heap) σ H s :=
  I.pins_of fun p hp => (List.mem_append.mp hp).elim (fun z => I.pin p (List.mem_append_right _ z)) fun z => by
    obtain ⟨hb, e⟩ := of_pinsAt z
    obtain ⟨f0, f1, f2, _⟩ := hf p.1 hb
    obtain ⟨o, e', d⟩ := ho p.1 hb
    rw [e] at e'; cases e'
    exact ⟨e, f0, f1, f2, d⟩
theorem Inv.unpinned {pins pl : List (Addr × Obj)} {σ : St} {H : Hp} {s : Shared} (I : Inv X (pins ++ pl) σ H s) : Inv X pins σ H s := I.pins_of fun p hp => I.pin p (List.mem_append_right _ (List.mem_append_left _ hp))
theorem ps_for {iter : Expr} {body : List Stmt} {wi : TI} {g : TG} {tb : TS} {pos : Pos} (hp : PassesOwn (model X.prog X.w) X.A X.env X.xe) (hc : X.calm = true) (hi : PI X tg iter wi) (hg : PG X tg g) (hb : PSs X body tb)
    (hs : ∀ x, foldedSetIterable iter X.env x = pure x := by intro _; rfl) : PS X (.For tg iter body [] pos) (tFor wi g tb) := by
  intro pins s σ H D I h
  refine wpAny_For (thn (hi pins s σ H _ I h) fun v s1 h1 => thn h1 fun itv s2 h2 => ?_) hs
  obtain ⟨it, fp, tn, J, H2, e, I2, T, st2, f2, W, ⟨m0, w0⟩, turn⟩ := h2
  subst e
  have stat : ∀ {H' : Hp}, (∀ b ∈ fp, H' b = none) → ∀ b ∈ fp, FpOk X pins H' b := fun hn b hb => ⟨hn b hb, (f2 b hb).2⟩
  refine codeAny_forLoop_any (fun n s' => ∃ i σ' H', Inv X pins σ' H' s' ∧ tn i s'.heap ∧ (∀ b ∈ fp, H' b = none) ∧ W i n σ' H') ?_ m0 ⟨0, σ, H2, I2, st2, fun b hb => (f2 b hb).1, w0⟩
  rintro n s3 ⟨i, σ3, H3, I3, st3, fr3, w3⟩
  rcases turn i n σ3 H3 w3 with ⟨stop, qn⟩ | ⟨go, N, hN, step⟩
  · refine wpAny_passesOwn hp (thn (T.done X rfl rfl rfl hc i pins s3 σ3 H3 X.xe I3 (stat fr3) st3 stop) fun r s4 ⟨hr, I4⟩ => ?_)
    subst hr
    exact wpAny_execs_nil ⟨σ3, H3, I4, qn⟩
  · refine wpAny_passesOwn hp (thn (T.item X rfl rfl rfl hc i pins s3 σ3 H3 X.xe I3 (stat fr3) st3 go) fun r s4 ⟨u, hr, h4⟩ => ?_)
    subst hr
    refine wpAny_passesOwn hp (thn h4 fun _ s5 ⟨x, H5, I5, r5, y5, st5, fr5⟩ => ?_)
    have I5' := I5.pinned (stat fr5) (T.obj _ _ st5)
    refine wpAny_passesOwn hp (thn (hg _ s5 σ3 H5 x u _ I5' r5 (step x H5 y5)) fun _ s6 ⟨σ6, H6, I6, q6⟩ => ?_)
    refine wpAny_passesOwn hp (thn (hb _ s6 σ6 H6 _ I6 q6) fun f s7 q7 => ?_)
    have again : ∀ {σ7 : St} {H7 : Hp}, Inv X (pins ++ pinsAt fp s5.heap) σ7 H7 s7 → N σ7 H7 → ∃ m, m < n ∧ ∃ i σ' H', Inv X pins σ' H' s7 ∧ tn i s7.heap ∧ (∀ b ∈ fp, H' b = none) ∧ W i m σ' H' := fun {σ7 H7} I7 n7 => by
      obtain ⟨m', hm, w7⟩ := hN σ7 H7 n7
      refine ⟨m', hm, i + 1, σ7, H7, I7.unpinned, T.keep _ _ _ st5 fun b hb o e => (I7.pin (b, o) (List.mem_append_right _ (List.mem_append_right _ (mem_pinsAt hb e)))).1, fun b hb => ?_, w7⟩
      obtain ⟨o, e, d⟩ := T.obj _ _ st5 b hb
      exact (I7.pin (b, o) (List.mem_append_right _ (List.mem_append_right _ (mem_pinsAt hb e)))).2.1
    cases f with
    | next => obtain ⟨σ7, H7, I7, n7⟩ := q7; exact again I7 n7
    | cont => obtain ⟨σ7, H7, I7, n7⟩ := q7; exact again I7 n7
    | brk => obtain ⟨σ7, H7, I7, q7⟩ := q7; exact ⟨σ7, H7, I7.unpinned, q7⟩
    | ret v => obtain ⟨x7, σ7, H7, I7, r7, q7⟩ := q7; exact ⟨x7, σ7, H7, I7.unpinned, r7, q7⟩
end
theorem for_list {K : PySem.W.Frag} {a : Addr} {xs : List V} {g : TG} {tb : TS} {D : Ends} {σ : St} {H : Hp} (Pv : Nat → St → Hp → Prop) (h0 : Pv 0 σ H) (hl : ∀ i σ H, i ≤ xs.length → Pv i σ H → SqL K H a xs)
    (hs : ∀ i x σ H, xs[i]? = some x → Pv i σ H → g x σ H fun σ2 H2 => tb { D with nx := Pv (i + 1), ct := Pv (i + 1), bk := D.nx } σ2 H2) (hd : ∀ σ H, Pv xs.length σ H → D.nx σ H) :
    ∃ W : Nat → Nat → St → Hp → Prop, (∃ m, W 0 m σ H) ∧ ∀ i m σ H, W i m σ H →
      ((Itl K a).stop i H ∧ D.nx σ H) ∨ ((Itl K a).go i H ∧ ∃ N : St → Hp → Prop, (∀ σ' H', N σ' H' → ∃ m', m' < m ∧ W (i + 1) m' σ' H') ∧ ∀ x H', (Itl K a).yld i H x H' → g x σ H' fun σ2 H2 => tb { D with nx := N, ct := N, bk := D.nx } σ2 H2) := by
  refine ⟨fun i m σ H => m = xs.length - i ∧ i ≤ xs.length ∧ Pv i σ H, ⟨xs.length, by simp, Nat.zero_le _, h0⟩, ?_⟩
  rintro i m σ H ⟨rfl, hi, p⟩
  have q := hl i σ H hi p
  by_cases hlt : i < xs.length
  · refine .inr ⟨⟨xs, xs[i], q, by simp [hlt]⟩, Pv (i + 1), fun σ' H' p' => ⟨xs.length - (i + 1), by omega, rfl, hlt, p'⟩, fun x H' y => ?_⟩
    obtain ⟨e, y⟩ := y
    subst e
    exact hs i x σ _ (y xs q) p
  · have e : i = xs.length := by omega
    subst e
    exact .inl ⟨⟨xs, q, Nat.le_refl _⟩, hd σ H p⟩
theorem for_range {lo : Int} {n : Nat} {g : TG} {tb : TS} {D : Ends} {σ : St} {H : Hp} (Pv : Nat → St → Hp → Prop) (h0 : Pv 0 σ H)
    (hs : ∀ i σ H, i < n → Pv i σ H → g (.int (lo + i)) σ H fun σ2 H2 => tb { D with nx := Pv (i + 1), ct := Pv (i + 1), bk := D.nx } σ2 H2) (hd : ∀ σ H, Pv n σ H → D.nx σ H) :
    ∃ W : Nat → Nat → St → Hp → Prop, (∃ m, W 0 m σ H) ∧ ∀ i m σ H, W i m σ H →
      ((Itr lo n).stop i H ∧ D.nx σ H) ∨ ((Itr lo n).go i H ∧ ∃ N : St → Hp → Prop, (∀ σ' H', N σ' H' → ∃ m', m' < m ∧ W (i + 1) m' σ' H') ∧ ∀ x H', (Itr lo n).yld i H x H' → g x σ H' fun σ2 H2 => tb { D with nx := N, ct := N, bk := D.nx } σ2 H2) := by
  refine ⟨fun i m σ H => m = n - i ∧ i ≤ n ∧ Pv i σ H, ⟨n, by simp, Nat.zero_le _, h0⟩, ?_⟩
  rintro i m σ H ⟨rfl, hi, p⟩
  by_cases hlt : i < n
  · refine .inr ⟨hlt, Pv (i + 1), fun σ' H' p' => ⟨n - (i + 1), by omega, rfl, hlt, p'⟩, fun x H' y => ?_⟩
    obtain ⟨e, y⟩ := y
    subst e y
    exact hs i σ _ hlt p
  · have e : i = n := by omega
    subst e
    exact .inl ⟨Nat.le_refl _, hd σ H p⟩
end L2
namespace L2
open PySem PySem.Spec PyProof.Rows
abbrev R2 := V → V → Hp → VK → Prop
def OpR (X : Cx) (f : Value → Value → Sem Value) (r : R2) : Prop :=
  ∀ (pins : List (Addr × Obj)) (s : Shared) (σ : St) (H : Hp) (x y : V) (v u : Value) (Q : VK), Inv X pins σ H s → RelV x v → RelV y u → r x y H Q →
    wpAny (model X.prog X.w) X.A (f v u) (EP X pins σ Q) X.xe s
def UnR (X : Cx) (f : Value → Sem Value) (r : V → Hp → VK → Prop) : Prop :=
  ∀ (pins : List (Addr × Obj)) (s : Shared) (σ : St) (H : Hp) (x : V) (v : Value) (Q : VK), Inv X pins σ H s → RelV x v → r x H Q →
    wpAny (model X.prog X.w) X.A (f v) (EP X pins σ Q) X.xe s
def CallR (X : Cx) (f : Value) (r : List V → Hp → VK → Prop) : Prop :=
  ∀ (pins : List (Addr × Obj)) (s : Shared) (σ : St) (H : Hp) (xs : List V) (us : List Value) (Q : VK), Inv X pins σ H s → Vals xs us → r xs H Q →
    wpAny (model X.prog X.w) X.A (call f us) (EP X pins σ Q) X.xe s
def TruR (X : Cx) (r : V → Hp → (Bool → Hp → Prop) → Prop) : Prop :=
  ∀ (pins : List (Addr × Obj)) (s : Shared) (σ : St) (H : Hp) (x : V) (v : Value) (Q : Bool → Hp → Prop), Inv X pins σ H s → RelV x v → r x H Q →
    wpAny (model X.prog X.w) X.A (truthy v) (TP X pins σ Q) X.xe s
def tOp (r : R2) (ta tb : TE) : TE := fun σ H Q => ta σ H fun x H1 => tb σ H1 fun y H2 => r x y H2 Q
def tUn (r : V → Hp → VK → Prop) (ta : TE) : TE := fun σ H Q => ta σ H fun x H1 => r x H1 Q
def rI (C : Int → Int → Prop) (g : Int → Int → V) : R2 := fun x y H Q => ∃ i j, x = .int i ∧ y = .int j ∧ C i j ∧ Q (g i j) H
def rI0 (g : Int → Int → V) : R2 := fun x y H Q => ∃ i j, x = .int i ∧ y = .int j ∧ Q (g i j) H
def rU (g : Int → V) : V → Hp → VK → Prop := fun x H Q => ∃ i, x = .int i ∧ Q (g i) H
section
variable {X : Cx} {a b c : Expr} {ta tb tc : TE} {pos : Pos}
theorem binT (ha : PE X a ta) (hb : PE X b tb) {pins : List (Addr × Obj)} {s : Shared} {σ : St} {H : Hp} {R : V → V → Hp → Prop} (I : Inv X pins σ H s)
    (h : ta σ H fun x H1 => tb σ H1 fun y H2 => R x y H2) {Q : Value → Shared → Prop} {f : Value → Value → Sem Value}
    (hf : ∀ v u s2 x y H2, Inv X pins σ H2 s2 → RelV x v → RelV y u → R x y H2 → wpAny (model X.prog X.w) X.A (f v u) Q X.xe s2) :
    wpAny (model X.prog X.w) X.A (eval a X.env) (fun v s₁ => wpAny (model X.prog X.w) X.A (eval b X.env) (fun u s₂ => wpAny (model X.prog X.w) X.A (f v u) Q X.xe s₂) X.xe s₁) X.xe s := by
  refine thn (ha pins s σ H _ I h) fun v s1 ⟨x, H1, I1, r1, q1⟩ => ?_
  refine thn (hb pins s1 σ H1 _ I1 q1) fun u s2 ⟨y, H2, I2, r2, q2⟩ => ?_
  exact hf v u s2 x y H2 I2 r1 r2 q2
theorem pe_op {op : Operator} {r : R2} (ho : OpR X (binaryOp op) r) (ha : PE X a ta) (hb : PE X b tb) : PE X (.BinOp a op b pos) (tOp r ta tb) := by
  intro pins s σ H Q I h
  exact wpAny_BinOp (binT ha hb I h fun v u s2 x y H2 I2 rx ry q => ho pins s2 σ H2 x y v u Q I2 rx ry q)
theorem pe_un {op : UnaryOp} {r : V → Hp → VK → Prop} (ho : UnR X (unaryOp op) r) (ha : PE X a ta) : PE X (.UnaryOp op a pos) (tUn r ta) := by
  intro pins s σ H Q I h
  exact UnaryOp_ (thn (ha pins s σ H _ I h) fun v s1 ⟨x, H1, I1, r1, q1⟩ => ho pins s1 σ H1 x v Q I1 r1 q1)
theorem opI {f : Value → Value → Sem Value} {C : Int → Int → Prop} {g : Int → Int → Int}
    (rule : ∀ (i j : Int) (t u : Tok) (s : Shared) (Q : Value → Shared → Prop) (E : Value → Shared → Prop), C i j → Q (.int (g i j) s.toks) { s with toks := s.toks + 1 } → wpAny (model X.prog X.w) X.A (f (.int i t) (.int j u)) Q E s) :
    OpR X f (rI C fun i j => .int (g i j)) := by
  intro pins s σ H x y v u Q I rx ry h
  obtain ⟨i, j, rfl, rfl, hc, q⟩ := h
  obtain ⟨t, rfl⟩ := rx
  obtain ⟨t', rfl⟩ := ry
  exact rule i j t t' s _ _ hc ⟨.int (g i j), H, I.tok _, ⟨_, rfl⟩, q⟩
theorem opI0 {f : Value → Value → Sem Value} {g : Int → Int → Int}
    (rule : ∀ (i j : Int) (t u : Tok) (s : Shared) (Q : Value → Shared → Prop) (E : Value → Shared → Prop), Q (.int (g i j) s.toks) { s with toks := s.toks + 1 } → wpAny (model X.prog X.w) X.A (f (.int i t) (.int j u)) Q E s) :
    OpR X f (rI0 fun i j => .int (g i j)) := by
  intro pins s σ H x y v u Q I rx ry h
  obtain ⟨i, j, rfl, rfl, q⟩ := h
  obtain ⟨t, rfl⟩ := rx
  obtain ⟨t', rfl⟩ := ry
  exact rule i j t t' s _ _ ⟨.int (g i j), H, I.tok _, ⟨_, rfl⟩, q⟩
theorem opB0 {f : Value → Value → Sem Value} {g : Int → Int → Bool}
    (rule : ∀ (i j : Int) (t u : Tok) (s : Shared) (Q : Value → Shared → Prop) (E : Value → Shared → Prop), Q (.bool (g i j)) s → wpAny (model X.prog X.w) X.A (f (.int i t) (.int j u)) Q E s) :
    OpR X f (rI0 fun i j => .bl (g i j)) := by
  intro pins s σ H x y v u Q I rx ry h
  obtain ⟨i, j, rfl, rfl, q⟩ := h
  obtain ⟨t, rfl⟩ := rx
  obtain ⟨t', rfl⟩ := ry
  exact rule i j t t' s _ _ ⟨.bl (g i j), H, I, rfl, q⟩
def CDiv (i j : Int) : Prop := 0 < j ∧ j < 1073741824
def CDivN (i j : Int) : Prop := j ≠ 0 ∧ j.natAbs < 1073741824
def CPow (i j : Int) : Prop := 0 ≤ j ∧ j ≤ 1000000 ∧ i.natAbs < 2 ^ 64
def CMul (i j : Int) : Prop := (-(2 ^ 64) < i ∧ i < 2 ^ 64) ∨ (-(2 ^ 64) < j ∧ j < 2 ^ 64)
theorem CMul.ok {i j : Int} (h : CMul i j) : IntMulOk i j := by
  rcases h with ⟨h1, h2⟩ | ⟨h1, h2⟩
  · exact .of_left (intBits_le_64 h1 h2)
  · exact .of_right (intBits_le_64 h1 h2)
theorem op_add : OpR X (binaryOp .Add) (rI0 fun i j => .int (i + j)) := opI0 fun _ _ _ _ _ _ _ q => add_int q
theorem op_sub : OpR X (binaryOp .Sub) (rI0 fun i j => .int (i - j)) := opI0 fun _ _ _ _ _ _ _ q => sub_int q
theorem op_mul : OpR X (binaryOp .Mult) (rI CMul fun i j => .int (i * j)) := opI fun _ _ _ _ _ _ _ hc q => mul_int q hc.ok
theorem op_fdiv : OpR X (binaryOp .FloorDiv) (rI CDiv fun i j => .int (i / j)) := opI fun i j _ _ _ _ _ hc q => by
  have h1 : (0 : Int) < j := hc.1
  have h2 : j < 1073741824 := hc.2
  exact floordiv_int (by omega) (by rw [Int.fdiv_eq_ediv_of_nonneg i (by omega)]; exact q) (.inl (PyProof.noPylong_small (by omega)))
theorem op_mod : OpR X (binaryOp .Mod) (rI (fun _ j => 0 < j) fun i j => .int (i % j)) := opI fun i j _ _ _ _ _ hc q => by
  have h1 : (0 : Int) < j := hc
  exact mod_int' (by omega) (by rw [Int.fmod_eq_emod_of_nonneg i (by omega)]; exact q)
theorem op_pow : OpR X (binaryOp .Pow) (rI CPow fun i j => .int (i ^ j.toNat)) := opI fun _ _ _ _ _ _ _ hc q => pow_int_small hc.1 hc.2.1 hc.2.2 q
theorem unI {f : Value → Sem Value} {g : Int → Int}
    (rule : ∀ (i : Int) (t : Tok) (s : Shared) (Q : Value → Shared → Prop) (E : Value → Shared → Prop), Q (.int (g i) s.toks) { s with toks := s.toks + 1 } → wpAny (model X.prog X.w) X.A (f (.int i t)) Q E s) :
    UnR X f (rU fun i => .int (g i)) := by
  intro pins s σ H x v Q I rx h
  obtain ⟨i, rfl, q⟩ := h
  obtain ⟨t, rfl⟩ := rx
  exact rule i t s _ _ ⟨.int (g i), H, I.tok _, ⟨_, rfl⟩, q⟩
theorem un_neg : UnR X (unaryOp .USub) (rU fun i => .int (-i)) := unI fun _ _ _ _ _ q => neg_int q
end
def scal : V → V → Bool
  | .non, .non => true | .non, .int _ => true | .int _, .non => true | .non, .bl _ => true | .bl _, .non => true | .non, .str _ => true | .str _, .non => true
  | .int _, .int _ => true | .bl _, .bl _ => true | .str _, .str _ => true | .byt _, .byt _ => true
  | .int _, .str _ => true | .str _, .int _ => true | .bl _, .str _ => true | .str _, .bl _ => true
  | _, _ => false
def rEq : R2 := fun x y H Q => scal x y = true ∧ Q (.bl (decide (x = y))) H
def rNe : R2 := fun x y H Q => scal x y = true ∧ Q (.bl (!decide (x = y))) H
theorem dec_int {i j : Int} : decide (V.int i = V.int j) = (i == j) := by
  rw [Bool.eq_iff_iff]
  simp
theorem dec_bl {i j : Bool} : decide (V.bl i = V.bl j) = (i == j) := by
  rw [Bool.eq_iff_iff]
  simp
theorem dec_str {i j : Str} : decide (V.str i = V.str j) = (i == j) := by
  rw [Bool.eq_iff_iff]
  simp
theorem dec_byt {i j : Array UInt8} : decide (V.byt i = V.byt j) = (i.toList == j.toList) := by
  rw [Bool.eq_iff_iff]
  cases i
  cases j
  simp
section
variable {X : Cx} {a b c : Expr} {ta tb tc : TE} {pos : Pos}
theorem fin_bl {pins : List (Addr × Obj)} {σ : St} {H : Hp} {s : Shared} {Q : VK} {k k' : Bool} (I : Inv X pins σ H s) (q : Q (.bl k) H) (e : k = k') : EP X pins σ Q (.bool k') s := by
  subst e
  exact ⟨.bl k, H, I, rfl, q⟩
theorem op_eq : OpR X (compareOp .Eq) rEq := by
  intro pins s σ H x y v u Q I rx ry h
  obtain ⟨hs, q⟩ := h
  cases x with
  | non =>
    cases rx
    cases y with
    | non => cases ry; exact PySem.EqNone.eq_none_none (fin_bl I q (by simp))
    | bl j => cases ry; exact PySem.EqNone.eq_none_bool (fin_bl I q (by simp))
    | int j => obtain ⟨t', rfl⟩ := ry; exact PySem.EqNone.eq_none_int (fin_bl I q (by simp))
    | str j => obtain ⟨t', rfl⟩ := ry; exact PySem.EqNone.eq_none_str (fin_bl I q (by simp))
    | _ => exact absurd (show false = true from hs) Bool.false_ne_true
  | bl i =>
    cases rx
    cases y with
    | non => cases ry; exact PySem.EqNone.eq_bool_none (fin_bl I q (by simp))
    | bl j => cases ry; exact eq_bool (fin_bl I q dec_bl)
    | str j => obtain ⟨t', rfl⟩ := ry; exact PySem.EqMixed.eq_bool_str (fin_bl I q (by simp))
    | _ => exact absurd (show false = true from hs) Bool.false_ne_true
  | int i =>
    obtain ⟨t, rfl⟩ := rx
    cases y with
    | non => cases ry; exact PySem.EqNone.eq_int_none (fin_bl I q (by simp))
    | int j => obtain ⟨t', rfl⟩ := ry; exact eq_int (fin_bl I q dec_int)
    | str j => obtain ⟨t', rfl⟩ := ry; exact PySem.EqMixed.eq_int_str (fin_bl I q (by simp))
    | _ => exact absurd (show false = true from hs) Bool.false_ne_true
  | str i =>
    obtain ⟨t, rfl⟩ := rx
    cases y with
    | non => cases ry; exact PySem.EqNone.eq_str_none (fin_bl I q (by simp))
    | bl j => cases ry; exact PySem.EqMixed.eq_str_bool (fin_bl I q (by simp))
    | int j => obtain ⟨t', rfl⟩ := ry; exact PySem.EqMixed.eq_str_int (fin_bl I q (by simp))
    | str j => obtain ⟨t', rfl⟩ := ry; exact eq_str (fin_bl I q dec_str)
    | _ => exact absurd (show false = true from hs) Bool.false_ne_true
  | byt i =>
    obtain ⟨t, rfl⟩ := rx
    cases y with
    | byt j => obtain ⟨t', rfl⟩ := ry; exact PySem.W.eq_bytes (fin_bl I q dec_byt)
    | _ => exact absurd (show false = true from hs) Bool.false_ne_true
  | _ => cases y <;> exact absurd (show false = true from hs) Bool.false_ne_true
theorem op_ne : OpR X (compareOp .NotEq) rNe := by
  intro pins s σ H x y v u Q I rx ry h
  obtain ⟨hs, q⟩ := h
  cases x with
  | non =>
    cases rx
    cases y with
    | non => cases ry; exact PySem.EqNone.ne_none_none (fin_bl I q (by simp))
    | bl j => cases ry; exact PySem.EqNone.ne_none_bool (fin_bl I q (by simp))
    | int j => obtain ⟨t', rfl⟩ := ry; exact PySem.EqNone.ne_none_int (fin_bl I q (by simp))
    | str j => obtain ⟨t', rfl⟩ := ry; exact PySem.EqNone.ne_none_str (fin_bl I q (by simp))
    | _ => exact absurd (show false = true from hs) Bool.false_ne_true
  | bl i =>
    cases rx
    cases y with
    | non => cases ry; exact PySem.EqNone.ne_bool_none (fin_bl I q (by simp))
    | bl j => cases ry; exact ne_bool (fin_bl I q (congrArg not dec_bl))
    | str j => obtain ⟨t', rfl⟩ := ry; exact PySem.EqMixed.ne_bool_str (fin_bl I q (by simp))
    | _ => exact absurd (show false = true from hs) Bool.false_ne_true
  | int i =>
    obtain ⟨t, rfl⟩ := rx
    cases y with
    | non => cases ry; exact PySem.EqNone.ne_int_none (fin_bl I q (by simp))
    | int j => obtain ⟨t', rfl⟩ := ry; exact ne_int (fin_bl I q (congrArg not dec_int))
    | str j => obtain ⟨t', rfl⟩ := ry; exact PySem.EqMixed.ne_int_str (fin_bl I q (by simp))
    | _ => exact absurd (show false = true from hs) Bool.false_ne_true
  | str i =>
    obtain ⟨t, rfl⟩ := rx
    cases y with
    | non => cases ry; exact PySem.EqNone.ne_str_none (fin_bl I q (by simp))
    | bl j => cases ry; exact PySem.EqMixed.ne_str_bool (fin_bl I q (by simp))
    | int j => obtain ⟨t', rfl⟩ := ry; exact PySem.EqMixed.ne_str_int (fin_bl I q (by simp))
    | str j => obtain ⟨t', rfl⟩ := ry; exact ne_str (fin_bl I q (congrArg not dec_str))
    | _ => exact absurd (show false = true from hs) Bool.false_ne_true
  | byt i =>
    obtain ⟨t, rfl⟩ := rx
    cases y with
    | byt j => obtain ⟨t', rfl⟩ := ry; exact PySem.W.ne_bytes (fin_bl I q (congrArg not dec_byt))
    | _ => exact absurd (show false = true from hs) Bool.false_ne_true
  | _ => cases y <;> exact absurd (show false = true from hs) Bool.false_ne_true
theorem op_lt : OpR X (compareOp .Lt) (rI0 fun i j => .bl (decide (i < j))) := opB0 fun _ _ _ _ _ _ _ q => lt_int q
theorem op_le : OpR X (compareOp .LtE) (rI0 fun i j => .bl (decide (i ≤ j))) := opB0 fun _ _ _ _ _ _ _ q => le_int q
theorem op_gt : OpR X (compareOp .Gt) (rI0 fun i j => .bl (decide (j < i))) := opB0 fun _ _ _ _ _ _ _ q => gt_int q
theorem op_in_str : OpR X (compareOp .In) (fun x y H Q => ∃ i j, x = .str i ∧ y = .str j ∧ Q (.bl (!(Builtin.Str.occurrences j i 0 j.length 1).isEmpty)) H) := by
  intro pins s σ H x y v u Q I rx ry h
  obtain ⟨i, j, rfl, rfl, q⟩ := h
  obtain ⟨t, rfl⟩ := rx
  obtain ⟨t', rfl⟩ := ry
  exact in_str (fin_bl I q rfl)
def isObj : HO → Bool
  | .lst _ => true
  | .ins _ _ _ => true
  | _ => false
theorem nomark (b : Expr) {op : CmpOp} (h : op ≠ .In := by decide) (h2 : op ≠ .NotIn := by decide) : behindInMarks op b = false := by
  have e1 : (op == CmpOp.In) = false := by cases op <;> first | rfl | exact absurd rfl h
  have e2 : (op == CmpOp.NotIn) = false := by cases op <;> first | rfl | exact absurd rfl h2
  cases b <;> simp [behindInMarks, e1, e2]
theorem pe_cmpR {op : CmpOp} {r : R2} (ho : OpR X (compareOp op) r) (ha : PE X a ta) (hb : PE X b tb) (hm : behindInMarks op b = false) : PE X (.Compare a [op] [b] pos) (tOp r ta tb) := by
  intro pins s σ H Q I h
  exact wpAny_Compare1 (binT ha hb I h fun v u s2 x y H2 I2 rx ry q => ho pins s2 σ H2 x y v u Q I2 rx ry q) hm
def tTest (t : TE) : TT := fun σ H Q => t σ H fun x H' => ∃ k, x = .bl k ∧ Q k H'
theorem pt_cmpR {op : CmpOp} {r : R2} (ho : OpR X (compareOp op) r) (ha : PE X a ta) (hb : PE X b tb) (hm : behindInMarks op b = false) : PT X (.Compare a [op] [b] pos) (tTest (tOp r ta tb)) := by
  intro pins s σ H Q I h
  refine wpAny_isTrue_Compare1 (thn (ha pins s σ H _ I h) fun v s1 ⟨x, H1, I1, r1, q1⟩ => thn (hb pins s1 σ H1 _ I1 q1) fun u s2 ⟨y, H2, I2, r2, q2⟩ =>
    thn (ho pins s2 σ H2 x y v u _ I2 r1 r2 q2) fun c s3 ⟨z, H3, I3, r3, k, e, q3⟩ => ?_) hm
  subst e
  cases r3
  exact wpAny_truthy_bool ⟨H3, I3, q3⟩
def tChain (r r' : R2) (ta tb tc : TE) : TE := fun σ H Q => ta σ H fun x H1 => tb σ H1 fun y H2 => r x y H2 fun z H3 => ∃ k, z = .bl k ∧
  (if k = true then tc σ H3 fun w' H4 => r' y w' H4 Q else Q (.bl false) H3)
def TruV (K : PySem.W.Frag) (x : V) (H : Hp) (k : Bool) : Prop :=
  match x with
  | .non => k = false
  | .bl b => k = b
  | .int i => k = (i != 0)
  | .str y => y.length ≤ sizeLine ∧ k = ((y.length : Int) != 0)
  | .byt y => y.size ≤ sizeLine ∧ k = ((y.size : Int) != 0)
  | .ref p => (∃ xs, SqL K H p xs ∧ k = !xs.isEmpty) ∨ (∃ xs, SqT K H p xs ∧ k = !xs.isEmpty) ∨ ∃ kvs, H p = some (.dK kvs) ∧ k = !kvs.isEmpty
  | _ => False
theorem line63 : (sizeLine : Nat) < 2 ^ 63 := by rw [sizeLine_eq]; decide
theorem op_add_str : OpR X (binaryOp .Add) (fun x y H Q => ∃ i j, x = .str i ∧ y = .str j ∧ i.length + j.length ≤ sizeLine ∧ Q (.str (i ++ j)) H) := by
  intro pins s σ H x y v u Q I rx ry h
  obtain ⟨i, j, rfl, rfl, hz, q⟩ := h
  obtain ⟨t, rfl⟩ := rx
  obtain ⟨t', rfl⟩ := ry
  exact add_str (fun t' tk => ⟨.str (i ++ j), H, I.tok _, ⟨_, rfl⟩, q⟩) hz
def PlainIxT (b : Expr) : Prop := ∀ o i, subscripted b false o i = operate [o, i] (getItem o i)
theorem vals1 {x : V} {us : List Value} (r : Vals [x] us) : ∃ u, us = [u] ∧ RelV x u := by
  cases r with
  | cons r1 r2 => cases r2; exact ⟨_, rfl, r1⟩
theorem vals2 {x y : V} {us : List Value} (r : Vals [x, y] us) : ∃ u w', us = [u, w'] ∧ RelV x u ∧ RelV y w' := by
  cases r with
  | cons r1 r2 =>
    cases r2 with
    | cons r3 r4 => cases r4; exact ⟨_, _, rfl, r1, r3⟩
theorem call_max2 (hc : X.calm = true) : CallR X (.builtin "max") (fun xs H Q => ∃ i j, xs = [.int i, .int j] ∧ Q (.int (if j > i then j else i)) H) := by
  intro pins s σ H xs us Q I r h
  obtain ⟨i, j, rfl, q⟩ := h
  obtain ⟨u, w', rfl, ⟨t, rfl⟩, ⟨t', rfl⟩⟩ := vals2 r
  refine max_two_ints (I.ok.hd hc) fun h' tk k => ⟨_, H, I.kept k, ?_, q⟩
  by_cases hj : j > i
  · rw [if_pos hj, if_pos hj]; exact ⟨_, rfl⟩
  · rw [if_neg hj, if_neg hj]; exact ⟨_, rfl⟩
theorem call_min2 (hc : X.calm = true) : CallR X (.builtin "min") (fun xs H Q => ∃ i j, xs = [.int i, .int j] ∧ Q (.int (if j < i then j else i)) H) := by
  intro pins s σ H xs us Q I r h
  obtain ⟨i, j, rfl, q⟩ := h
  obtain ⟨u, w', rfl, ⟨t, rfl⟩, ⟨t', rfl⟩⟩ := vals2 r
  refine min_two_ints (I.ok.hd hc) fun h' tk k => ⟨_, H, I.kept k, ?_, q⟩
  by_cases hj : j < i
  · rw [if_pos hj, if_pos hj]; exact ⟨_, rfl⟩
  · rw [if_neg hj, if_neg hj]; exact ⟨_, rfl⟩
def LenV (K : PySem.W.Frag) (x : V) (H : Hp) (n : Nat) : Prop :=
  match x with
  | .str y => y.length ≤ sizeLine ∧ n = y.length
  | .byt y => y.size ≤ sizeLine ∧ n = y.size
  | .ref p => (∃ xs, SqL K H p xs ∧ n = xs.length) ∨ ∃ xs, SqT K H p xs ∧ n = xs.length
  | _ => False
theorem call_divmod : CallR X (.builtin "divmod") (fun xs H Q => ∃ i j, xs = [.int i, .int j] ∧ CDiv i j ∧ ∀ p, H p = none → Q (.ref p) (upd H p (.tup [.int (i / j), .int (i % j)]))) := by
  intro pins s σ H xs us Q I r h
  obtain ⟨i, j, rfl, ⟨h1, h2⟩, q⟩ := h
  obtain ⟨u, w', rfl, ⟨t, rfl⟩, ⟨t', rfl⟩⟩ := vals2 r
  refine divmod_int (by omega) ?_ (.inl (PyProof.noPylong_small (by omega)))
  rw [Int.fdiv_eq_ediv_of_nonneg i (by omega), Int.fmod_eq_emod_of_nonneg i (by omega)]
  have hn : H s.heap.objs.size = none := I.hok.fresh (Nat.le_refl _)
  refine ⟨.ref s.heap.objs.size, _, ?_, rfl, q _ hn⟩
  refine I.laid (fun b o e => Heap.get?_push_of_some _ e) (Nat.le_refl _) ⟨by simp only [List.length_cons, List.length_nil]; rw [sizeLine_eq]; decide, [.int (i / j) s.toks, .int (i % j) (s.toks + 1)], .cons ⟨_, rfl⟩ (.cons ⟨_, rfl⟩ .nil), ?_⟩
  exact ⟨_, Heap.get?_push_size s.heap rfl, rfl, 0, rfl⟩
end
end L2
namespace L2
open PySem PySem.Spec PyProof.Rows
structure ObjM (h : Heap) (x dx C : Addr) (mA : Str → Option Value) : Prop where
  obj : h.get? x = some (PySem.W.instObj C dx)
  ns : h.Ns1 dx mA
  ne : dx ≠ x
theorem lookIn_ns {h : Heap} {dx : Addr} {mA : Str → Option Value} (n : h.Ns1 dx mA) : ∃ od, h.get? dx = some od ∧ ∀ name, PySem.W.lookIn name od = some (mA name) := by
  obtain ⟨o, es, ep, ho, hd, hk, _, hm⟩ := n
  refine ⟨o, ho, fun name => ?_⟩
  have e := hm name
  unfold nsFind findBy at e
  rw [← Array.find?_toList] at e
  unfold PySem.W.lookIn
  rw [hd]
  dsimp only
  split
  · rename_i y q
    rw [q] at e
    exact congrArg some e
  · rename_i q
    rw [q] at e
    have a : es.toList.any (·.refKey) = false := by
      rw [List.any_eq_false]
      intro y hy
      obtain ⟨z, t, hkey⟩ := hk y (Array.mem_toList_iff.mp hy)
      simp [DictEntry.refKey, hkey]
    have a' : ¬ es.toList.any (·.refKey) = true := by rw [a]; exact Bool.false_ne_true
    rw [if_neg a']
    exact congrArg some e
theorem ObjM.look {h : Heap} {x dx C : Addr} {mA : Str → Option Value} (I : ObjM h x dx C mA) : ∃ od, PySem.W.InstAt h x (PySem.W.instObj C dx) C (some od) ∧ ∀ name, PySem.W.lookIn name od = some (mA name) :=
  let ⟨od, ho, hl⟩ := lookIn_ns I.ns
  ⟨od, ⟨I.obj, rfl, rfl, ho⟩, hl⟩
section
variable {prog : Program} {w : World} {A : Around} {E : Value → Shared → Prop} {s : Shared} {K : PySem.W.Frag} {x dx C f : Addr} {mA : Str → Option Value} {name : Str} {v : Value}
end
def putF (f : Str) (v : V) : List (Str × V) → List (Str × V)
  | [] => [(f, v)]
  | (g, x) :: r => if g = f then (g, v) :: r else (g, x) :: putF f v r
theorem RelO.some_of {v : V} {o : Option Value} (r : RelO (some v) o) : ∃ u, o = some u ∧ RelV v u := by
  cases o with
  | none => exact (show False from r).elim
  | some u => exact ⟨u, rfl, r⟩
section
variable {P : Program} {w : World} {H H' : Hp} {h h' : Heap} {a C dx : Addr} {fs fs' : List (Str × V)}
theorem ins_get (hok : HOk P w H h) (e : H a = some (.ins C dx fs)) : ∃ mA, ObjM h a dx C mA ∧ (∀ f, RelO (fs.lookup f) (mA f)) ∧ PySem.Within mA (fs.map (·.1)) ∧ fs.length ≤ 1000 ∧ H dx = some (.own a) := by
  obtain ⟨d, z, ne, ob, mA, n, r, q⟩ := (show ObjOk P w H h a (.ins C dx fs) from hok a _ e)
  exact ⟨mA, ⟨ob, n, ne⟩, r, q, z, d⟩
end
structure Cls (K : PySem.W.Frag) (C : Addr) : Prop where
  pg : PySem.W.plainGet K C Str.empty = true
  hd : PySem.W.hasDictIn K C = true
  po : PySem.W.plainOver K C = true
  sa : PySem.W.findIn K (.ref C) "__setattr__" = some (some (.builtin "object.__setattr__"))
theorem Cls.get {K : PySem.W.Frag} {C : Addr} (c : Cls K C) (f : Str) : PySem.W.plainGet K C f = true := c.pg
def NoAttr (K : PySem.W.Frag) (C : Addr) (f : Str) : Prop := PySem.W.findIn K (.ref C) f = some none
structure Con (K : PySem.W.Frag) (C : Addr) (f : Str) (v : V) (u : Value) : Prop where
  at_ : PySem.W.findIn K (.ref C) f = some (some u)
  rel : RelV v u
  get : PySem.W.specialIn K u "__get__" = some none
  cp : PySem.W.copiedNames.contains f = false
structure Meth (K : PySem.W.Frag) (C : Addr) (m : Str) (f : Addr) : Prop where
  at_ : PySem.W.findIn K (.ref C) m = some (some (.ref f))
  fn : PySem.W.isFn K (.ref f) = true
  kp : PySem.W.keepIn K (.ref f) = true
section
variable {X : Cx} {pins : List (Addr × Obj)} {σ : St} {H : Hp} {s : Shared} {a C dx : Addr} {fs : List (Str × V)} {f : Str} {v : V} {A : Around} {E : Value → Shared → Prop}
end
def tFld (K : PySem.W.Frag) (ta : TE) (f : Str) : TE := fun σ H Q => ta σ H fun x H1 => ∃ a C dx fs v, x = .ref a ∧ H1 a = some (.ins C dx fs) ∧ Cls K C ∧ NoAttr K C f ∧ fs.lookup f = some v ∧ Q v H1
def tCon (K : PySem.W.Frag) (ta : TE) (f : Str) : TE := fun σ H Q => ta σ H fun x H1 => ∃ a C dx fs v u, x = .ref a ∧ H1 a = some (.ins C dx fs) ∧ Cls K C ∧ Con K C f v u ∧ fs.lookup f = none ∧ Q v H1
def sFld (K : PySem.W.Frag) (ta tv : TE) (f : Str) : TS := fun D σ H => tv σ H fun y H1 => ta σ H1 fun x H2 => ∃ a C dx fs, x = .ref a ∧ H2 a = some (.ins C dx fs) ∧ Cls K C ∧ NoAttr K C f ∧ fs.length < 1000 ∧
  D.nx σ (upd H2 a (.ins C dx (putF f y fs)))
def InOp (X : Cx) (op : Operator) (rd : V → V → Hp → VK → Prop) : Prop :=
  ∀ (pins : List (Addr × Obj)) (s : Shared) (σ : St) (H : Hp) (x y : V) (u v : Value) (Q : VK), Inv X pins σ H s → RelV x u → RelV y v → rd x y H Q → wpAny (model X.prog X.w) X.A (inplaceOp op u v) (EP X pins σ Q) X.xe s
def sFldAug (K : PySem.W.Frag) (ta tv : TE) (rd : V → V → Hp → VK → Prop) (f : Str) : TS := fun D σ H => ta σ H fun x H1 => ∃ a C dx fs v, x = .ref a ∧ H1 a = some (.ins C dx fs) ∧ Cls K C ∧ NoAttr K C f ∧ fs.lookup f = some v ∧
  tv σ H1 fun y H2 => rd v y H2 fun z H3 => ∃ dx' fs', H3 a = some (.ins C dx' fs') ∧ fs'.length < 1000 ∧ D.nx σ (upd H3 a (.ins C dx' (putF f z fs')))
section
variable {X : Cx} {o e value : Expr} {f : Str} {pos pos' tpos : Pos} {ta tv : TE}
def rAdd : V → V → Hp → VK → Prop := fun x y H Q => ∃ i j, x = .int i ∧ y = .int j ∧ Q (.int (i + j)) H
def rSub : V → V → Hp → VK → Prop := fun x y H Q => ∃ i j, x = .int i ∧ y = .int j ∧ Q (.int (i - j)) H
end
section
variable {X : Cx} {pins : List (Addr × Obj)} {σ : St} {H : Hp} {s : Shared} {A : Around} {E : Value → Shared → Prop} {Q : Value → Shared → Prop} {c : Value} {b : Bool}
inductive TyOf (K : PySem.W.Frag) (H : Hp) : V → Value → Prop where
  | non : TyOf K H .non (.type "NoneType")
  | bl (x : Bool) : TyOf K H (.bl x) (.type "bool")
  | int (i : Int) : TyOf K H (.int i) (.type "int")
  | str (x : Str) : TyOf K H (.str x) (.type "str")
  | flt (x : UInt64) : TyOf K H (.flt x) (.type "float")
  | lst {a : Addr} {xs : List V} (e : H a = some (.lst xs)) : TyOf K H (.ref a) (.type "list")
  | frz {a : Addr} {o : Obj} {xs : List V} (e : H a = some (.frz o (.lst xs))) : TyOf K H (.ref a) (.type "list")
  | tup {a : Addr} {xs : List V} (e : H a = some (.tup xs)) : TyOf K H (.ref a) (.type "tuple")
  | dK {a : Addr} {kvs : List (Key × V)} (e : H a = some (.dK kvs)) : TyOf K H (.ref a) (.type "dict")
  | dT {a : Addr} {kvs : List (List Key × V)} (e : H a = some (.dT kvs)) : TyOf K H (.ref a) (.type "dict")
  | ins {a C dx : Addr} {fs : List (Str × V)} (e : H a = some (.ins C dx fs)) (cl : Cls K C) (ha : PySem.W.findIn K (.ref C) "__class__" = some (some (.builtin "object.__class__")))
      (hn : PySem.W.specialIn K (.builtin "object.__class__") "__get__" = some (some (.builtin "getset_descriptor.__get__"))) (htk : PySem.W.takesIn K (.builtin "object.__class__") = some true)
      (hm : PySem.W.mroIn K C (.type "object") = some true) : TyOf K H (.ref a) (.ref C)
theorem isinst_ok {x : V} {u t : Value} (I : Inv X pins σ H s) (rx : RelV x u) (ty : TyOf X.K H x t) (e : PySem.W.kitOne X.K t c = some b) (h : ∀ tk, Q (.bool b) { s with toks := tk }) :
    wpAny (model X.prog X.w) A (call (.builtin "isinstance") [u, c]) Q E s := by
  cases ty with
  | non => cases (show u = Value.none from rx); exact PySem.W.kia_one PySem.W.kitx_none I.kIn True.intro e (fun z => nomatch z) h
  | bl y => cases (show u = Value.bool y from rx); exact PySem.W.kia_one PySem.W.kitx_bool I.kIn True.intro e (fun z => nomatch z) h
  | int i => obtain ⟨t, q⟩ := (show ∃ t, u = Value.int i t from rx); cases q; exact PySem.W.kia_one PySem.W.kitx_int I.kIn True.intro e (fun z => nomatch z) h
  | str y => obtain ⟨t, q⟩ := (show ∃ t, u = Value.str y t from rx); cases q; exact PySem.W.kia_one PySem.W.kitx_str I.kIn True.intro e (fun z => nomatch z) h
  | flt y => obtain ⟨t, q⟩ := (show ∃ t, u = Value.float y t from rx); cases q; exact PySem.W.kia_one PySem.W.kitx_float I.kIn True.intro e (fun z => nomatch z) h
  | @lst a xs ea =>
    cases (show u = Value.ref a from rx)
    obtain ⟨_, _, n, _, h1⟩ := (show ObjOk X.prog X.w H s.heap a (.lst xs) from I.hok a _ ea)
    exact PySem.W.kia_one PySem.W.kitx_list I.kIn ⟨_, h1, rfl⟩ e (fun z => nomatch z) h
  | @frz a ob xs ea =>
    cases (show u = Value.ref a from rx)
    obtain ⟨_, _, _, n, _, h1⟩ := (show ObjOk X.prog X.w H s.heap a (.frz ob (.lst xs)) from I.hok a _ ea)
    exact PySem.W.kia_one PySem.W.kitx_list I.kIn ⟨_, h1, rfl⟩ e (fun z => nomatch z) h
  | @tup a xs ea =>
    cases (show u = Value.ref a from rx)
    obtain ⟨_, _, _, p⟩ := (show ObjOk X.prog X.w H s.heap a (.tup xs) from I.hok a _ ea)
    obtain ⟨o, h1, h2, _⟩ := p
    exact PySem.W.kia_one PySem.W.kitx_tuple I.kIn ⟨o, h1, h2⟩ e (fun z => nomatch z) h
  | @dK a kvs ea =>
    cases (show u = Value.ref a from rx)
    obtain ⟨_, _, vs, _, p⟩ := (show ObjOk X.prog X.w H s.heap a (.dK kvs) from I.hok a _ ea)
    obtain ⟨o, es, ep, h1, h2, _⟩ := p
    exact PySem.W.kia_one PySem.W.kitx_dict I.kIn ⟨o, h1, h2.1⟩ e (fun z => nomatch z) h
  | @dT a kvs ea =>
    cases (show u = Value.ref a from rx)
    obtain ⟨_, _, xs, _, o, es, ep, h1, h2, _⟩ := (show ObjOk X.prog X.w H s.heap a (.dT kvs) from I.hok a _ ea)
    exact PySem.W.kia_one PySem.W.kitx_dict I.kIn ⟨o, h1, h2.1⟩ e (fun z => nomatch z) h
  | @ins a C dx fs ea cl ha hn htk hm =>
    cases (show u = Value.ref a from rx)
    obtain ⟨mA, O, _⟩ := ins_get I.hok ea
    obtain ⟨od, J, _⟩ := O.look
    exact PySem.W.kia_one (PySem.W.kitx_own (cl.get _) cl.hd ha hn htk hm) I.kIn J e (fun z => nomatch z) h
end
end L2
namespace L2
open PySem PySem.Spec PyProof.Rows
structure Room (k : Nat) (A : Around) : Prop where
  hd : A.handled = none
  dp : A.depth + 3 * k + 5 < recursionLimit
  un : A.units + 16 * k + 200 < cLine
theorem Room.mono {j k : Nat} {A : Around} (r : Room k A) (h : j ≤ k) : Room j A := ⟨r.hd, by have := r.dp; omega, by have := r.un; omega⟩
theorem Room.deeper {k : Nat} {A : Around} (r : Room (k + 1) A) (env : Env) : Room k (A.deeper env) :=
  ⟨r.hd, by have := r.dp; show A.depth + 1 + 3 * k + 5 < _; omega, by have := r.un; show A.units + 3 + 16 * k + 200 < _; omega⟩
theorem Room.depth {k : Nat} {A : Around} (r : Room k A) : A.depth < recursionLimit := by have := r.dp; omega
theorem Room.units {k : Nat} {A : Around} (r : Room k A) : A.units + 64 < cLine := by have := r.un; omega
def tNil : TA := fun _ H Q => Q [] H
def tCons (ta : TE) (tr : TA) : TA := fun σ H Q => ta σ H fun x H1 => tr σ H1 fun xs H2 => Q (x :: xs) H2
section
variable {X : Cx} {e : Expr} {es : List Expr} {te : TE} {t : TA} {pos : Pos}
theorem pa_nil : PA X [] tNil := fun _ _ _ _ H Q I h => Calls.spliced_nil ⟨[], H, I, .nil, h⟩
theorem pa_cons (ha : PE X e te) (hr : PA X es t) (hs : starEach (e :: es) X.env = (false, eval e X.env) :: starEach es X.env := by rfl) : PA X (e :: es) (tCons te t) := by
  intro pos pins s σ H Q I h
  rw [hs]
  show wpAny _ _ (spliced ((false, eval e X.env) :: backTo pos (starEach es X.env))) _ _ s
  refine Calls.spliced_cons (thn (ha pins s σ H _ I h) fun u s1 ⟨x, H1, I1, r1, q1⟩ => ?_)
  exact thn (hr pos pins s1 σ H1 _ I1 q1) fun us s2 ⟨xs, H2, I2, r2, q2⟩ => ⟨x :: xs, H2, I2, .cons r1 r2, q2⟩
def tTup (t : TA) : TE := fun σ H Q => t σ H fun xs H1 => xs.length ≤ sizeLine ∧ ∀ p, H1 p = none → Q (.ref p) (upd H1 p (.tup xs))
def tLst (t : TA) : TE := fun σ H Q => t σ H fun xs H1 => xs.length ≤ sizeLine ∧ ∀ p, H1 p = none → Q (.ref p) (upd H1 p (.lst xs))
theorem pe_tup {x1} (h : PA X es t) : PE X (.Tuple es x1 pos) (tTup t) := by
  intro pins s σ H Q I hq
  refine wpAny_Tuple_spliced (thn (h pos pins s σ H _ I hq) fun us s1 ⟨xs, H1, I1, r, z, q⟩ => ⟨by rw [← r.length]; exact z, ?_⟩)
  have hf : H1 s1.heap.objs.size = none := I1.hok.fresh (Nat.le_refl _)
  refine ⟨.ref s1.heap.objs.size, upd H1 s1.heap.objs.size (.tup xs), I1.laid (t' := s1.toks) (fun b u e => Heap.get?_push_of_some _ e) (Nat.le_refl _) ?_, rfl, q _ hf⟩
  exact ⟨z, us, r, ⟨_, Heap.get?_push_size _ rfl, rfl, _, rfl⟩⟩
theorem pe_lst (h : PA X es t) : PE X (.List es pos) (tLst t) := by
  intro pins s σ H Q I hq
  refine wpAny_List_spliced (thn (h pos pins s σ H _ I hq) fun us s1 ⟨xs, H1, I1, r, z, q⟩ => ⟨by rw [← r.length]; exact z, ?_⟩)
  have hf : H1 s1.heap.objs.size = none := I1.hok.fresh (Nat.le_refl _)
  refine ⟨.ref s1.heap.objs.size, upd H1 s1.heap.objs.size (.lst xs), I1.laid (t' := s1.toks) (fun b u e => Heap.get?_push_of_some _ e) (Nat.le_refl _) ?_, rfl, q _ hf⟩
  exact ⟨z, us, 0, r, Heap.get?_push_size _ rfl⟩
end
abbrev Sp := List V → Hp → VK → XK → Prop
abbrev CXT := List Env → Hp → Shared → XK → Value → Shared → Prop
structure Env0 (P : Program) (w : World) (K : PySem.W.Frag) (mg : Str → Option Value) (base : Heap) (A : Around) (outer : List Env) (s : Shared) (H : Hp) : Prop where
  frames : A.frames = some outer
  mod : Mod K mg base
  bs : ∀ b o, base.get? b = some o → s.heap.get? b = some o ∧ H b = none
  bsz : base.objs.size ≤ s.heap.objs.size
  funs : s.heap.FunFrames base outer
  frf : ∀ b ∈ frs outer, H b = none
  hok : HOk P w H s.heap
  bare : AllBare s.gens
def CE (outer : List Env) (P : Program) (w : World) (H : Hp) (s : Shared) (Q : VK) (u : Value) (s' : Shared) : Prop :=
  ∃ v H', s'.os = s.os ∧ AllBare s'.gens ∧ Un (frs outer) [] H H' s.heap s'.heap ∧ HOk P w H' s'.heap ∧ RelV v u ∧ Q v H'
def CR (CX : CXT) (outer : List Env) (P : Program) (w : World) (H : Hp) (s : Shared) (Q : VK) (E : XK) (r : Result) (s' : Shared) : Prop :=
  match r with
  | .ok (.ret u) => CE outer P w H s Q u s'
  | .ok _ => False
  | .error e => CX outer H s E e s'
structure FnOk (P : Program) (w : World) (K : PySem.W.Frag) (mg : Str → Option Value) (base : Heap) (CX : CXT) (k : Nat) (f : Addr) (fd : FuncData) (ps : List Str) (sp : Sp) : Prop where
  len : ∀ vs H Q E, sp vs H Q E → vs.length = ps.length
  run : ∀ (A : Around) (outer : List Env) (s : Shared) (H : Hp) (args : Args) (us : List Value) (vs : List V) (Q : VK) (E : XK), Room k A → Env0 P w K mg base A outer s H → BindsTo s fd args (ps.zip us) → Vals vs us → sp vs H Q E →
    codeAny (model P w) A (.call (.ref f) args) (CR CX outer P w H s Q E) s
theorem FnOk.mono {P : Program} {w : World} {K : PySem.W.Frag} {mg : Str → Option Value} {base : Heap} {CX : CXT} {j k : Nat} {f : Addr} {fd : FuncData} {ps : List Str} {sp : Sp} (F : FnOk P w K mg base CX j f fd ps sp) (h : j ≤ k) :
    FnOk P w K mg base CX k f fd ps sp := ⟨F.len, fun A outer s H args us vs Q E hr => F.run A outer s H args us vs Q E (hr.mono h)⟩
theorem FnOk.imp {P : Program} {w : World} {K : PySem.W.Frag} {mg : Str → Option Value} {base : Heap} {CX : CXT} {k : Nat} {f : Addr} {fd : FuncData} {ps : List Str} {sp sp' : Sp} (F : FnOk P w K mg base CX k f fd ps sp)
    (h : ∀ vs H Q E, sp' vs H Q E → sp vs H Q E) : FnOk P w K mg base CX k f fd ps sp' :=
  ⟨fun vs H Q E q => F.len vs H Q E (h _ _ _ _ q), fun A outer s H args us vs Q E hr he hb hv hs => F.run A outer s H args us vs Q E hr he hb hv (h _ _ _ _ hs)⟩
section
variable {X : Cx} {pins : List (Addr × Obj)} {σ : St} {H : Hp} {s s' : Shared}
theorem Inv.env0 (I : Inv X pins σ H s) : Env0 X.prog X.w X.K X.mg X.base X.A X.stack s H :=
  ⟨I.ok.frames, I.ok.mod, I.bs, Nat.le_trans I.ok.bsz I.sz, I.stack, I.stkFree, I.hok, I.bare⟩
theorem Inv.after {Q : VK} {u : Value} (I : Inv X pins σ H s) (h : CE X.stack X.prog X.w H s Q u s') : EP X pins σ Q u s' := by
  obtain ⟨v, H', os, bare, un, hok, r, q⟩ := h
  obtain ⟨hh, g, d, t, os'⟩ := s'
  obtain rfl : os' = s.os := os
  exact ⟨v, H', I.call (h' := hh) (g' := g) (d' := d) (t' := t) (ch := []) un hok bare (fun b z => absurd z (by simp)), r, q⟩
end
def tCall (sp : Sp) (dvs : List V) (E : XK) (t : TA) : TE := fun σ H Q => t σ H fun vs H1 => sp (vs ++ dvs) H1 Q E
def tMeth (C : Addr) (m : Str) (sp : Sp) (dvs : List V) (E : XK) (ta : TE) (t : TA) : TE := fun σ H Q => ta σ H fun x H1 => ∃ a dx fs, x = .ref a ∧ H1 a = some (.ins C dx fs) ∧ fs.lookup m = none ∧
  t σ H1 fun vs H2 => sp (x :: (vs ++ dvs)) H2 Q E
def tMake (C : Addr) (sp : Sp) (dvs : List V) (E : XK) (t : TA) : TE := fun σ H Q => t σ H fun vs H1 => ∀ x dx, H1 x = none → H1 dx = none → dx ≠ x →
  sp (.ref x :: (vs ++ dvs)) (upd (upd H1 dx (.own x)) x (.ins C dx [])) (fun v H2 => v = .non ∧ Q (.ref x) H2) E
def Binds (K : PySem.W.Frag) (fd : FuncData) (ps : List Str) (ds : List Value) : Prop :=
  ∀ (s : Shared) (us : List Value), K.In s.heap → (us ++ ds).length = ps.length → BindsTo s fd ⟨us, []⟩ (ps.zip (us ++ ds))
theorem Binds.all {K : PySem.W.Frag} {fd : FuncData} {ps : List Str} (h : ∀ us : List Value, us.length = ps.length → bindArgs fd ⟨us, []⟩ = pure (ps.zip us)) : Binds K fd ps [] := fun s us _ hl => by
  rw [List.append_nil] at hl ⊢
  exact .of_eq (h us hl)
def Passes (CX : CXT) (X : Cx) (E : XK) : Prop := ∀ (pins : List (Addr × Obj)) (σ : St) (H : Hp) (s : Shared) (e : Value) (s' : Shared), Inv X pins σ H s → CX X.stack H s E e s' → X.xe e s'
section
variable {X : Cx} {CX : CXT} {k : Nat} {f C : Addr} {fd : FuncData} {ps : List Str} {sp : Sp} {dvs : List V} {ds : List Value} {E : XK} {x m : Str} {p pos apos : Pos} {e o : Expr} {es : List Expr} {ta : TE} {t : TA}
theorem run_fn {pins : List (Addr × Obj)} {σ : St} {H : Hp} {s : Shared} {Q : VK} {us : List Value} {vs : List V} (F : FnOk X.prog X.w X.K X.mg X.base CX k f fd ps sp) (hr : Room k X.A) (hb : Binds X.K fd ps ds) (hd : Vals dvs ds) (hx : Passes CX X E)
    (I : Inv X pins σ H s) (r : Vals vs us) (h : sp (vs ++ dvs) H Q E) : wpAny (model X.prog X.w) X.A (call (.ref f) us) (EP X pins σ Q) X.xe s := by
  have r2 : Vals (vs ++ dvs) (us ++ ds) := r.append hd
  have hl : (us ++ ds).length = ps.length := by rw [← r2.length]; exact F.len _ _ _ _ h
  refine wpAny_call (codeAny_mono (F.run X.A X.stack s H ⟨us, []⟩ (us ++ ds) (vs ++ dvs) Q E hr I.env0 (hb s us I.kIn hl) r2 h) fun r s' hq => ?_)
  cases r with
  | error e => exact hx pins σ H s e s' I hq
  | ok fl =>
    cases fl with
    | ret u => exact I.after hq
    | next => exact False.elim hq
    | brk => exact False.elim hq
    | cont => exact False.elim hq
theorem pe_call (F : FnOk X.prog X.w X.K X.mg X.base CX k f fd ps sp) (hr : Room k X.A) (hg : Gl X x) (hm : X.mg x = some (.ref f)) (hk : PySem.W.keepIn X.K (.ref f) = true) (hb : Binds X.K fd ps ds) (hd : Vals dvs ds) (hx : Passes CX X E)
    (ha : PA X (e :: es) t) (hdb : (x == ("__debug__" : Str)) = false := by decide) (he : starEach (e :: es) X.env = (false, eval e X.env) :: starEach es X.env := by rfl) (hpl : (backTo pos (starEach es X.env)).any (·.1) = false := by rfl) :
    PE X (.Call (.Name x p) (e :: es) [] pos) (tCall sp dvs E t) := by
  intro pins s σ H Q I h
  refine wpAny_Call_Name_kw (ld_glob I hg hm ?_ hdb)
  refine PySem.W.callWith_K (h₀ := X.base) I.ok.mod.kin hk (thn (ha pos pins s σ H _ I h) fun us s1 ⟨vs, H1, I1, r, q⟩ => ⟨I1.kIn, ?_⟩) he hpl
  exact run_fn F hr hb hd hx I1 r q
structure Mk (K : PySem.W.Frag) (C f : Addr) : Prop where
  makes : PySem.W.makesIn K C = true
  init : PySem.W.findIn K (.ref C) "__init__" = some (some (.ref f))
  fn : PySem.W.isFn K (.ref f) = true
  kp : PySem.W.keepIn K (.ref C) = true
end
def PK (X : Cx) (kws : List Keyword) (t : TA) : Prop :=
  ∀ (pos : Pos) (pins : List (Addr × Obj)) (s : Shared) (σ : St) (H : Hp) (Q : List V → Hp → Prop), Inv X pins σ H s → t σ H Q → wpAny (model X.prog X.w) X.A (evalAll ((backToKw pos (keywordEach kws X.env)).map (·.2))) (AP X pins σ Q) X.xe s
section
variable {X : Cx} {CX : CXT} {k : Nat} {f C : Addr} {fd : FuncData} {ps ks : List Str} {sp : Sp} {E : XK} {x m : Str} {p pos apos kpos : Pos} {e o : Expr} {es : List Expr} {kws : List Keyword} {te ta : TE} {t tk : TA} {nm : Option Str}
structure KBinds (K : PySem.W.Frag) (fd : FuncData) (ps ks : List Str) (g : List Value → List Value → List Value) (gV : List V → List V → List V) : Prop where
  to : ∀ (s : Shared) (us ws : List Value), K.In s.heap → (g us ws).length = ps.length → BindsTo s fd ⟨us, ks.zip ws⟩ (ps.zip (g us ws))
  rel : ∀ {vs : List V} {us : List Value} {zs : List V} {ws : List Value}, Vals vs us → Vals zs ws → Vals (gV vs zs) (g us ws)
def tCallK (sp : Sp) (gV : List V → List V → List V) (E : XK) (t tk : TA) : TE := fun σ H Q => t σ H fun vs H1 => tk σ H1 fun zs H2 => sp (gV vs zs) H2 Q E
variable {g : List Value → List Value → List Value} {gV : List V → List V → List V}
end
structure FnScope (N P : List Str) (sc : Scope) : Prop where
  kind : sc.kind = .function
  co : sc.isCoroutine = false
  gen : sc.isGenerator = false
  nd : N.Nodup
  pre : N.take P.length = P
  par : ∀ x ∈ P, sc.names.lookup x = some .local ∨ sc.names.lookup x = some .cell
  nofree : ∀ y ∈ sc.names, y.2 ≠ .free
theorem bindL_out {kindOf : Str → Option NameKind} {x : Str} : ∀ {binds : List (Str × Value)} {m : Str → Option Value}, (∀ v, (x, v) ∉ binds) → bindL kindOf binds m x = m x
  | [], _, _ => rfl
  | (n, v) :: r, m, h => by
    unfold bindL
    rw [bindL_out fun w hw => h w (List.mem_cons_of_mem _ hw)]
    split
    · have : x ≠ n := by rintro rfl; exact h v List.mem_cons_self
      simp [this]
    · rfl
theorem bindC_out {kindOf : Str → Option NameKind} {x : Str} : ∀ {binds : List (Str × Value)} {m : Str → Option Value}, (∀ v, (x, v) ∉ binds) → bindC kindOf binds m x = m x
  | [], _, _ => rfl
  | (n, v) :: r, m, h => by
    unfold bindC
    rw [bindC_out fun w hw => h w (List.mem_cons_of_mem _ hw)]
    split
    · rfl
    · have : x ≠ n := by rintro rfl; exact h v List.mem_cons_self
      simp [this]
theorem bindL_get {kindOf : Str → Option NameKind} {x : Str} {v : Value} : ∀ {P : List Str} {vs : List Value} {i : Nat} {m : Str → Option Value}, P.Nodup → P[i]? = some x → vs[i]? = some v → kindOf x = some .local →
    bindL kindOf (P.zip vs) m x = some v
  | [], _, _, _, _, h, _, _ => by simp at h
  | _ :: _, [], _, _, _, _, h, _ => by simp at h
  | p :: P, w :: vs, 0, m, nd, h1, h2, hk => by
    simp at h1 h2; subst h1; subst h2
    show bindL kindOf ((p, w) :: P.zip vs) m p = _
    unfold bindL
    rw [bindL_out fun v hv => (List.nodup_cons.mp nd).1 (List.of_mem_zip hv).1, if_pos hk]
    simp
  | p :: P, w :: vs, i + 1, m, nd, h1, h2, hk => by
    show bindL kindOf ((p, w) :: P.zip vs) m x = _
    unfold bindL
    exact bindL_get (i := i) (List.nodup_cons.mp nd).2 (by simpa using h1) (by simpa using h2) hk
theorem bindC_get {kindOf : Str → Option NameKind} {x : Str} {v : Value} : ∀ {P : List Str} {vs : List Value} {i : Nat} {m : Str → Option Value}, P.Nodup → P[i]? = some x → vs[i]? = some v → kindOf x ≠ some .local →
    bindC kindOf (P.zip vs) m x = some v
  | [], _, _, _, _, h, _, _ => by simp at h
  | _ :: _, [], _, _, _, _, h, _ => by simp at h
  | p :: P, w :: vs, 0, m, nd, h1, h2, hk => by
    simp at h1 h2; subst h1; subst h2
    show bindC kindOf ((p, w) :: P.zip vs) m p = _
    unfold bindC
    rw [bindC_out fun v hv => (List.nodup_cons.mp nd).1 (List.of_mem_zip hv).1, if_neg hk]
    simp
  | p :: P, w :: vs, i + 1, m, nd, h1, h2, hk => by
    show bindC kindOf ((p, w) :: P.zip vs) m x = _
    unfold bindC
    exact bindC_get (i := i) (List.nodup_cons.mp nd).2 (by simpa using h1) (by simpa using h2) hk
def start (N : List Str) (vs : List V) : St := vs.map some ++ List.replicate (N.length - vs.length) none
def cxOf (CX : CXT) (P : Program) (w : World) (K : PySem.W.Frag) (mg : Str → Option Value) (base : Heap) (N : List Str) (qual : Str) (scope : Scope) (f : Addr) (cd : Value) (A : Around) (outer : List Env) (s : Shared) (H : Hp) (E : XK) : Cx where
  prog := P
  w := w
  K := K
  mg := mg
  base := base
  A := A.deeper (envOfC qual scope s.heap.objs.size f cd)
  N := N
  s₀ := s
  H₀ := H
  env := envOfC qual scope s.heap.objs.size f cd
  outer := outer
  stack := envOfC qual scope s.heap.objs.size f cd :: outer
  ex := []
  calm := true
  fn := fun _ => true
  pn := []
  xe := fun e s' => wpAny (model P w) (A.deeper (envOfC qual scope s.heap.objs.size f cd)) (leaving (envOfC qual scope s.heap.objs.size f cd) e) (fun _ s'' => CX outer H s E e s'') (fun e' s'' => CX outer H s E e' s'') s'
theorem cell_has {sc : Scope} {n : Nat} {x : Str} (h : sc.names.lookup x = some .cell) : ∃ c, (cellsFrom n sc.names []).lookup x = some c := by
  have q := PySem.W.cellsFrom_some sc.names n [] (.inl h)
  exact Option.isSome_iff_exists.mp q
theorem inv_start {CX : CXT} {P : Program} {w : World} {K : PySem.W.Frag} {mg : Str → Option Value} {base : Heap} {N ps : List Str} {qual : Str} {scope : Scope} {f : Addr} {cd : Value} {A : Around} {outer : List Env} {s s1 : Shared} {H : Hp} {E : XK} {us : List Value} {vs : List V}
    (S : FnScope N ps scope) (hd : A.handled = none) (e0 : Env0 P w K mg base A outer s H) (hl : vs.length = ps.length) (r : Vals vs us)
    (x : InCallC s s.heap.objs.size (bindL (envOfC qual scope s.heap.objs.size f cd).kindOf (ps.zip us) fun _ => none) (cellsFrom (s.heap.objs.size + 1) scope.names []) (bindC (envOfC qual scope s.heap.objs.size f cd).kindOf (ps.zip us) fun _ => none) s1) :
    Inv (cxOf CX P w K mg base N qual scope f cd A outer s H E) [] (start N vs) H s1 := by
  have hpl : ps.length ≤ N.length := by have := congrArg List.length S.pre; rw [List.length_take] at this; omega
  obtain ⟨h1, tk, rfl, hk⟩ := x.done
  have noA : ∀ b : Addr, b ∉ (cxOf CX P w K mg base N qual scope f cd A outer s H E).ex := fun b z => absurd (show b ∈ ([] : List Addr) from z) (by simp)
  refine ⟨⟨e0.mod, S.kind, rfl, rfl, Nat.le_refl _, fun y z c h1 h2 => ?_, fun y hy => ?_, fun y c _ h => ?_, fun _ => hd, Around.frames_deeper e0.frames, .inr ⟨rfl, rfl⟩, fun b z => absurd z (noA b), e0.bs, e0.bsz, fun b _ _ => noA b, fun b z => absurd z (noA b), e0.funs, e0.frf⟩,
    rfl, e0.bare, Un.kept hk, ⟨_, x.toInCall.ns, fun i y v h1 h2 h3 => ?_⟩, fun y c h => ⟨_, x.cell y c h⟩, e0.hok.fresh (Nat.le_refl _), fun y c h => ?_, fun p hp => absurd (show p ∈ ([] : List (Addr × Obj)) from hp) (by simp), e0.hok.kept hk, ?_⟩
  · exact name_of_addr x.apart (PySem.mem_of_lookup h1) (PySem.mem_of_lookup h2)
  · have hy : scope.names.lookup y = some .cell ∨ scope.names.lookup y = some .free := hy
    rcases hy with hy | hy
    · exact cell_has hy
    · exact absurd rfl (S.nofree _ (PySem.mem_of_lookup hy))
  · exact Nat.le_of_lt (x.above y c (PySem.mem_of_lookup h))
  · have hi : i < vs.length := by
      unfold start at h2
      by_cases hi : i < vs.length
      · exact hi
      · rw [List.getElem?_append_right (by simpa using hi)] at h2
        rw [List.getElem?_replicate] at h2
        split at h2 <;> cases h2
    have ha : vs[i]? = some v := by
      unfold start at h2
      rw [List.getElem?_append_left (by simpa using hi), List.getElem?_map] at h2
      cases e : vs[i]? with
      | none => rw [e] at h2; cases h2
      | some a => rw [e] at h2; cases h2; rfl
    obtain ⟨u, hu, rv⟩ := r.get ha
    have hp : ps[i]? = some y := by
      rw [← S.pre, List.getElem?_take_of_lt (by omega)]; exact h1
    have ndP : ps.Nodup := by rw [← S.pre]; exact S.nd.sublist (List.take_sublist _ _)
    refine ⟨u, rv, ?_⟩
    rcases S.par y (List.mem_of_getElem? hp) with k | k
    · exact .inl ⟨k, bindL_get ndP hp hu k⟩
    · obtain ⟨c, e⟩ := cell_has (n := s.heap.objs.size + 1) k
      refine .inr ⟨.inl k, c, e, ?_⟩
      have q := x.cell y c e
      rw [bindC_get ndP hp hu (by show scope.names.lookup y ≠ _; rw [k]; decide)] at q
      exact q
  · exact e0.hok.fresh (Nat.le_of_lt (x.above y c (PySem.mem_of_lookup h)))
  · unfold start
    show _ = N.length
    rw [List.length_append, List.length_map, List.length_replicate]
    omega
theorem fn_of {CX : CXT} {P : Program} {w : World} {K : PySem.W.Frag} {mg : Str → Option Value} {base : Heap} {k : Nat} {f : Addr} {name qual : Str} {params : Arguments} {body : List Stmt} {scope : Scope} {dV kV doc pm cdv ct oc : Value} {an od : Option Addr}
    {osl : Array (Option Value)} {N ps : List Str} {sp : Sp} (lk : K.lookup f = some ⟨oc, od, .func (PySem.W.fnOf name qual params body scope dV kV doc pm an cdv ct), osl⟩) (hcd : PySem.W.codeIn K cdv qual = true) (S : FnScope N ps scope)
    (len : ∀ vs H Q E, sp vs H Q E → vs.length = ps.length)
    (hbody : ∀ (A : Around) (outer : List Env) (s : Shared) (H : Hp) (vs : List V) (Q : VK) (E : XK), Room k (A.deeper (envOfC qual scope s.heap.objs.size f cdv)) → sp vs H Q E →
      ∃ t, PSs (cxOf CX P w K mg base N qual scope f cdv A outer s H E) body t ∧ t { nx := fun _ H' => Q .non H', rt := Q } (start N vs) H) :
    FnOk P w K mg base CX (k + 1) f (PySem.W.fnOf name qual params body scope dV kV doc pm an cdv ct) ps sp := by
  refine ⟨len, fun A outer s H args us vs Q E hr e0 hb r hsp => ?_⟩
  have hl := len _ _ _ _ hsp
  have KX : K.In s.heap := e0.mod.kin.keeps fun b o e => (e0.bs b o e).1
  have lim : s.heap.NoLimit := e0.mod.nolimit.keeps fun b o e => (e0.bs b o e).1
  have hkind : ∀ y ∈ ps.zip us, scope.names.lookup y.1 = some .local ∨ (scope.names.lookup y.1 = some .cell ∧ ((cellsFrom (s.heap.objs.size + 1) scope.names []).lookup y.1).isSome = true) := fun ⟨n, v⟩ hy => by
    rcases S.par n (List.of_mem_zip hy).1 with q | q
    · exact .inl q
    · exact .inr ⟨q, PySem.W.cellsFrom_some _ _ _ (.inl q)⟩
  refine codeAny_call_function hr.depth (KX _ _ lk) rfl S.co S.gen rfl (PySem.W.codeRec_of KX hcd) (hb _ _ _ _ ?_)
  refine wpAny_newFunctionEnv_cells S.kind hkind fun env he s1 x => ?_
  subst he
  refine ⟨lim.keeps x.toInCall.keep, codeAny_func ?_⟩
  obtain ⟨t, ht, hq⟩ := hbody A outer s H vs Q E (hr.deeper _) hsp
  have I : Inv (cxOf CX P w K mg base N qual scope f cdv A outer s H E) [] (start N vs) H s1 := inv_start S hr.hd e0 hl r x
  refine wpAny_mono (ht [] s1 (start N vs) H _ I hq) (fun fl s' hs => ?_) fun e s' hs => hs
  have fin : ∀ {σ' : St} {H' : Hp} {v : V} {u : Value}, Inv (cxOf CX P w K mg base N qual scope f cdv A outer s H E) [] σ' H' s' → RelV v u → Q v H' → CE outer P w H s Q u s' :=
    fun {σ' H' v u} J rv q => ⟨v, H', J.os, J.bare, J.base, J.hok, rv, q⟩
  cases fl with
  | ret u =>
    obtain ⟨v, σ', H', J, rv, q⟩ := hs
    exact fin J rv q
  | next =>
    obtain ⟨σ', H', J, q⟩ := hs
    exact fin (v := V.non) (u := Value.none) J rfl q
  | brk =>
    obtain ⟨_, _, _, q⟩ := hs
    exact False.elim q
  | cont =>
    obtain ⟨_, _, _, q⟩ := hs
    exact False.elim q
end L2
namespace L2
open PySem PySem.Spec PyProof.Rows
section
variable {X : Cx} {x : Str} {p pos : Pos} {e : Expr} {es : List Expr} {t : TA} {id T : String} {r : List V → Hp → VK → Prop}
def tCB (r : List V → Hp → VK → Prop) (t : TA) : TE := fun σ H Q => t σ H fun vs H1 => r vs H1 Q
theorem pe_callB (hc : CallR X (.builtin id) r) (hg : Gl X x) (hm : X.mg x = none) (hv : bootBuiltins x = some (.builtin id)) (ha : PA X (e :: es) t) (hn : x ≠ "__name__" := by decide) (hdb : (x == ("__debug__" : Str)) = false := by decide)
    (he : starEach (e :: es) X.env = (false, eval e X.env) :: starEach es X.env := by rfl) (hpl : (backTo pos (starEach es X.env)).any (·.1) = false := by rfl) : PE X (.Call (.Name x p) (e :: es) [] pos) (tCB r t) := by
  intro pins s σ H Q I h
  refine wpAny_Call_Name_kw (ld_blt I hg hm hv ?_ hn hdb)
  exact PyProof.Rows.callWith_builtin1 (thn (ha pos pins s σ H _ I h) fun us s1 ⟨vs, H1, I1, r1, q1⟩ => hc pins s1 σ H1 vs us Q I1 r1 q1) he hpl
theorem pe_callTy (hc : CallR X (.type T) r) (hg : Gl X x) (hm : X.mg x = none) (hv : bootBuiltins x = some (.type T)) (ha : PA X (e :: es) t) (hn : x ≠ "__name__" := by decide) (hdb : (x == ("__debug__" : Str)) = false := by decide)
    (he : starEach (e :: es) X.env = (false, eval e X.env) :: starEach es X.env := by rfl) (hpl : (backTo pos (starEach es X.env)).any (·.1) = false := by rfl) : PE X (.Call (.Name x p) (e :: es) [] pos) (tCB r t) := by
  intro pins s σ H Q I h
  refine wpAny_Call_Name_kw (ld_blt I hg hm hv ?_ hn hdb)
  exact PyProof.Rows.callWith_type1 (thn (ha pos pins s σ H _ I h) fun us s1 ⟨vs, H1, I1, r1, q1⟩ => hc pins s1 σ H1 vs us Q I1 r1 q1) he hpl
end
end L2
namespace HT
open PySem PyProof.Rows
def lexLt : List Int → List Int → Bool
  | [], [] => false
  | [], _ :: _ => true
  | _ :: _, [] => false
  | x :: xs, y :: ys => if x = y then lexLt xs ys else decide (x < y)
section
open PySem.SeqAt
open PySem.AutoSeq1 (wpAny_loadPart')
open PySem.MeetsSeq PySem.MeetsSeq2 PySem.MeetsSeq3
end
section
variable {prog : Program} {w : World} {A : Around} {E : Value → Shared → Prop} {s : Shared}
def sIx (n d : Nat) : Option Int → Nat
  | none => d
  | some v => if v < 0 then (v + (n : Int)).toNat else min v.toNat n
theorem sIx_none (n d : Nat) : sIx n d none = d := rfl
theorem sIx_nat (n d k : Nat) : sIx n d (some (k : Int)) = min k n := by
  show (if (k : Int) < 0 then ((k : Int) + (n : Int)).toNat else min (k : Int).toNat n) = min k n
  rw [if_neg (by omega), Int.toNat_natCast]
theorem sIx_le (n d : Nat) (hd : d ≤ n) (o : Option Int) : sIx n d o ≤ n := by
  cases o with
  | none => exact hd
  | some v =>
    show (if v < 0 then (v + (n : Int)).toNat else min v.toNat n) ≤ n
    by_cases hv : v < 0
    · rw [if_pos hv]; omega
    · rw [if_neg hv]; exact Nat.min_le_right _ _
theorem clip_eq (v : Int) (n d : Nat) : (if v < 0 then max (v + (n : Int)) 0 else min v (n : Int)) = ((sIx n d (some v) : Nat) : Int) := by
  show (if v < 0 then max (v + (n : Int)) 0 else min v (n : Int)) = (((if v < 0 then (v + (n : Int)).toNat else min v.toNat n) : Nat) : Int)
  by_cases hv : v < 0
  · simp only [if_pos hv]; omega
  · simp only [if_neg hv]; omega
end
end HT
namespace L2
open PySem PySem.Spec PyProof.Rows
abbrev TO := St → Hp → (Option Int → Hp → Prop) → Prop
def PO (X : Cx) (e : Option Expr) (t : TO) : Prop :=
  ∀ (pins : List (Addr × Obj)) (s : Shared) (σ : St) (H : Hp) (Q : Option Int → Hp → Prop), Inv X pins σ H s → t σ H Q →
    wpAny (model X.prog X.w) X.A (evalPart e X.env) (fun u s' => ∃ o H', Inv X pins σ H' s' ∧ IsPart u o ∧ Q o H') X.xe s
def tNoPart : TO := fun _ H Q => Q none H
def tPart (t : TE) : TO := fun σ H Q => t σ H fun x H1 => ∃ i, x = .int i ∧ Q (some i) H1
section
variable {X : Cx} {e : Expr} {te : TE} {lo hi : Option Expr} {tl th : TO} {pos p2 : Pos}
theorem po_none : PO X none tNoPart := by
  intro pins s σ H Q I h
  rw [evalPart_none]
  exact wpAny_pure ⟨none, H, I, .none, h⟩
theorem po_some (h : PE X e te) : PO X (some e) (tPart te) := by
  intro pins s σ H Q I hw
  rw [evalPart_some]
  refine thn (h pins s σ H _ I hw) fun u s1 ⟨x, H1, I1, r1, q1⟩ => ?_
  obtain ⟨i, rfl, q⟩ := q1
  obtain ⟨t, rfl⟩ := r1
  exact ⟨some i, H1, I1, .int i t, q⟩
def SlR (X : Cx) (r : V → Option Int → Option Int → Hp → VK → Prop) : Prop :=
  ∀ (pins : List (Addr × Obj)) (s : Shared) (σ : St) (H : Hp) (x : V) (v vl vu : Value) (lo hi : Option Int) (sl : Addr) (Q : VK), Inv X pins σ H s → RelV x v → s.heap.IsSliceOf sl vl vu .none → IsPart vl lo → IsPart vu hi → r x lo hi H Q →
    ∃ T id, typeLookup (.type T) "__getitem__" = pure (some (.builtin id)) ∧ s.TypeIs v T ∧ wpAny (model X.prog X.w) X.A (getItem v (.ref sl)) (EP X pins σ Q) X.xe s
def tSl (r : V → Option Int → Option Int → Hp → VK → Prop) (te : TE) (tl th : TO) : TE := fun σ H Q => te σ H fun x H1 => tl σ H1 fun l H2 => th σ H2 fun u H3 => r x l u H3 Q
theorem pe_slice {r : V → Option Int → Option Int → Hp → VK → Prop} (hr : SlR X r) (he : PE X e te) (hl : PO X lo tl) (hu : PO X hi th) : PE X (.Subscript e (.Slice lo hi none p2) pos) (tSl r te tl th) := by
  intro pins s σ H Q I h
  refine Subscript_ (thn (he pins s σ H _ I h) fun v s1 ⟨x, H1, I1, r1, q1⟩ => ?_)
  refine wpAny_Slice (thn (hl pins s1 σ H1 _ I1 q1) fun vl s2 ⟨l, H2, I2, pl, q2⟩ => thn (hu pins s2 σ H2 _ I2 q2) fun vu s3 ⟨u, H3, I3, pu, q3⟩ => ?_)
  rw [evalPart_none]
  refine wpAny_pure ?_
  have I4 : Inv X pins σ H3 { s3 with heap := s3.heap.push { cls := .type "slice", data := .fields #[vl, vu, .none] } } := I3.kept (t' := s3.toks) fun b ob q => Heap.get?_push_of_some _ q
  obtain ⟨T, id, hT, ht, hg⟩ := hr pins { s3 with heap := s3.heap.push { cls := .type "slice", data := .fields #[vl, vu, .none] } } σ H3 x v vl vu l u s3.heap.objs.size Q I4 r1 (Heap.IsSliceOf.new ..) pl pu q3
  show wpAny (model X.prog X.w) X.A (subscriptTail e (.Slice lo hi none p2) v (.ref s3.heap.objs.size)) (EP X pins σ Q) X.xe { s3 with heap := s3.heap.push { cls := .type "slice", data := .fields #[vl, vu, .none] } }
  exact tail_any (ops := [.ref s3.heap.objs.size, v]) ht hT hg (by with_unfolding_all rfl)
def cutV (xs : List V) (lo hi : Option Int) : List V := (xs.drop (HT.sIx xs.length 0 lo)).take (HT.sIx xs.length xs.length hi - HT.sIx xs.length 0 lo)
def rSlT (K : PySem.W.Frag) : V → Option Int → Option Int → Hp → VK → Prop := fun x lo hi H Q => ∃ a xs, x = .ref a ∧ SqT K H a xs ∧
  ¬ (HT.sIx xs.length 0 lo = 0 ∧ HT.sIx xs.length xs.length hi = xs.length) ∧ ∀ p, H p = none → Q (.ref p) (upd H p (.tup (cutV xs lo hi)))
def rLtT (K : PySem.W.Frag) : R2 := fun x y H Q => ∃ a b ns ms, x = .ref a ∧ y = .ref b ∧ SqT K H a (ns.map V.int) ∧ SqT K H b (ms.map V.int) ∧ Q (.bl (HT.lexLt ns ms)) H
def rCatT (K : PySem.W.Frag) : R2 := fun x y H Q => ∃ a b xs ys, x = .ref a ∧ y = .ref b ∧ SqT K H a xs ∧ SqT K H b ys ∧ xs ≠ [] ∧ xs.length + ys.length ≤ sizeLine ∧
  (ys = [] → Q (.ref a) H) ∧ (ys ≠ [] → ∀ p, H p = none → Q (.ref p) (upd H p (.tup (xs ++ ys))))
end
end L2
namespace L2
open PySem PySem.Spec PyProof.Rows
def ixN (n : Nat) (i : Int) : Option Nat := if 0 ≤ i then (if i < n then some i.toNat else none) else if -(n : Int) ≤ i then some (i + n).toNat else none
def atI {α : Type} (xs : List α) (i : Int) : Option α := (ixN xs.length i).bind fun j => xs[j]?
theorem ixN_seq {n : Nat} {i : Int} {j : Nat} (h : ixN n i = some j) : seqIndex? i n = some j ∧ j < n ∧ -(n : Int) ≤ i ∧ i < n := by
  unfold ixN at h
  by_cases h0 : 0 ≤ i
  · rw [if_pos h0] at h
    by_cases h1 : i < n
    · rw [if_pos h1] at h
      have e : i.toNat = j := Option.some.inj h
      exact ⟨by rw [seqIndex_of h0 h1, e], by omega, by omega, h1⟩
    · rw [if_neg h1] at h; cases h
  · rw [if_neg h0] at h
    by_cases h1 : -(n : Int) ≤ i
    · rw [if_pos h1] at h
      have e : (i + n).toNat = j := Option.some.inj h
      exact ⟨by rw [seqIndex_neg (by omega) h1, e], by omega, h1, by omega⟩
    · rw [if_neg h1] at h; cases h
theorem atI_get {α : Type} {xs : List α} {i : Int} {v : α} (h : atI xs i = some v) : ∃ j, seqIndex? i xs.length = some j ∧ xs[j]? = some v ∧ j < xs.length ∧ -(xs.length : Int) ≤ i ∧ i < xs.length := by
  unfold atI at h
  cases e : ixN xs.length i with
  | none => rw [e] at h; cases h
  | some j =>
    rw [e] at h
    obtain ⟨h1, h2, h3, h4⟩ := ixN_seq e
    exact ⟨j, h1, h, h2, h3, h4⟩
theorem atI_nat {α : Type} {xs : List α} {j : Nat} {v : α} (h : xs[j]? = some v) : atI xs (j : Int) = some v := by
  have hj : j < xs.length := (List.getElem?_eq_some_iff.mp h).1
  have e : ixN xs.length (j : Int) = some j := by
    unfold ixN
    rw [if_pos (by omega), if_pos (by omega)]; simp
  unfold atI; rw [e]; exact h
def PlainIx (b : Expr) : Prop := ∀ o i, subscripted b false o i = operate [o, i] (getItem o i)
def IxR (X : Cx) (r : R2) : Prop :=
  ∀ (value slice : Expr) (pins : List (Addr × Obj)) (s : Shared) (σ : St) (H : Hp) (x y : V) (v u : Value) (Q : VK), Inv X pins σ H s → RelV x v → RelV y u → r x y H Q →
    subscripted slice false v u = operate [v, u] (getItem v u) → wpAny (model X.prog X.w) X.A (subscriptTail value slice v u) (EP X pins σ Q) X.xe s
def MtR (X : Cx) (id : String) (r : V → List V → Hp → VK → Prop) : Prop :=
  ∀ (pins : List (Addr × Obj)) (s : Shared) (σ : St) (H : Hp) (x : V) (xs : List V) (v : Value) (us : List Value) (Q : VK), Inv X pins σ H s → RelV x v → Vals xs us → r x xs H Q →
    wpAny (model X.prog X.w) X.A (call (.builtin id) (v :: us)) (EP X pins σ Q) X.xe s
section
variable {X : Cx} {a b : Expr} {ta tb : TE} {pos : Pos}
theorem pe_ix {r : R2} (hr : IxR X r) (ha : PE X a ta) (hb : PE X b tb) (hs : PlainIx b) : PE X (.Subscript a b pos) (tOp r ta tb) := by
  intro pins s σ H Q I h
  exact Subscript_ (binT ha hb I h fun v u s2 x y H2 I2 rx ry q => hr a b pins s2 σ H2 x y v u Q I2 rx ry q (hs _ _))
def rIxL (K : PySem.W.Frag) : R2 := fun x y H Q => ∃ p xs i v, x = .ref p ∧ y = .int i ∧ SqL K H p xs ∧ atI xs i = some v ∧ Q v H
def rIxT (K : PySem.W.Frag) : R2 := fun x y H Q => ∃ p xs i v, x = .ref p ∧ y = .int i ∧ SqT K H p xs ∧ atI xs i = some v ∧ Q v H
def rIxS : R2 := fun x y H Q => ∃ z i c, x = .str z ∧ y = .int i ∧ z.length ≤ sizeLine ∧ atI z.cps.toList i = some c ∧ Q (.str ⟨#[c]⟩) H
theorem ix_list : IxR X (rIxL X.K) := by
  intro value slice pins s σ H x y v u Q I rx ry h hs
  obtain ⟨p, xs, i, z, rfl, rfl, hq, he, q⟩ := h
  cases rx
  obtain ⟨t, rfl⟩ := ry
  obtain ⟨its, r, pl, hz⟩ := I.list hq
  obtain ⟨j, h1, h2, h3, h4, h5⟩ := atI_get he
  obtain ⟨w, ew, rw'⟩ := r.get h2
  have hl := r.length
  have hn := line63
  have fin : EP X pins σ Q w s := ⟨z, H, I, rw', q⟩
  by_cases h0 : 0 ≤ i
  · have hj : i.toNat = j := by
      rw [seqIndex_of h0 h5] at h1
      exact Option.some.inj h1
    exact item_listR pl.isList h0 (by omega) (by rw [hj]; simpa using ew) fin hs
  · have hj : (i + (its.toArray.size : Int)).toNat = j := by
      rw [seqIndex_neg (by omega) h4] at h1
      rw [List.size_toArray, ← hl]
      exact Option.some.inj h1
    exact subscriptTail_builtinR (x := w) pl.isList.typeIs slot_list_getitem.lookup
      (wpAny_getItem_list_neg (Q := fun r s' => r = w ∧ EP X pins σ Q r s') pl.isList (by omega) (by rw [List.size_toArray] <;> omega) (by omega) (by rw [hj]; simpa using ew) ⟨rfl, fin⟩) hs
theorem ix_tup : IxR X (rIxT X.K) := by
  intro value slice pins s σ H x y v u Q I rx ry h hs
  obtain ⟨p, xs, i, z, rfl, rfl, hq, he, q⟩ := h
  cases rx
  obtain ⟨t, rfl⟩ := ry
  obtain ⟨its, r, pl, hz⟩ := I.tuple hq
  obtain ⟨j, h1, h2, h3, h4, h5⟩ := atI_get he
  obtain ⟨w, ew, rw'⟩ := r.get h2
  have hl := r.length
  have hn := line63
  have fin : EP X pins σ Q w s := ⟨z, H, I, rw', q⟩
  exact subscriptTail_builtinR (x := w) pl.typeIs slot_tuple_getitem.lookup
    (getItem_tuple (j := j) (Q := fun r s' => r = w ∧ EP X pins σ Q r s') pl (by omega) (by omega) (by rw [List.size_toArray, ← hl]; exact h1) (by simpa using ew) ⟨rfl, fin⟩) hs
theorem ix_str : IxR X rIxS := by
  intro value slice pins s σ H x y v u Q I rx ry h hs
  obtain ⟨z, i, c, rfl, rfl, hz, he, q⟩ := h
  obtain ⟨t, rfl⟩ := rx
  obtain ⟨t', rfl⟩ := ry
  obtain ⟨j, h1, h2, h3, h4, h5⟩ := atI_get he
  have hl : z.cps.toList.length = z.length := by simp [Str.length]
  rw [hl] at h1 h4 h5
  have hn := line63
  exact tail_any (typeIs_str s z t) slot_str_getitem.lookup (getItem_str (c := c) (by
    have e1 : decide (i < -(2 ^ 63 : Int)) = false := decide_eq_false (by omega)
    have e2 : decide (i ≥ 2 ^ 63) = false := decide_eq_false (by omega)
    rw [e1, e2, Bool.or_false]) (by rw [h1]; simpa using h2) ⟨.str ⟨#[c]⟩, H, I.tok _, ⟨_, rfl⟩, q⟩) hs
def rIx (K : PySem.W.Frag) : R2 := fun x y H Q => rIxL K x y H Q ∨ rIxT K x y H Q ∨ rIxS x y H Q
theorem mapSeq_set (its : List Value) (n j : Nat) (u : Value) : Obj.mapSeq (·.setIfInBounds j u) { cls := .type "list", data := .seq its.toArray n } = { cls := .type "list", data := .seq (its.set j u).toArray n } := by
  simp [Obj.mapSeq]
theorem Inv.lst {pins : List (Addr × Obj)} {σ : St} {H : Hp} {s : Shared} {p : Addr} {xs : List V} (I : Inv X pins σ H s) (h : H p = some (.lst xs)) :
    ∃ (its : List Value) (n : Nat), Vals xs its ∧ s.heap.get? p = some { cls := .type "list", data := .seq its.toArray n } ∧ xs.length ≤ sizeLine := by
  obtain ⟨z, its, n, r, e⟩ := I.hok p _ h
  exact ⟨its, n, r, e, z⟩
theorem Inv.lstUpd {pins : List (Addr × Obj)} {σ : St} {H : Hp} {s : Shared} {p : Addr} {xs ys : List V} {its its' : List Value} {n n' : Nat} {f : Obj → Obj} (I : Inv X pins σ H s) (h : H p = some (.lst xs))
    (ho : s.heap.get? p = some { cls := .type "list", data := .seq its.toArray n }) (hf : f { cls := .type "list", data := .seq its.toArray n } = { cls := .type "list", data := .seq its'.toArray n' }) (r : Vals ys its') (hz : ys.length ≤ sizeLine) (t : Nat) :
    Inv X pins σ (upd H p (.lst ys)) { s with heap := s.heap.update p f, toks := t } := by
  have e : (s.heap.update p f).get? p = some { cls := .type "list", data := .seq its'.toArray n' } := by
    rw [Heap.get?_update_self f ho (by rw [hf] <;> rfl), hf]
  refine I.write (x := p) (e := p) (by rw [h]; trivial) (.inl rfl) (fun b u hb q => (Heap.get?_update_other _ _ (Ne.symm hb)).trans q) ⟨_, e⟩ ?_
  exact ⟨hz, its', n', r, e⟩
def rSetL : V → V → V → Hp → (Hp → Prop) → Prop := fun o i v H Q => ∃ p xs k j, o = .ref p ∧ i = .int k ∧ H p = some (.lst xs) ∧ ixN xs.length k = some j ∧ Q (upd H p (.lst (xs.set j v)))
theorem set_list : PSet X rSetL := by
  intro pins s σ H o i v ov iv u Q I ro ri rv h
  obtain ⟨p, xs, k, j, rfl, rfl, hp, hj, q⟩ := h
  cases ro
  obtain ⟨t, rfl⟩ := ri
  obtain ⟨its, n, r, ho, hz⟩ := I.lst hp
  obtain ⟨h1, h2, h3, h4⟩ := ixN_seq hj
  have hl := r.length
  have hn := line63
  have I' : Inv X pins σ (upd H p (.lst (xs.set j v))) { s with heap := s.heap.update p (Obj.mapSeq (·.setIfInBounds j u)) } :=
    I.lstUpd hp ho (mapSeq_set its n j u) (r.set rv j) (by rw [List.length_set]; exact hz) s.toks
  by_cases h0 : 0 ≤ k
  · have hk : k.toNat = j := by
      rw [seqIndex_of h0 h4] at h1
      exact Option.some.inj h1
    exact PySem.W.ki_setAt ho h0 (by omega) (by rw [List.size_toArray, ← hl]; exact h4) (by rw [hk]; exact ⟨_, I', q⟩)
  · have hk : (k + (its.toArray.size : Int)).toNat = j := by
      rw [seqIndex_neg (by omega) h3] at h1
      rw [List.size_toArray, ← hl]
      exact Option.some.inj h1
    exact PySem.W.ki_setBack ho (by omega) (by rw [List.size_toArray, ← hl]; exact h3) (by omega) (by rw [hk]; exact ⟨_, I', q⟩)
def rSlL (K : PySem.W.Frag) : V → Option Int → Option Int → Hp → VK → Prop := fun x lo hi H Q => ∃ a xs, x = .ref a ∧ SqL K H a xs ∧ ∀ p, H p = none → Q (.ref p) (upd H p (.lst (cutV xs lo hi)))
def flatV : V → Bool
  | .non => true
  | .bl _ => true
  | .int _ => true
  | .str _ => true
  | _ => false
def eqV : V → V → Bool
  | .non, .non => true
  | .bl a, .bl b => a == b
  | .bl a, .int b => (if a then 1 else 0) == b
  | .int a, .bl b => a == (if b then 1 else 0)
  | .int a, .int b => a == b
  | .str a, .str b => a == b
  | _, _ => false
def eqU (x : V) (u : Value) : Bool := match u with
  | .none => eqV .non x
  | .bool b => eqV (.bl b) x
  | .int i _ => eqV (.int i) x
  | .str z _ => eqV (.str z) x
  | _ => false
def inV (x : V) (xs : List V) : Bool := xs.any fun y => eqV y x
def rIn (K : PySem.W.Frag) (neg : Bool) : R2 := fun x y H Q => ∃ p xs, y = .ref p ∧ (SqL K H p xs ∨ SqT K H p xs) ∧ flatV x = true ∧ xs.all flatV = true ∧ Q (.bl (if neg then !inV x xs else inV x xs)) H
theorem call_len_seq : CallR X (.builtin "len") (fun xs H Q => ∃ p ys, xs = [.ref p] ∧ (SqL X.K H p ys ∨ SqT X.K H p ys) ∧ Q (.int ys.length) H) := by
  intro pins s σ H xs us Q I r h
  obtain ⟨p, ys, rfl, hq, q⟩ := h
  obtain ⟨u, rfl, rx⟩ := vals1 r
  cases rx
  have hn := line63
  rcases hq with hq | hq
  · obtain ⟨its, r', pl, hz⟩ := I.list hq
    have hlen := r'.length
    exact Calls.call_len_list pl.isList (by simp only [List.size_toArray] <;> omega) ⟨.int ys.length, H, I.tok _, ⟨s.toks + 1, by rw [List.size_toArray, hlen]⟩, q⟩
  · obtain ⟨its, r', pl, hz⟩ := I.tuple hq
    have hlen := r'.length
    exact len_tuple pl (by simp only [List.size_toArray] <;> omega) ⟨.int ys.length, H, I.tok _, ⟨s.toks + 1, by rw [List.size_toArray, hlen]⟩, q⟩
theorem call_len_str : CallR X (.builtin "len") (fun xs H Q => ∃ z, xs = [.str z] ∧ z.length ≤ sizeLine ∧ Q (.int z.length) H) := by
  intro pins s σ H xs us Q I r h
  obtain ⟨z, rfl, hz, q⟩ := h
  obtain ⟨u, rfl, t, rfl⟩ := vals1 r
  have hn := line63
  exact len_str (by omega) ⟨.int z.length, H, I.tok _, ⟨_, rfl⟩, q⟩
def tyV (K : PySem.W.Frag) (T : String) (x : V) (H : Hp) : Prop := match x with
  | .str _ => T = "str"
  | .int _ => T = "int"
  | .ref p => (T = "list" ∧ ∃ xs, SqL K H p xs) ∨ (T = "tuple" ∧ ∃ o, K.lookup p = some o ∧ o.cls = .type "tuple" ∧ o.dict = none) ∨
      (T = "dict" ∧ ((∃ kvs, H p = some (.dK kvs)) ∨ ∃ kvs, H p = some (.dT kvs))) ∨ (T = "set" ∧ ∃ S n, H p = some (.set S n))
  | _ => False
theorem tyV_is {pins : List (Addr × Obj)} {σ : St} {H : Hp} {s : Shared} {T : String} {x : V} {v : Value} (I : Inv X pins σ H s) (r : RelV x v) (ty : tyV X.K T x H) :
    s.TypeIs v T ∧ ∀ a, v = .ref a → ∃ ob, s.heap.get? a = some ob ∧ ob.dict = none := by
  cases x with
  | str z =>
    obtain ⟨t, rfl⟩ := r
    cases (show T = "str" from ty)
    exact ⟨typeIs_str s z t, fun _ e => nomatch e⟩
  | int i =>
    obtain ⟨t, rfl⟩ := r
    cases (show T = "int" from ty)
    exact ⟨typeIs_int s i t, fun _ e => nomatch e⟩
  | ref p =>
    cases r
    rcases ty with ⟨rfl, xs, hq⟩ | ⟨rfl, o, hk, hc, hd⟩ | ⟨rfl, hk⟩ | ⟨rfl, S, n, hk⟩
    · obtain ⟨its, _, pl, _⟩ := I.list hq
      refine ⟨pl.isList.typeIs, fun a e => ?_⟩
      cases e
      obtain ⟨o, n, e, c, hd, _⟩ := pl
      exact ⟨o, e, hd⟩
    · refine ⟨⟨o, I.kIn p o hk, hc⟩, fun a e => ?_⟩
      cases e
      exact ⟨o, I.kIn _ o hk, hd⟩
    · have z : ∃ o, s.heap.get? p = some o ∧ o.ExactDict := by
        rcases hk with ⟨kvs, hk⟩ | ⟨kvs, hk⟩
        · obtain ⟨_, _, _, _, o, _, _, e, ex, _⟩ := I.hok p _ hk
          exact ⟨o, e, ex⟩
        · obtain ⟨_, _, _, _, o, _, _, e, ex, _⟩ := I.hok p _ hk
          exact ⟨o, e, ex⟩
      obtain ⟨o, e, ex⟩ := z
      refine ⟨⟨o, e, ex.1⟩, fun a e2 => ?_⟩
      cases e2
      exact ⟨o, e, ex.2.1⟩
    · obtain ⟨o, _, _, _, e, ex, _⟩ := I.hok p _ hk
      refine ⟨⟨o, e, ex.1⟩, fun a e2 => ?_⟩
      cases e2
      exact ⟨o, e, ex.2.1⟩
  | _ => exact False.elim ty
def tBM0 (K : PySem.W.Frag) (T : String) (r : V → List V → Hp → VK → Prop) (to : TE) : TE := fun σ H Q => to σ H fun x H1 => tyV K T x H1 ∧ r x [] H1 Q
def tBM (K : PySem.W.Frag) (T : String) (r : V → List V → Hp → VK → Prop) (to : TE) (t : TA) : TE := fun σ H Q => to σ H fun x H1 => tyV K T x H1 ∧ t σ H1 fun xs H2 => r x xs H2 Q
variable {o e : Expr} {es : List Expr} {to : TE} {t : TA} {name : Str} {apos cpos : Pos} {T id : String} {r : V → List V → Hp → VK → Prop}
theorem pe_bm0 (pa : PlainAttrs T) (slot : Slot T name id) (hty : typeOf (.builtin id) = pure (.type "method_descriptor")) (hm : MtR X id r) (ho : PE X o to)
    (hbase : attributeBase o name X.env (eval o X.env) = eval o X.env := by rfl) (hline : (apos.endLine == cpos.line) = true := by rfl) : PE X (.Call (.Attribute o name apos) [] [] cpos) (tBM0 X.K T r to) := by
  intro pins s σ H Q I h
  refine wpAny_Call_method0_late hbase hline (thn (ho pins s σ H _ I h) fun v s1 ⟨x, H1, I1, r1, ty, q1⟩ => ?_)
  obtain ⟨h1, h2⟩ := tyV_is I1 r1 ty
  exact ⟨T, id, pa, slot, hty, h1, h2, Calls.callWith_builtin rfl (PySem.evalArgs_none (hm pins s1 σ H1 x [] v [] Q I1 r1 .nil q1))⟩
theorem pe_bm (pa : PlainAttrs T) (slot : Slot T name id) (hty : typeOf (.builtin id) = pure (.type "method_descriptor")) (hm : MtR X id r) (ho : PE X o to) (ha : PA X (e :: es) t)
    (hbase : attributeBase o name X.env (eval o X.env) = eval o X.env := by rfl)
    (hfew : ((backTo cpos (starEach (e :: es) X.env)).all (fun x => !x.1) && (backToKw cpos (keywordEach [] X.env)).all (fun x => x.1.isSome)
      && decide ((e :: es).length + ([] : List Keyword).length + (if ([] : List Keyword).isEmpty then 0 else 1) < 30)) = true := by rfl)
    (hline : (apos.endLine == cpos.line) = true := by rfl) (hs : starEach (e :: es) X.env = (false, eval e X.env) :: starEach es X.env := by rfl) (hplain : (backTo cpos (starEach es X.env)).any (·.1) = false := by rfl) :
    PE X (.Call (.Attribute o name apos) (e :: es) [] cpos) (tBM X.K T r to t) := by
  intro pins s σ H Q I h
  refine wpAny_Call_method_late hbase hfew hline rfl (thn (ho pins s σ H _ I h) fun v s1 ⟨x, H1, I1, r1, ty, q1⟩ => ?_)
  obtain ⟨h1, h2⟩ := tyV_is I1 r1 ty
  refine ⟨T, id, pa, slot, hty, h1, h2, ?_⟩
  have hA := ha cpos pins s1 σ H1 _ I1 q1
  rw [hs] at hA ⊢
  refine Calls.callWith_builtin (by show (false || (backTo cpos (starEach es X.env)).any (·.1)) = false; rw [hplain] <;> rfl) (Calls.evalArgs_plain ?_)
  exact thn hA fun us s2 ⟨vs, H2, I2, r2, q2⟩ => hm pins s2 σ H2 x vs v us Q I2 r1 r2 q2
end
end L2
namespace L2
open PySem PySem.Spec PyProof.Rows
def MtM (X : Cx) (id : String) (r : V → List V → Hp → VK → Prop) : Prop :=
  ∀ (pins : List (Addr × Obj)) (s : Shared) (σ : St) (H : Hp) (x : V) (xs : List V) (v : Value) (us : List Value) (Q : VK), Inv X pins σ H s → RelV x v → Vals xs us → r x xs H Q →
    wpAny (model X.prog X.w) X.A (call (.builtin id) (v :: us)) (EP X pins σ Q) X.xe s
theorem Vals.two : ∀ {x y : V} {us : List Value}, Vals [x, y] us → ∃ u v, us = [u, v] ∧ RelV x u ∧ RelV y v
  | _, _, _, .cons r (.cons q .nil) => ⟨_, _, rfl, r, q⟩
section
variable {X : Cx} {pins : List (Addr × Obj)} {σ : St} {H : Hp} {s : Shared} {l b : Addr} {xs ys zs : List V}
theorem Inv.lnew {its : List Value} {t' : Nat} (I : Inv X pins σ H s) (hv : Vals ys its) (hz : ys.length ≤ sizeLine) :
    Inv X pins σ (upd H s.heap.objs.size (.lst ys)) { s with heap := s.heap.push { cls := .type "list", data := .seq its.toArray }, toks := t' } :=
  I.laid (fun _ _ q => Heap.get?_push_of_some _ q) (Nat.le_refl _) ⟨hz, its, 0, hv, Heap.get?_push_size _ rfl⟩
theorem Inv.fresh (I : Inv X pins σ H s) : H s.heap.objs.size = none := I.hok.fresh (Nat.le_refl _)
theorem Inv.lstM (I : Inv X pins σ H s) (hH : H l = some (.lst xs)) : xs.length ≤ sizeLine ∧ ∃ (its : List Value) (n : Nat), Vals xs its ∧ xs.length = its.length ∧ s.heap.get? l = some { cls := .type "list", data := .seq its.toArray n } := by
  obtain ⟨z, its, n, r, e⟩ := I.hok l _ hH
  exact ⟨z, its, n, r, r.length, e⟩
theorem notLongL {n : Nat} (h : n ≤ sizeLine) : Builtin.List.listTooLong n = false := by
  unfold Builtin.List.listTooLong
  exact decide_eq_false (by omega)
end
section
variable {X : Cx}
def rAppend : V → List V → Hp → VK → Prop := fun x vs H Q => ∃ l xs y, x = .ref l ∧ vs = [y] ∧ H l = some (.lst xs) ∧ xs.length < sizeLine ∧ Q .non (upd H l (.lst (xs ++ [y])))
def rExtend : V → List V → Hp → VK → Prop := fun x vs H Q => ∃ l b xs zs, x = .ref l ∧ vs = [.ref b] ∧ H l = some (.lst xs) ∧ H b = some (.lst zs) ∧ xs.length + zs.length ≤ sizeLine ∧ Q .non (upd H l (.lst (xs ++ zs)))
def rPop : V → List V → Hp → VK → Prop := fun x vs H Q => ∃ l xs y, x = .ref l ∧ vs = [] ∧ H l = some (.lst xs) ∧ xs[xs.length - 1]? = some y ∧ Q y (upd H l (.lst xs.dropLast))
def rPopAt : V → List V → Hp → VK → Prop := fun x vs H Q => ∃ l xs i k y, x = .ref l ∧ vs = [.int i] ∧ H l = some (.lst xs) ∧ -(2 ^ 63) ≤ i ∧ i < 2 ^ 63 ∧ seqIndex? i xs.length = some k ∧ xs[k]? = some y ∧ Q y (upd H l (.lst (xs.eraseIdx k)))
def rReverse : V → List V → Hp → VK → Prop := fun x vs H Q => ∃ l xs, x = .ref l ∧ vs = [] ∧ H l = some (.lst xs) ∧ Q .non (upd H l (.lst xs.reverse))
def rClear : V → List V → Hp → VK → Prop := fun x vs H Q => ∃ l xs, x = .ref l ∧ vs = [] ∧ H l = some (.lst xs) ∧ Q .non (upd H l (.lst []))
def rCat : R2 := fun x y H Q => ∃ l b xs zs, x = .ref l ∧ y = .ref b ∧ H l = some (.lst xs) ∧ H b = some (.lst zs) ∧ xs.length + zs.length ≤ sizeLine ∧ ∀ p, H p = none → Q (.ref p) (upd H p (.lst (xs ++ zs)))
theorem op_cat : OpR X (binaryOp .Add) rCat := by
  intro pins s σ H x y v u Q I rx ry h
  obtain ⟨l, b, xs, zs, rfl, rfl, hH, hB, hz, q⟩ := h
  cases rx
  cases ry
  obtain ⟨z, its, n, r, hl, e⟩ := I.lstM hH
  obtain ⟨z2, its2, n2, r2, hl2, e2⟩ := I.lstM hB
  refine PySem.P.add_list e e2 ?_ (by rw [List.size_toArray, List.size_toArray]; omega)
  have ea : its.toArray ++ its2.toArray = (its ++ its2).toArray := by simp
  rw [ea]
  exact ⟨.ref _, _, I.lnew (t' := s.toks) (r.append r2) (by rw [List.length_append]; omega), rfl, q _ I.fresh⟩
def rRep : R2 := fun x y H Q => ∃ l k xs, x = .ref l ∧ y = .int k ∧ H l = some (.lst xs) ∧ -(2 ^ 63) ≤ k ∧ k < 2 ^ 63 ∧ xs.length * k.toNat ≤ sizeLine ∧
  ∀ p, H p = none → Q (.ref p) (upd H p (.lst (List.replicate k.toNat xs).flatten))
end
section
variable {prog : Program} {w : World} {A : Around} {E : Value → Shared → Prop} {s : Shared}
end
section
variable {X : Cx}
end
end L2
namespace Att
open PySem PySem.W PySem.Calls PyProof.Rows
theorem ints_of_wellAll {P : Params} {h : Heap} : ∀ (ns : List Int) (vs : List Value), WellAll P h vs (ns.map WData.int) → IntsAre vs ns := by
  intro ns
  induction ns with
  | nil =>
    intro vs w
    rw [List.map_nil] at w
    cases w
    exact .nil
  | cons n ns ih =>
    intro vs w
    rw [List.map_cons] at w
    cases w with
    | cons a b =>
      cases a
      exact .cons _ _ (ih _ b)
theorem script_of {l : OpenLaw} {n : Nat} (hn : l.most = some n) {P : Params} {h : Heap} {args : List WData} {vals : List Value}
    (hpre : l.row.toRowW.claim.pre args = true) (hwl : WellAll P h vals args) :
    ∃ a vs ns, vals = [Value.ref a] ∧ args = [WData.list (ns.map WData.int)] ∧ h.get? a = some { cls := .type "list", data := .seq vs.toArray } ∧ IntsAre vs ns ∧ ns.length ≤ n := by
  have hsh : WShape.hasAll [] args [.list .int] = true := (pre_splitW hpre).1
  have hc : l.pre.holds [] { args := args } = true := (pre_splitW hpre).2
  obtain ⟨d, r, rfl, h1, h2⟩ := hasAllW_cons hsh
  obtain rfl := hasAllW_nil h2
  obtain ⟨xs, rfl, h3⟩ := hasW_list h1
  obtain ⟨ns, rfl⟩ := items_int h3
  have hlen : ns.length ≤ n := by
    unfold OpenLaw.pre at hc
    have h4 : (WTm.not (.lt (.lit (.int (n : Int))) (.len (.arg 0)))).holds [] { args := [.list (ns.map .int)] } = true := by
      have h4 := (holds_andW hc).1
      rw [hn] at h4
      exact h4
    have h5 := condW_of h4 (w_not (w_lt w_lit (w_len_list (w_arg rfl))))
    rw [List.length_map] at h5
    refine Nat.le_of_not_lt fun q => ?_
    have q' : (n : Int) < ((ns.length : Nat) : Int) := by omega
    first
      | (rw [decide_eq_true q'] at h5; exact absurd h5 (by decide))
      | (simp at h5; omega)
  cases hwl with
  | cons w1 w2 =>
    cases w2
    cases w1 with
    | list ho hall => exact ⟨_, _, ns, rfl, rfl, ho, ints_of_wellAll ns _ hall, hlen⟩
theorem post_true (l : OpenLaw) (args : List WData) : l.row.toRowW.claim.post args (.bool true) args = true :=
  postW_of (r := l.row.toRowW) (X := (true == true))
    (show WShape.has [] (.bool true) .bool = true by first | rfl | decide | simp [WShape.has, WShape.arms, WShape.armsAll])
    (show (WTm.eq .res (.lit (.bool true))).value [] { args := args, res := some (.bool true), after := args } = some (.bool (true == true)) from w_eq_bool (w_res rfl) w_lit) rfl
theorem attach_call {l : OpenLaw} {n : Nat} {q : Program} {loose : List Str} {XP : (Str → Option Value) → Heap → Prop} {YP : World → Heap → Prop} {d : DefRec}
    (hn : l.most = some n) (hdf : d.params.defaults = [])
    (call : ∀ (w : World) (s₀ s₁ : Shared) (mg mb : Str → Option Value) (fa : Addr) (o : Obj) (pm cd doc : Value) (a : Addr) (vs : List Value) (ns : List Int),
      Ground q loose [] XP w s₀ mg mb s₁.heap → YP w s₁.heap →
      s₁.heap.get? fa = some o → o.data = .func (docDef d.name d.params d.body d.scope pm cd doc) → s₁.heap.CodeRec cd d.name → mg d.name = some (.ref fa) →
      s₁.heap.get? a = some { cls := .type "list", data := .seq vs.toArray } → IntsAre vs ns → ns.length ≤ n → s₁.gens = #[] →
      codeAny (model l.prog w) callerA (.call (.ref fa) ⟨[.ref a], []⟩) (fun r s' => r = .ok (.ret (.bool true)) ∧ OldK s₁.heap s'.heap ∧ s'.os = s₁.os ∧ AllBare s'.gens) s₁) :
    WalkO q loose XP YP l.row.toRowW d [] (fun f vs => PySem.call f vs) := by
  intro w s₀ s₁ mg mb G Y fa o pm cd doc dV kV ho hd hcd hD hmg hg args vals as hpre hlay hrd hwl hlo
  obtain rfl : dV = .none := Dflts.none hD hdf
  obtain rfl : kV = .none := Dflts.noKw hD
  obtain ⟨a, vs, ns, rfl, rfl, hobj, hints, hlen⟩ := script_of hn hpre hwl
  refine enter_call (codeAny_mono (call w s₀ s₁ mg mb fa o pm cd doc a vs ns G Y ho (fd_plain hd) hcd hmg hobj hints hlen hg) fun r s' hq => ?_)
  obtain ⟨rfl, h2, h3, h4⟩ := hq
  exact ⟨.inl ⟨.bool true, .bool true, [], rfl, fun _ => rfl, .bool true, post_true l _, fun _ => ⟨List.Pairwise.nil, fun _ hm => (nomatch hm)⟩⟩, h2, h3, h4⟩
section
variable {prog : Program} {w : World} {A : Around} {E : Value → Shared → Prop} {s : Shared} {K : Frag}
def noObjs (h : Heap) : Heap := { h with objs := #[] }
def ledger (h : Heap) (L d : Addr) : List (Addr × Obj) := (List.range h.objs.size).filterMap fun a => if a = L ∨ a = d then none else (h.get? a).map fun o => (a, o)
end
end Att
namespace L2
open PySem PySem.Spec PyProof.Rows
theorem vals_ints : ∀ {vs : List Value} {ns : List Int}, IntsAre vs ns → Vals (ns.map V.int) vs
  | _, _, .nil => .nil
  | _, _, .cons n t h => .cons ⟨t, rfl⟩ (vals_ints h)
def Only (H : Hp) : Prop := ∀ b, H b = none ∨ ∃ o xs, H b = some (.frz o (.lst xs))
end L2
namespace L2
open PySem PySem.Spec PyProof.Rows
abbrev KOf {K : PySem.W.Frag} {h : Heap} (_ : K.In h) : PySem.W.Frag := K
end L2
namespace L2
open PySem PySem.Spec PyProof.Rows
def inClass (s : Stmt) (j : Nat) : Stmt := match s with
  | .ClassDef _ _ _ body _ _ _ _ _ _ _ => body.getD j (.Pass ⟨0, 0, 0, 0⟩)
  | _ => .Pass ⟨0, 0, 0, 0⟩
def defArgs (s : Stmt) : Arguments := match s with
  | .FunctionDef _ a _ _ _ _ _ _ _ _ => a
  | _ => { posonlyargs := [], args := [], vararg := none, kwonlyargs := [], kw_defaults := [], kwarg := none, defaults := [] }
def defBody (s : Stmt) : List Stmt := match s with
  | .FunctionDef _ _ b _ _ _ _ _ _ _ => b
  | _ => []
def defScope (s : Stmt) : Scope := match s with
  | .FunctionDef _ _ _ _ _ _ sc _ _ _ => sc
  | _ => { kind := .function, names := [], isGenerator := false, isCoroutine := false }
abbrev CX0 : CXT := fun _ _ _ _ _ _ => False
abbrev E0 : XK := fun _ _ _ => False
theorem pass0 {X : Cx} : Passes CX0 X E0 := fun _ _ _ _ _ _ _ h => h.elim
structure Fun (K : PySem.W.Frag) (x qual : Str) (st : Stmt) (f : Addr) (fd : FuncData) : Prop where
  ex : ∃ (oc : Value) (od : Option Addr) (kV doc pm : Value) (an : Option Addr) (cdv ct : Value) (osl : Array (Option Value)),
    fd = PySem.W.fnOf x qual (defArgs st) (defBody st) (defScope st) .none kV doc pm an cdv ct ∧ K.lookup f = some ⟨oc, od, .func fd, osl⟩ ∧ PySem.W.codeIn K cdv qual = true
  kp : PySem.W.keepIn K (.ref f) = true
section
variable {P : Program} {w : World} {K : PySem.W.Frag} {mg : Str → Option Value} {base : Heap}
theorem Fun.ok {x qual : Str} {st : Stmt} {f : Addr} {fd : FuncData} {N ps : List Str} {k : Nat} {sp : Sp} (F : Fun K x qual st f fd) (S : FnScope N ps (defScope st)) (len : ∀ vs H Q E, sp vs H Q E → vs.length = ps.length)
    (hbody : ∀ (cdv : Value) (A : Around) (outer : List Env) (s : Shared) (H : Hp) (vs : List V) (Q : VK) (E : XK), Room k (A.deeper (envOfC qual (defScope st) s.heap.objs.size f cdv)) → sp vs H Q E →
      ∃ t, PSs (cxOf CX0 P w K mg base N qual (defScope st) f cdv A outer s H E).nox (defBody st) t ∧ t { nx := fun _ H' => Q .non H', rt := Q } (start N vs) H) : FnOk P w K mg base CX0 (k + 1) f fd ps sp := by
  obtain ⟨oc, od, kV, doc, pm, an, cdv, ct, osl, rfl, lk, hcd⟩ := F.ex
  refine fn_of lk hcd S len fun A outer s H vs Q E hr hsp => ?_
  obtain ⟨t, h, q⟩ := hbody cdv A outer s H vs Q E hr hsp
  exact ⟨t, h.nox, q⟩
theorem fun_mk {x qual : Str} {st : Stmt} {f : Addr} {oc : Value} {od an : Option Addr} {osl : Array (Option Value)} {kV doc pm cdv ct : Value} (l : K.lookup f = some ⟨oc, od, .func (PySem.W.fnOf x qual (defArgs st) (defBody st) (defScope st) .none kV doc pm an cdv ct), osl⟩)
    (c : PySem.W.codeIn K cdv qual = true) (k : PySem.W.keepIn K (.ref f) = true) : Fun K x qual st f (PySem.W.fnOf x qual (defArgs st) (defBody st) (defScope st) .none kV doc pm an cdv ct) := ⟨⟨oc, od, kV, doc, pm, an, cdv, ct, osl, rfl, l, c⟩, k⟩
end
section
variable {X : Cx}
theorem pv (i : Nat) {x : Str} {pos : Pos} (hN : X.N[i]? = some x := by rfl) (hv : Vis X.env.scope x := by first | exact Or.inl rfl | exact Or.inr (Or.inl rfl) | exact Or.inr (Or.inr rfl)) (hd : (x == ("__debug__" : Str)) = false := by decide)
    (hcd : (x == ("__classdict__" : Str)) = false := by decide) : PE X (.Name x pos) (tVar i) := pe_var hN hv hd hcd
end
theorem iteF {A B : Prop} (h : B) : if false = true then A else B := by
  rw [if_neg Bool.false_ne_true]
  exact h
theorem iteT {A B : Prop} (h : A) : if true = true then A else B := by
  rw [if_pos rfl]
  exact h
theorem ite2 {c A B : Prop} [Decidable c] (h1 : c → A) (h2 : ¬ c → B) : if c then A else B := by
  by_cases h : c
  · rw [if_pos h]
    exact h1 h
  · rw [if_neg h]
    exact h2 h
def Same (H H' : Hp) : Prop := ∀ b o, H b = some o → H' b = some o
theorem Same.refl (H : Hp) : Same H H := fun _ _ h => h
theorem Same.trans {H H1 H2 : Hp} (a : Same H H1) (b : Same H1 H2) : Same H H2 := fun c o h => b c o (a c o h)
theorem Same.free {H H' : Hp} (e : Same H H') {l : Addr} (h : H' l = Option.none) : H l = Option.none := by
  cases q : H l with
  | none => rfl
  | some o =>
    rw [e l o q] at h
    cases h
theorem Same.seq {K : PySem.W.Frag} {H H' : Hp} {a : Addr} {xs : List V} (e : Same H H') (h : SqL K H a xs) : SqL K H' a xs := by
  rcases h with (h | ⟨o, h⟩) | h
  · exact .inl (.inl (e _ _ h))
  · exact .inl (.inr ⟨o, e _ _ h⟩)
  · exact .inr h
end L2
namespace L2
open PySem PySem.Spec PyProof.Rows
section
variable {κ : Type} [DecidableEq κ]
def valV (kvs : List (κ × V)) (k : κ) : Option V := (kvs.find? fun kv => decide (kv.1 = k)).map (·.2)
def putK (kvs : List (κ × V)) (k : κ) (v : V) : List (κ × V) :=
  if (kvs.any fun kv => decide (kv.1 = k)) = true then kvs.map (fun kv => if kv.1 = k then (kv.1, v) else kv) else kvs ++ [(k, v)]
def dropK (kvs : List (κ × V)) (k : κ) : List (κ × V) := kvs.filter fun kv => decide (kv.1 ≠ k)
theorem valV_nil {k : κ} : valV ([] : List (κ × V)) k = none := rfl
theorem valV_pos {p : κ × V} {r : List (κ × V)} {k : κ} (e : p.1 = k) : valV (p :: r) k = some p.2 := by simp [valV, List.find?_cons, e]
theorem valV_neg {p : κ × V} {r : List (κ × V)} {k : κ} (e : ¬ p.1 = k) : valV (p :: r) k = valV r k := by simp [valV, List.find?_cons, e]
theorem valV_any (k : κ) : ∀ kvs : List (κ × V), (kvs.any fun kv => decide (kv.1 = k)) = (valV kvs k).isSome
  | [] => rfl
  | p :: r => by
    rw [List.any_cons]
    by_cases e : p.1 = k
    · simp only [valV_pos e, decide_eq_true e, Bool.true_or, Option.isSome_some]
    · rw [valV_neg e, decide_eq_false e, Bool.false_or]; exact valV_any k r
theorem valV_map (k j : κ) (y : V) : ∀ kvs : List (κ × V), valV (kvs.map fun kv => if kv.1 = k then (kv.1, y) else kv) j = (valV kvs j).map fun x => if j = k then y else x
  | [] => rfl
  | p :: r => by
    have ih := valV_map k j y r
    rw [List.map_cons]
    by_cases h : p.1 = k
    · rw [if_pos h]
      by_cases e : p.1 = j
      · rw [valV_pos (p := (p.1, y)) e, valV_pos e, Option.map_some, if_pos (e.symm.trans h)]
      · rw [valV_neg (p := (p.1, y)) e, valV_neg e, ih]
    · rw [if_neg h]
      by_cases e : p.1 = j
      · rw [valV_pos (p := p) e, valV_pos e, Option.map_some, if_neg (fun z => h (e.trans z))]
      · rw [valV_neg (p := p) e, valV_neg e, ih]
theorem valV_snoc (k j : κ) (y : V) : ∀ kvs : List (κ × V), valV kvs k = none → valV (kvs ++ [(k, y)]) j = if j = k then some y else valV kvs j
  | [], _ => by
    by_cases e : k = j
    · rw [if_pos e.symm]; exact valV_pos (p := (k, y)) e
    · rw [if_neg (fun z => e z.symm)]; exact valV_neg (p := (k, y)) e
  | p :: r, hn => by
    rw [List.cons_append]
    have hk : ¬ p.1 = k := fun z => by rw [valV_pos z] at hn; cases hn
    rw [valV_neg hk] at hn
    have ih := valV_snoc k j y r hn
    by_cases e : p.1 = j
    · rw [valV_pos e, valV_pos e, if_neg (fun z => hk (e.trans z))]
    · rw [valV_neg e, valV_neg e, ih]
theorem valV_put (kvs : List (κ × V)) (k j : κ) (y : V) : valV (putK kvs k y) j = if j = k then some y else valV kvs j := by
  unfold putK
  by_cases a : (kvs.any fun kv => decide (kv.1 = k)) = true
  · rw [if_pos a, valV_map]
    rw [valV_any] at a
    by_cases e : j = k
    · obtain ⟨x, hx⟩ := Option.isSome_iff_exists.mp a
      rw [if_pos e, e, hx, Option.map_some, if_pos rfl]
    · rw [if_neg e]
      cases valV kvs j with
      | none => rfl
      | some x => rw [Option.map_some, if_neg e]
  · rw [if_neg a]
    refine valV_snoc k j y kvs ?_
    rw [valV_any] at a
    cases q : valV kvs k with
    | none => rfl
    | some x => rw [q] at a; exact (a rfl).elim
theorem length_putK (kvs : List (κ × V)) (k : κ) (v : V) : (putK kvs k v).length ≤ kvs.length + 1 := by
  unfold putK
  split
  · rw [List.length_map]; omega
  · rw [List.length_append, List.length_cons, List.length_nil]; omega
theorem RelO.isSome_eq {o : Option V} {u : Option Value} (r : RelO o u) : o.isSome = u.isSome := by
  cases o with
  | none => cases u with
    | none => rfl
    | some _ => exact (show False from r).elim
  | some _ => cases u with
    | none => exact (show False from r).elim
    | some _ => rfl
theorem RelO.getD {o : Option V} {u : Option Value} {d : V} {d' : Value} (r : RelO o u) (rd : RelV d d') : RelV (o.getD d) (u.getD d') := by
  cases o with
  | none => cases u with
    | none => exact rd
    | some _ => exact (show False from r).elim
  | some _ => cases u with
    | none => exact (show False from r).elim
    | some _ => exact r
theorem KV.val {kvs : List (κ × V)} {vs : List (κ × Value)} (r : KV kvs vs) (k : κ) : RelO (valV kvs k) (valueAt vs k) := by
  unfold KV at r
  induction r with
  | nil => exact True.intro
  | @cons p q ps qs h t ih =>
    obtain ⟨h1, h2⟩ := h
    by_cases e : p.1 = k
    · have e' : q.1 = k := h1.symm.trans e
      have b : valueAt (q :: qs) k = some q.2 := by simp [valueAt, List.find?_cons, e']
      rw [valV_pos e, b]; exact h2
    · have e' : ¬ q.1 = k := fun z => e (h1.trans z)
      have b : valueAt (q :: qs) k = valueAt qs k := by simp [valueAt, List.find?_cons, e']
      rw [valV_neg e, b]; exact ih
theorem KV.any {kvs : List (κ × V)} {vs : List (κ × Value)} (r : KV kvs vs) (k : κ) : (kvs.any fun kv => decide (kv.1 = k)) = vs.any fun kv => decide (kv.1 = k) := by
  unfold KV at r
  induction r with
  | nil => rfl
  | cons h t ih => rw [List.any_cons, List.any_cons, ih, h.1]
theorem KV.repl {kvs : List (κ × V)} {vs : List (κ × Value)} (r : KV kvs vs) (k : κ) {y : V} {u : Value} (ry : RelV y u) :
    KV (kvs.map fun kv => if kv.1 = k then (kv.1, y) else kv) (vs.map fun kv => if kv.1 = k then (kv.1, u) else kv) := by
  unfold KV at r ⊢
  induction r with
  | nil => exact .nil
  | @cons p q ps qs h t ih =>
    rw [List.map_cons, List.map_cons]
    refine .cons ?_ ih
    obtain ⟨h1, h2⟩ := h
    by_cases e : p.1 = k
    · rw [if_pos e, if_pos (h1.symm.trans e)]; exact ⟨h1, ry⟩
    · rw [if_neg e, if_neg (fun z => e (h1.trans z))]; exact ⟨h1, h2⟩
theorem KV.put {kvs : List (κ × V)} {vs : List (κ × Value)} (r : KV kvs vs) (k : κ) {y : V} {u : Value} (ry : RelV y u) : KV (putK kvs k y) (stored vs k u) := by
  unfold putK stored
  rw [r.any k]
  by_cases e : (vs.any fun kv => decide (kv.1 = k)) = true
  · rw [if_pos e, if_pos e]; exact r.repl k ry
  · rw [if_neg e, if_neg e]; exact Paired.snoc r ⟨rfl, ry⟩
theorem KV.length {kvs : List (κ × V)} {vs : List (κ × Value)} (r : KV kvs vs) : kvs.length = vs.length := Paired.length r
end
theorem kV_is {P : Program} {w : World} {k : Key} {u : Value} (r : RelV (kV k) u) : (mixKind P w).is k u = true := by
  cases k with
  | inl i => obtain ⟨t, e⟩ := (show ∃ t, u = Value.int i t from r); subst e; exact mixKind_int P w i t
  | inr x => obtain ⟨t, e⟩ := (show ∃ t, u = Value.str x t from r); subst e; exact mixKind_str P w x t
theorem items_are {P : Program} {w : World} : ∀ {ks : List Key} {us : List Value}, Vals (ks.map kV) us → ItemsAre (mixKind P w) ks us
  | [], _, r => by rw [List.map_nil] at r; cases r; exact .nil
  | k :: ks, _, r => by
    rw [List.map_cons] at r
    cases r with
    | cons h t => exact .cons (kV_is h) (items_are t)
abbrev KT (H : Hp) : List (List Key × V) → List (List Key × Addr × Value) → Prop := Paired fun p q => p.1 = q.1 ∧ H q.2.1 = some (.tup (p.1.map kV)) ∧ RelV p.2 q.2.2
theorem KT.val {H : Hp} {kvs : List (List Key × V)} {xs : List (List Key × Addr × Value)} (r : KT H kvs xs) (k : List Key) : RelO (valV kvs k) ((atKey xs k).map (·.2)) := by
  induction r with
  | nil => exact True.intro
  | @cons p q ps qs h t ih =>
    obtain ⟨h1, _, h2⟩ := h
    by_cases e : p.1 = k
    · have e' : q.1 = k := h1.symm.trans e
      have b : atKey (q :: qs) k = some q.2 := by simp [atKey, List.find?_cons, e']
      rw [valV_pos e, b]; exact h2
    · have e' : ¬ q.1 = k := fun z => e (h1.trans z)
      have b : atKey (q :: qs) k = atKey qs k := by simp [atKey, List.find?_cons, e']
      rw [valV_neg e, b]; exact ih
theorem KT.repl {H : Hp} {kvs : List (List Key × V)} {xs : List (List Key × Addr × Value)} (r : KT H kvs xs) (k : List Key) {y : V} {u : Value} (ry : RelV y u) :
    KT H (kvs.map fun kv => if kv.1 = k then (kv.1, y) else kv) (xs.map (putAt k u)) := by
  induction r with
  | nil => exact .nil
  | @cons p q ps qs h t ih =>
    rw [List.map_cons, List.map_cons]
    refine .cons ?_ ih
    obtain ⟨h1, h2, h3⟩ := h
    unfold putAt
    by_cases e : p.1 = k
    · rw [if_pos e, if_pos (h1.symm.trans e)]; exact ⟨h1, h2, ry⟩
    · rw [if_neg e, if_neg (fun z => e (h1.trans z))]; exact ⟨h1, h2, h3⟩
theorem KT.put {H : Hp} {kvs : List (List Key × V)} {xs : List (List Key × Addr × Value)} (r : KT H kvs xs) (k : List Key) {b : Addr} {y : V} {u : Value} (hb : H b = some (.tup (k.map kV))) (ry : RelV y u) :
    KT H (putK kvs k y) (storedH xs k b u) := by
  have e : (kvs.any fun kv => decide (kv.1 = k)) = (atKey xs k).isSome := by
    rw [valV_any, (r.val k).isSome_eq, Option.isSome_map]
  unfold putK storedH
  rw [e]
  by_cases q : (atKey xs k).isSome = true
  · rw [if_pos q, if_pos q]; exact r.repl k ry
  · rw [if_neg q, if_neg q]; exact Paired.snoc r ⟨rfl, hb, ry⟩
theorem KT.keeps {H H' : Hp} {kvs : List (List Key × V)} {xs : List (List Key × Addr × Value)} (r : KT H kvs xs) (ht : ∀ b ys, H b = some (.tup ys) → H' b = some (.tup ys)) : KT H' kvs xs :=
  Paired.mapP r fun _ _ z => ⟨z.1, ht _ _ z.2.1, z.2.2⟩
section
variable {P : Program} {w : World} {H : Hp} {h : Heap} {a : Addr}
theorem rd_of {u : HO} (ok : HOk P w H h) (e : Rd H a u) : ObjOk P w H h a u := e.ok ok
theorem dk_rd {kvs : List (Key × V)} (ok : HOk P w H h) (e : Rd H a (.dK kvs)) : kvs.length ≤ sizeLine ∧ (a == sysModules) = false ∧ ∃ vs, KV kvs vs ∧ h.DictOf (mixKind P w) a vs :=
  show ObjOk P w H h a (.dK kvs) from rd_of ok e
theorem dk_of {kvs : List (Key × V)} (ok : HOk P w H h) (e : H a = some (.dK kvs)) : kvs.length ≤ sizeLine ∧ (a == sysModules) = false ∧ ∃ vs, KV kvs vs ∧ h.DictOf (mixKind P w) a vs := dk_rd ok (.inl e)
theorem key_of {ks : List Key} (ok : HOk P w H h) (e : H a = some (.tup (ks.map kV))) : (tupleKind (mixKind P w)).is h ks a := by
  obtain ⟨_, its, r, o, h1, h2, n, h3⟩ := (show ObjOk P w H h a (.tup (ks.map kV)) from ok a _ e)
  exact ⟨o, its.toArray, n, h1, h2, h3, by simpa using items_are r⟩
theorem dt_rd {kvs : List (List Key × V)} (ok : HOk P w H h) (e : Rd H a (.dT kvs)) : kvs.length ≤ sizeLine ∧ (a == sysModules) = false ∧
    ∃ xs, KT H kvs xs ∧ h.DictOfH (tupleKind (mixKind P w)) a xs := by
  obtain ⟨z, y, xs, r, o, es, ep, h1, h2, h3, h4, h5⟩ := (show ObjOk P w H h a (.dT kvs) from rd_of ok e)
  refine ⟨z, y, xs, r, o, es, ep, h1, h2, h3, h4, fun x hx => ?_, h5⟩
  have all : ∀ {l : List (List Key × V)} {m : List (List Key × Addr × Value)}, KT H l m → ∀ x ∈ m, (tupleKind (mixKind P w)).is h x.1 x.2.1 := by
    intro l m q
    induction q with
    | nil => intro x hx; exact nomatch hx
    | @cons p q ps qs hq t ih =>
      intro x hx
      rcases List.mem_cons.mp hx with e | hx
      · subst e
        exact key_of ok (by rw [← hq.1]; exact hq.2.1)
      · exact ih x hx
  exact all r x hx
theorem dt_of {kvs : List (List Key × V)} (ok : HOk P w H h) (e : H a = some (.dT kvs)) : kvs.length ≤ sizeLine ∧ (a == sysModules) = false ∧
    ∃ xs, KT H kvs xs ∧ h.DictOfH (tupleKind (mixKind P w)) a xs := dt_rd ok (.inl e)
end
def DGet (H : Hp) (a : Addr) (y : V) (r : Option V) : Prop :=
  (∃ kvs k, Rd H a (.dK kvs) ∧ y = kV k ∧ r = valV kvs k) ∨ ∃ kvs k b, Rd H a (.dT kvs) ∧ y = .ref b ∧ H b = some (.tup (k.map kV)) ∧ r = valV kvs k
def DPut (H : Hp) (a : Addr) (y v : V) (H' : Hp) : Prop :=
  (∃ kvs k, H a = some (.dK kvs) ∧ y = kV k ∧ kvs.length < sizeLine ∧ H' = upd H a (.dK (putK kvs k v))) ∨
  ∃ kvs k b, H a = some (.dT kvs) ∧ y = .ref b ∧ H b = some (.tup (k.map kV)) ∧ kvs.length < sizeLine ∧ H' = upd H a (.dT (putK kvs k v))
theorem DGet.t {H : Hp} {a b : Addr} {kvs : List (List Key × V)} {k : List Key} (e : H a = some (.dT kvs)) (eb : H b = some (.tup (k.map kV))) : DGet H a (.ref b) (valV kvs k) := .inr ⟨kvs, k, b, .inl e, rfl, eb, rfl⟩
theorem DPut.t {H : Hp} {a b : Addr} {kvs : List (List Key × V)} {k : List Key} {v : V} (e : H a = some (.dT kvs)) (eb : H b = some (.tup (k.map kV))) (hl : kvs.length < sizeLine) :
    DPut H a (.ref b) v (upd H a (.dT (putK kvs k v))) := .inr ⟨kvs, k, b, e, rfl, eb, hl, rfl⟩
section
variable {X : Cx} {pins : List (Addr × Obj)} {σ : St} {H : Hp} {s : Shared} {a : Addr} {y v : V} {u r : Value} {o : Option V} {A : Around} {E : Value → Shared → Prop}
theorem Inv.big (I : Inv X pins σ H s) : sysModules < s.heap.objs.size := by
  have h : mainGlobals < s.heap.objs.size := (I.mod.glob.keeps I.bk).lt
  exact Nat.lt_trans (by decide) h
theorem d_getItem {Q : Value → Shared → Prop} (hu : A.units + 1 < cLine) (I : Inv X pins σ H s) (g : DGet H a y (some v)) (ry : RelV y u) (h : ∀ w' s', Inv X pins σ H s' → RelV v w' → Q w' s') :
    wpAny (model X.prog X.w) A (getItem (.ref a) u) Q E s := by
  rcases g with ⟨kvs, k, e, ey, l⟩ | ⟨kvs, k, b, e, ey, eb, l⟩
  · subst ey
    obtain ⟨z, hd, vs, rel, dd⟩ := dk_rd I.hok e
    obtain ⟨w', hw, rw'⟩ := RelO.some_of (v := v) (o := valueAt vs k) (by rw [l]; exact rel.val k)
    exact wpAny_getItem_of (kV_is ry) dd.mapOf hw (h w' _ (I.tok _) rw')
  · subst ey
    cases (show u = Value.ref b from ry)
    obtain ⟨z, hd, xs, rel, dd⟩ := dt_rd I.hok e
    obtain ⟨w', hw, rw'⟩ := RelO.some_of (v := v) (o := (atKey xs k).map (·.2)) (by rw [l]; exact rel.val k)
    obtain ⟨p, hp, hp2⟩ := Option.map_eq_some_iff.mp hw
    refine wpAny_getItem_heap (tupleKind_room_in1 hu) (key_of I.hok eb) dd hp ?_
    rw [hp2]
    exact h w' _ (I.tok _) rw'
theorem d_write {h' : Heap} {t' : Nat} {ob : HO} (I : Inv X pins σ H s) (mu : Mut (H a)) (hs : Heap.SameBut a s.heap h') (he : ∃ q, h'.get? a = some q) (new : ObjOk X.prog X.w (upd H a ob) h' a ob) :
    Inv X pins σ (upd H a ob) { s with heap := h', toks := t' } :=
  I.write (x := a) (e := a) mu (.inl rfl) (fun b q hb z => (hs.2 b hb).trans z) he new
theorem dk_new {P : Program} {w : World} {H' : Hp} {h' : Heap} {kvs : List (Key × V)} {vs : List (Key × Value)} (z : kvs.length ≤ sizeLine) (hd : (a == sysModules) = false) (rel : KV kvs vs) (dd : h'.DictOf (mixKind P w) a vs) :
    ObjOk P w H' h' a (.dK kvs) := ⟨z, hd, vs, rel, dd⟩
theorem d_setItem {H' : Hp} {Q : Unit → Shared → Prop} (hu : A.units + 1 < cLine) (I : Inv X pins σ H s) (g : DPut H a y v H') (ry : RelV y u) (rv : RelV v r) (h : ∀ s', Inv X pins σ H' s' → Q () s') :
    wpAny (model X.prog X.w) A (setItem (.ref a) u r) Q E s := by
  rcases g with ⟨kvs, k, e, ey, l, eH⟩ | ⟨kvs, k, b, e, ey, eb, l, eH⟩
  · subst ey eH
    obtain ⟨z, hd, vs, rel, dd⟩ := dk_of I.hok e
    have hz : vs.length ≤ sizeLine := by rw [← rel.length]; exact z
    have hl : (putK kvs k v).length ≤ sizeLine := by have := length_putK kvs k v; omega
    refine wpAny_setItem_pairs (hsz := hz) (kV_is ry) dd fun h' dd' hs => h _ ?_
    have he : ∃ q, h'.get? a = some q := let ⟨q, _, _, hq, _⟩ := dd'; ⟨q, hq⟩
    exact d_write I (by rw [e]; exact True.intro) hs he (dk_new hl hd (rel.put k rv) dd')
  · subst ey eH
    cases (show u = Value.ref b from ry)
    obtain ⟨z, hd, xs, rel, dd⟩ := dt_of I.hok e
    have hz : xs.length ≤ sizeLine := by rw [← Paired.length rel]; exact z
    have hl : (putK kvs k v).length ≤ sizeLine := by have := length_putK kvs k v; omega
    refine wpAny_setItem_heap (hsz := hz) (tupleKind_room_in1 hu) (key_of I.hok eb) dd fun h' dd' hs => h _ ?_
    obtain ⟨q, es, ep, hq, h2, h3, h4, _, h5⟩ := dd'
    refine d_write I (by rw [e]; exact True.intro) hs ⟨q, hq⟩ ⟨hl, hd, _, (rel.put k eb rv).keeps fun c ys ec => ?_, q, es, ep, hq, h2, h3, h4, h5⟩
    rw [upd_ne (ne_of ec e (fun z => nomatch z))]
    exact ec
end
section
variable {X : Cx} {pins : List (Addr × Obj)} {σ : St} {H : Hp} {s : Shared} {a : Addr} {kvs : List (Key × V)} {k : Key} {u : Value} {A : Around} {E : Value → Shared → Prop}
end
def NoSl (i : Expr) : Prop := ∀ ov iv, subscripted i false ov iv = operate [ov, iv] (getItem ov iv)
theorem subD_of {prog : Program} {w : World} {A : Around} {E : Value → Shared → Prop} {s : Shared} {env : Env} {value slice : Expr} {pos : Pos} {T id : String} {Q : Value → Shared → Prop}
    (hl : typeLookup (.type T) "__getitem__" = pure (some (.builtin id))) (hs : NoSl slice)
    (h : wpAny (model prog w) A (eval value env) (fun o s₁ => wpAny (model prog w) A (eval slice env) (fun i s₂ => s₂.TypeIs o T ∧ wpAny (model prog w) A (getItem o i) Q E s₂) E s₁) E s) :
    wpAny (model prog w) A (eval (.Subscript value slice pos) env) Q E s := by
  refine Subscript_ (wpAny_mono h (fun o s₁ h₁ => wpAny_mono h₁ (fun i s₂ h₂ => ?_) fun _ _ x => x) fun _ _ x => x)
  obtain ⟨hT, h₂⟩ := h₂
  unfold subscriptTail
  refine wpAny_bind ?_
  rw [getitemInPython_of_ne hT.not_modules]
  refine wpAny_bind (wpAny_specialOf hT hl ?_)
  have fin : wpAny (model prog w) A (subscripted slice false o i) (fun r s₃ => wpAny (model prog w) A (letTemporaryGo value o r >>= fun _ => pure r) Q E s₃) E s₂ := by
    rw [hs o i]
    exact wpAny_operating (wpAny_mono h₂ (fun r s₃ h₃ => wpAny_bind (wpAny_letTemporaryGo (wpAny_pure h₃))) fun _ _ x => x)
  first
    | exact wpAny_pure (wpAny_bind fin)
    | exact wpAny_bind (wpAny_pure (wpAny_bind fin))
    | exact wpAny_bind fin
theorem dict_typeIs {X : Cx} {pins : List (Addr × Obj)} {σ : St} {H : Hp} {s : Shared} {a : Addr} {y : V} {o : Option V} (I : Inv X pins σ H s) (g : DGet H a y o) : s.TypeIs (.ref a) "dict" := by
  rcases g with ⟨kvs, k, e, _, _⟩ | ⟨kvs, k, b, e, _, _, _⟩
  · obtain ⟨_, _, vs, _, dd⟩ := dk_rd I.hok e
    exact dd.typeIs
  · obtain ⟨_, _, xs, _, dd⟩ := dt_rd I.hok e
    exact dd.typeIs
def tDGet (td ty : TE) : TE := fun σ H Q => td σ H fun x H1 => ty σ H1 fun y H2 => ∃ a v, x = .ref a ∧ DGet H2 a y (some v) ∧ Q v H2
def tDIn (ty td : TE) : TE := fun σ H Q => ty σ H fun y H1 => td σ H1 fun x H2 => ∃ a o, x = .ref a ∧ DGet H2 a y o ∧ Q (.bl o.isSome) H2
def tDNotIn (ty td : TE) : TE := fun σ H Q => ty σ H fun y H1 => td σ H1 fun x H2 => ∃ a o, x = .ref a ∧ DGet H2 a y o ∧ Q (.bl (!o.isSome)) H2
def sDPut (td ty tv : TE) : TS := fun D σ H => tv σ H fun v H1 => td σ H1 fun x H2 => ty σ H2 fun y H3 => ∃ a H4, x = .ref a ∧ DPut H3 a y v H4 ∧ D.nx σ H4
def sDAug (td ty tv : TE) (rd : V → V → Hp → VK → Prop) : TS := fun D σ H => td σ H fun x H1 => ty σ H1 fun y H2 => ∃ a v, x = .ref a ∧ DGet H2 a y (some v) ∧
  tv σ H2 fun y2 H3 => rd v y2 H3 fun z H4 => ∃ H5, DPut H4 a y z H5 ∧ D.nx σ H5
def sDDel (td ty : TE) : TS := fun D σ H => td σ H fun x H1 => ty σ H1 fun y H2 => ∃ a kvs k, x = .ref a ∧ H2 a = some (.dK kvs) ∧ y = kV k ∧ (valV kvs k).isSome = true ∧ D.nx σ (upd H2 a (.dK (dropK kvs k)))
section
variable {X : Cx} {o i e value : Expr} {pos pos' tpos : Pos} {td ty tv : TE}
theorem pe_dget (hu : X.A.units + 1 < cLine) (ho : PE X o td) (hi : PE X i ty) (hs : NoSl i) : PE X (.Subscript o i pos) (tDGet td ty) := by
  intro pins s σ H Q I h
  refine subD_of PySem.F.slot_dict_getitem.lookup hs (thn (ho pins s σ H _ I h) fun u s1 ⟨x, H1, I1, rx, q1⟩ => thn (hi pins s1 σ H1 _ I1 q1) fun iv s2 ⟨y, H2, I2, ry, a, v, ex, g, q2⟩ => ?_)
  subst ex
  obtain rfl : u = Value.ref a := rx
  exact ⟨dict_typeIs I2 g, d_getItem hu I2 g ry fun w' s3 I3 rw' => ⟨v, H2, I3, rw', q2⟩⟩
theorem ps_dput (hu : X.A.units + 1 < cLine) (ho : PE X o td) (hi : PE X i ty) (hv : PE X value tv) (hs : swapsWith value (some (.Subscript o i pos')) pos.line X.env = pure false) :
    PS X (.Assign [.Subscript o i pos'] value pos) (sDPut td ty tv) := by
  intro pins s σ H D I h
  refine wpAny_Assign_Subscript (thn (hv pins s σ H _ I h) fun r s1 ⟨v, H1, I1, rv, q1⟩ => thn (ho pins s1 σ H1 _ I1 q1) fun u s2 ⟨x, H2, I2, rx, q2⟩ => thn (hi pins s2 σ H2 _ I2 q2) fun iv s3 ⟨y, H3, I3, ry, a, H4, ex, g, q3⟩ => ?_) hs
  subst ex
  obtain rfl : u = Value.ref a := rx
  exact d_setItem hu I3 g ry rv fun s4 I4 => ⟨σ, H4, I4, q3⟩
end
theorem dk_empty {P : Program} {w : World} {H : Hp} (h : Heap) (hb : sysModules < h.objs.size) : ObjOk P w H (h.push { cls := .type "dict", data := .dict #[] }) h.objs.size (.dK []) :=
  ⟨Nat.zero_le _, beq_eq_false_iff_ne.mpr (Ne.symm (Nat.ne_of_lt hb)), [], .nil, Heap.DictOf.new h⟩
theorem dt_empty {P : Program} {w : World} {H : Hp} (h : Heap) (hb : sysModules < h.objs.size) : ObjOk P w H (h.push { cls := .type "dict", data := .dict #[] }) h.objs.size (.dT []) :=
  ⟨Nat.zero_le _, beq_eq_false_iff_ne.mpr (Ne.symm (Nat.ne_of_lt hb)), [], .nil, _, #[], 0, Heap.get?_push_size _ rfl, ⟨rfl, rfl, rfl⟩, rfl, rfl, List.nodup_nil⟩
def tDNewK : TE := fun _ H Q => ∀ p, H p = none → Q (.ref p) (upd H p (.dK []))
def tDNewT : TE := fun _ H Q => ∀ p, H p = none → Q (.ref p) (upd H p (.dT []))
section
variable {X : Cx} {pos : Pos}
theorem pe_dnewT : PE X (.Dict [] [] pos) tDNewT := fun pins s σ H Q I h =>
  wpAny_Dict_empty ⟨.ref s.heap.objs.size, _, I.laid (a := s.heap.objs.size) (o := .dT []) (t' := s.toks) (fun _ _ q => Heap.get?_push_of_some _ q) (Nat.le_refl _) (dt_empty s.heap I.big), rfl, h _ (I.hok.fresh (Nat.le_refl _))⟩
end
def tPairs : List (TE × TE) → St → Hp → (List (V × V) → Hp → Prop) → Prop
  | [], _, H, Q => Q [] H
  | (tk, tv) :: r, σ, H, Q => tk σ H fun x H1 => tv σ H1 fun y H2 => tPairs r σ H2 fun ps H3 => Q ((x, y) :: ps) H3
abbrev VV : List (V × V) → List (Value × Value) → Prop := Paired fun p q => RelV p.1 q.1 ∧ RelV p.2 q.2
def PPs (X : Cx) (pos : Pos) (keys : List (Option Expr)) (values : List Expr) (trs : List (TE × TE)) : Prop :=
  ∀ (pins : List (Addr × Obj)) (s : Shared) (σ : St) (H : Hp) (Q : List (V × V) → Hp → Prop), Inv X pins σ H s → tPairs trs σ H Q →
    wpAny (model X.prog X.w) X.A (evalPairs (pairTrees keys values X.env pos)) (fun vs s' => ∃ ps H', Inv X pins σ H' s' ∧ VV ps vs ∧ Q ps H') X.xe s
theorem pps_nil {X : Cx} {pos : Pos} : PPs X pos [] [] [] := fun pins s σ H Q I h => pairTrees_nil_walk ⟨[], H, I, .nil, h⟩
theorem pps_cons {X : Cx} {pos : Pos} {k v : Expr} {ks : List (Option Expr)} {vs : List Expr} {tk tv : TE} {trs : List (TE × TE)} (hk : PE X k tk) (hv : PE X v tv) (hr : PPs X pos ks vs trs) :
    PPs X pos (some k :: ks) (v :: vs) ((tk, tv) :: trs) := fun pins s σ H Q I h =>
  pairTrees_cons_walk (thn (hk pins s σ H _ I h) fun u s1 ⟨x, H1, I1, rx, q1⟩ => thn (hv pins s1 σ H1 _ I1 q1) fun w2 s2 ⟨y, H2, I2, ry, q2⟩ =>
    thn (hr pins s2 σ H2 _ I2 q2) fun ws s3 ⟨ps, H3, I3, rel, q3⟩ => ⟨(x, y) :: ps, H3, I3, .cons ⟨rx, ry⟩ rel, q3⟩)
def mergeK (kvs more : List (Key × V)) : List (Key × V) := more.foldl (fun acc kv => putK acc kv.1 kv.2) kvs
theorem KV.merge : ∀ {more : List (Key × V)} {rs : List (Key × Value)} {kvs : List (Key × V)} {vs : List (Key × Value)}, KV more rs → KV kvs vs → KV (mergeK kvs more) (merged vs rs) := by
  intro more rs kvs vs r
  unfold KV at r
  induction r generalizing kvs vs with
  | nil => intro q; exact q
  | @cons p q ps qs h t ih =>
    intro r0
    have e : KV (putK kvs p.1 p.2) (stored vs q.1 q.2) := by
      have := r0.put p.1 h.2
      rw [← h.1]; exact this
    exact ih e
theorem length_mergeK : ∀ (more kvs : List (Key × V)), (mergeK kvs more).length ≤ kvs.length + more.length
  | [], kvs => by show kvs.length ≤ kvs.length + 0; omega
  | p :: r, kvs => by
    have h1 := length_mergeK r (putK kvs p.1 p.2)
    have h2 := length_putK kvs p.1 p.2
    show (mergeK (putK kvs p.1 p.2) r).length ≤ _
    rw [List.length_cons]; omega
theorem carries_of {P : Program} {w : World} : ∀ {kvs : List (Key × V)} {ws : List (Value × Value)}, VV (kvs.map fun kv => (kV kv.1, kv.2)) ws → ∃ rs, Carries (mixKind P w) ws rs ∧ KV kvs rs
  | [], _, r => by rw [List.map_nil] at r; cases r; exact ⟨[], True.intro, .nil⟩
  | p :: kvs, _, r => by
    rw [List.map_cons] at r
    cases r with
    | @cons a b as bs h t =>
      obtain ⟨rs, c, q⟩ := carries_of (P := P) (w := w) t
      obtain ⟨b1, b2⟩ := b
      exact ⟨(p.1, b2) :: rs, ⟨kV_is h.1, rfl, c⟩, .cons ⟨rfl, h.2⟩ q⟩
def tDisp (trs : List (TE × TE)) : TE := fun σ H Q => ∀ p, H p = none → tPairs trs σ (upd H p (.dK [])) fun ps H2 => H2 p = some (.dK []) ∧ ∃ kvs : List (Key × V), ps = kvs.map (fun kv => (kV kv.1, kv.2)) ∧ kvs.length ≤ 15 ∧ Q (.ref p) (upd H2 p (.dK (mergeK [] kvs)))
theorem pe_disp {X : Cx} {pos : Pos} {keys : List (Option Expr)} {values : List Expr} {trs : List (TE × TE)} (h : PPs X pos keys values trs) (hall : keys.all (·.isSome) = true) (hl : keys.length = values.length) (h0 : keys ≠ [])
    (h15 : keys.length ≤ 15) : PE X (.Dict keys values pos) (tDisp trs) := by
  intro pins s σ H Q I q
  have hn := I.hok.fresh (Nat.le_refl s.heap.objs.size)
  have I1 := I.laid (a := s.heap.objs.size) (o := .dK []) (h' := s.heap.push { cls := .type "dict", data := .dict #[] }) (t' := s.toks) (fun _ _ q => Heap.get?_push_of_some _ q) (Nat.le_refl _) (dk_empty s.heap I.big)
  refine wpAny_Dict_walk (knd := mixKind X.prog X.w) hall hl h0 h15 (thn (h pins _ σ _ _ I1 (q _ hn)) fun ws s2 ⟨ps, H2, I2, rel, e, kvs, ep, lk, q2⟩ => ?_)
  subst ep
  obtain ⟨rs, c, rk⟩ := carries_of (P := X.prog) (w := X.w) rel
  obtain ⟨z, hd, vs0, r0, dd⟩ := dk_of I2.hok e
  cases r0
  refine ⟨rs, c, dd, fun h' dd' hs => ⟨.ref s.heap.objs.size, _, ?_, rfl, q2⟩⟩
  have hz : (mergeK [] kvs).length ≤ sizeLine := by
    have h1 := length_mergeK kvs []
    rw [List.length_nil] at h1
    rw [sizeLine_eq]; omega
  have he : ∃ q, h'.get? s.heap.objs.size = some q := let ⟨q, _, _, hq, _⟩ := dd'; ⟨q, hq⟩
  exact d_write I2 (by rw [e]; exact True.intro) hs he (dk_new hz hd (rk.merge .nil) dd')
structure M1 (X : Cx) (o : Expr) (m : Str) (apos : Pos) (e : Expr) (cpos : Pos) : Prop where
  base : attributeBase o m X.env (eval o X.env) = eval o X.env
  few : ((backTo cpos (starEach [e] X.env)).all (fun x => !x.1) && (backToKw cpos (keywordEach [] X.env)).all (fun x => x.1.isSome)
    && decide (([e] : List Expr).length + ([] : List Keyword).length + (if ([] : List Keyword).isEmpty then 0 else 1) < 30)) = true
  line : (apos.endLine == cpos.line) = true
  trees : backTo cpos (starEach [e] X.env) = [(false, eval e X.env)]
structure M2 (X : Cx) (o : Expr) (m : Str) (apos : Pos) (e f : Expr) (cpos : Pos) : Prop where
  base : attributeBase o m X.env (eval o X.env) = eval o X.env
  few : ((backTo cpos (starEach [e, f] X.env)).all (fun x => !x.1) && (backToKw cpos (keywordEach [] X.env)).all (fun x => x.1.isSome)
    && decide (([e, f] : List Expr).length + ([] : List Keyword).length + (if ([] : List Keyword).isEmpty then 0 else 1) < 30)) = true
  line : (apos.endLine == cpos.line) = true
  trees : backTo cpos (starEach [e, f] X.env) = [(false, eval e X.env), (false, eval f X.env)]
def IsD (H : Hp) (a : Addr) : Prop := (∃ kvs, Rd H a (.dK kvs)) ∨ ∃ kvs, Rd H a (.dT kvs)
theorem isD_at {X : Cx} {pins : List (Addr × Obj)} {σ : St} {H : Hp} {s : Shared} {a : Addr} (I : Inv X pins σ H s) (d : IsD H a) :
    s.TypeIs (.ref a) "dict" ∧ (∀ b, Value.ref a = .ref b → ∃ ob, s.heap.get? b = some ob ∧ ob.dict = none) ∧ (a == sysModules) = false := by
  rcases d with ⟨kvs, e⟩ | ⟨kvs, e⟩
  · obtain ⟨_, hd, vs, _, dd⟩ := dk_rd I.hok e
    refine ⟨dd.typeIs, fun b q => ?_, hd⟩
    cases q
    obtain ⟨ob, _, _, h1, h2, _⟩ := dd
    exact ⟨ob, h1, h2.2.1⟩
  · obtain ⟨_, hd, xs, _, dd⟩ := dt_rd I.hok e
    refine ⟨dd.typeIs, fun b q => ?_, hd⟩
    cases q
    obtain ⟨ob, _, _, h1, h2, _⟩ := dd
    exact ⟨ob, h1, h2.2.1⟩
section
variable {X : Cx} {pins : List (Addr × Obj)} {σ : St} {H : Hp} {s : Shared} {a : Addr} {y d : V} {u r : Value} {o : Option V} {A : Around} {E : Value → Shared → Prop}
theorem d_get1 {Q : Value → Shared → Prop} (hu : A.units + 1 < cLine) (I : Inv X pins σ H s) (g : DGet H a y o) (ry : RelV y u) (h : ∀ w' s', Inv X pins σ H s' → RelV (o.getD .non) w' → Q w' s') :
    wpAny (model X.prog X.w) A (call (.builtin "dict.get") [.ref a, u]) Q E s := by
  rcases g with ⟨kvs, k, e, ey, l⟩ | ⟨kvs, k, b, e, ey, eb, l⟩
  · subst ey
    obtain ⟨z, hd, vs, rel, dd⟩ := dk_rd I.hok e
    refine call_meetsIn PySem.F.slot_dict_get dd.typeIs PySem.F.entry_dict_get (PySem.F.args_dict_get_2 _ _) (meets_dict_get (mixKind X.prog X.w) a (kV_is ry) hd) ⟨_, dd.mapOf, h _ _ (I.tok _) ?_⟩
    rw [l]
    exact (rel.val k).getD rfl
  · subst ey
    cases (show u = Value.ref b from ry)
    obtain ⟨z, hd, xs, rel, dd⟩ := dt_rd I.hok e
    refine call_meetsIn PySem.F.slot_dict_get dd.typeIs PySem.F.entry_dict_get (PySem.F.args_dict_get_2 _ _) (meetsH_dict_get (tupleKind (mixKind X.prog X.w)) a b hd) ⟨tupleKind_room_in1 hu, k, xs, key_of I.hok eb, dd, h _ _ (I.tok _) ?_⟩
    rw [l]
    exact (rel.val k).getD rfl
theorem d_get2 {Q : Value → Shared → Prop} (hu : A.units + 1 < cLine) (I : Inv X pins σ H s) (g : DGet H a y o) (ry : RelV y u) (rd : RelV d r) (h : ∀ w' s', Inv X pins σ H s' → RelV (o.getD d) w' → Q w' s') :
    wpAny (model X.prog X.w) A (call (.builtin "dict.get") [.ref a, u, r]) Q E s := by
  rcases g with ⟨kvs, k, e, ey, l⟩ | ⟨kvs, k, b, e, ey, eb, l⟩
  · subst ey
    obtain ⟨z, hd, vs, rel, dd⟩ := dk_rd I.hok e
    refine call_meetsIn PySem.F.slot_dict_get dd.typeIs PySem.F.entry_dict_get (PySem.F.args_dict_get_3 _ _ _) (meets_dict_get_default (mixKind X.prog X.w) a (kV_is ry) hd r) ⟨_, dd.mapOf, h _ _ (I.tok _) ?_⟩
    rw [l]
    exact (rel.val k).getD rd
  · subst ey
    cases (show u = Value.ref b from ry)
    obtain ⟨z, hd, xs, rel, dd⟩ := dt_rd I.hok e
    refine call_meetsIn PySem.F.slot_dict_get dd.typeIs PySem.F.entry_dict_get (PySem.F.args_dict_get_3 _ _ _) (meetsH_dict_get_default (tupleKind (mixKind X.prog X.w)) a b hd r) ⟨tupleKind_room_in1 hu, k, xs, key_of I.hok eb, dd, h _ _ (I.tok _) ?_⟩
    rw [l]
    exact (rel.val k).getD rd
end
def tDGet1 (td ty : TE) : TE := fun σ H Q => td σ H fun x H1 => ∃ a, x = .ref a ∧ IsD H1 a ∧ ty σ H1 fun y H2 => ∃ o, DGet H2 a y o ∧ Q (o.getD .non) H2
def tDGet2 (td ty tx : TE) : TE := fun σ H Q => td σ H fun x H1 => ∃ a, x = .ref a ∧ IsD H1 a ∧ ty σ H1 fun y H2 => tx σ H2 fun z H3 => ∃ o, DGet H3 a y o ∧ Q (o.getD z) H3
def tDPop1 (td ty : TE) : TE := fun σ H Q => td σ H fun x H1 => ∃ a, x = .ref a ∧ IsD H1 a ∧ ty σ H1 fun y H2 => ∃ kvs k v, H2 a = some (.dK kvs) ∧ y = kV k ∧ valV kvs k = some v ∧ Q v (upd H2 a (.dK (dropK kvs k)))
def tDPop2 (td ty tx : TE) : TE := fun σ H Q => td σ H fun x H1 => ∃ a, x = .ref a ∧ IsD H1 a ∧ ty σ H1 fun y H2 => tx σ H2 fun z H3 => ∃ kvs k, H3 a = some (.dK kvs) ∧ y = kV k ∧
  (∀ v, valV kvs k = some v → Q v (upd H3 a (.dK (dropK kvs k)))) ∧ (valV kvs k = none → Q z H3)
section
variable {X : Cx} {o e f : Expr} {apos cpos : Pos} {td ty tx : TE}
theorem pe_dget1 (hu : X.A.units + 1 < cLine) (ho : PE X o td) (he : PE X e ty) (m : M1 X o "get" apos e cpos) : PE X (.Call (.Attribute o "get" apos) [e] [] cpos) (tDGet1 td ty) := by
  intro pins s σ H Q I h
  refine wpAny_Call_method m.base m.few m.line PySem.F.plainAttrs_dict PySem.F.slot_dict_get PySem.F.type_dict_get (thn (ho pins s σ H _ I h) fun u s1 ⟨x, H1, I1, rx, a, ex, d, q1⟩ => ?_)
  subst ex
  obtain rfl : u = Value.ref a := rx
  obtain ⟨t1, t2, _⟩ := isD_at I1 d
  refine ⟨t1, t2, ?_⟩
  rw [m.trees]
  refine Calls.callWith_builtin rfl (Calls.evalArgs_plain (Calls.spliced_cons (thn (he pins s1 σ H1 _ I1 q1) fun iv s2 ⟨y, H2, I2, ry, ov, g, q2⟩ => Calls.spliced_nil ?_)))
  exact d_get1 hu I2 g ry fun w' s3 I3 rw' => ⟨_, H2, I3, rw', q2⟩
theorem pe_dget2 (hu : X.A.units + 1 < cLine) (ho : PE X o td) (he : PE X e ty) (hf : PE X f tx) (m : M2 X o "get" apos e f cpos) : PE X (.Call (.Attribute o "get" apos) [e, f] [] cpos) (tDGet2 td ty tx) := by
  intro pins s σ H Q I h
  refine wpAny_Call_method m.base m.few m.line PySem.F.plainAttrs_dict PySem.F.slot_dict_get PySem.F.type_dict_get (thn (ho pins s σ H _ I h) fun u s1 ⟨x, H1, I1, rx, a, ex, d, q1⟩ => ?_)
  subst ex
  obtain rfl : u = Value.ref a := rx
  obtain ⟨t1, t2, _⟩ := isD_at I1 d
  refine ⟨t1, t2, ?_⟩
  rw [m.trees]
  refine Calls.callWith_builtin rfl (Calls.evalArgs_plain (Calls.spliced_cons (thn (he pins s1 σ H1 _ I1 q1) fun iv s2 ⟨y, H2, I2, ry, q2⟩ =>
    Calls.spliced_cons (thn (hf pins s2 σ H2 _ I2 q2) fun fv s3 ⟨z, H3, I3, rz, ov, g, q3⟩ => Calls.spliced_nil ?_))))
  exact d_get2 hu I3 g ry rz fun w' s4 I4 rw' => ⟨_, H3, I4, rw', q3⟩
end
section
variable {X : Cx} {pins : List (Addr × Obj)} {σ : St} {H : Hp} {s : Shared} {a : Addr} {kvs : List (Key × V)} {A : Around} {E : Value → Shared → Prop}
end
section
variable {X : Cx} {pins : List (Addr × Obj)} {σ : St} {H : Hp} {s : Shared} {a : Addr} {y : V} {u : Value} {A : Around} {E : Value → Shared → Prop}
end
end L2
namespace L2
open PySem PySem.Spec PyProof.Rows
theorem nof {α : Type} {M : Model} {A : Around} {t : Sem α} {Q : α → Shared → Prop} {E : Value → Shared → Prop} {s : Shared} (h : wpAny M A t Q (fun _ _ => False) s) : wpAny M A t Q E s :=
  wpAny_mono h (fun _ _ x => x) fun _ _ f => f.elim
def PTs (X : Cx) (ifs : List Expr) (t : TT) : Prop :=
  ∀ (pins : List (Addr × Obj)) (s : Shared) (σ : St) (H : Hp) (Q : Bool → Hp → Prop), Inv X pins σ H s → t σ H Q →
    wpAny (model X.prog X.w) X.A (forIn ifs true fun c r => if r = true then do let ok ← isTrue c X.env (eval c X.env); pure (ForInStep.yield ok) else pure (ForInStep.yield r)) (TP X pins σ Q) X.xe s
def tYes : TT := fun _ H Q => Q true H
theorem pts_nil {X : Cx} : PTs X [] tYes := fun _ _ _ H _ I h => wpAny_tests_nil ⟨H, I, h⟩
def cst (ix : List Nat) (σ : St) : St := none :: ix.map fun j => (σ[j]?).getD none
def cmpCx (X : Cx) (Nc : List Str) (scope : Scope) (cl : List (Str × Addr)) (C : Addr) (fp : List Addr) (s : Shared) (H : Hp) : Cx where
  prog := X.prog
  w := X.w
  K := X.K
  mg := X.mg
  base := X.base
  A := X.A
  N := Nc
  s₀ := s
  H₀ := H
  env := compEnvC scope cl C X.env
  outer := X.stack
  stack := X.stack
  ex := fp
  fn := fun _ => false
  calm := X.calm
  pn := []
  xe := fun _ _ => False
def FreeOk (X : Cx) (scope : Scope) (cl : List (Str × Addr)) : List Str → List Nat → Prop
  | [], [] => True
  | y :: ys, i :: ix => (X.N[i]? = some y ∧ X.env.kindOf y = some .cell ∧ cl.lookup y = X.env.cells.lookup y ∧ (relabel scope X.env).names.lookup y = some .cell) ∧ FreeOk X scope cl ys ix
  | _, _ => False
theorem FreeOk.len {X : Cx} {scope : Scope} {cl : List (Str × Addr)} : ∀ {ys : List Str} {ix : List Nat}, FreeOk X scope cl ys ix → ix.length = ys.length
  | [], [], _ => rfl
  | _ :: _, _ :: _, h => by simp [FreeOk.len h.2]
  | [], _ :: _, h => h.elim
  | _ :: _, [], h => h.elim
theorem FreeOk.at {X : Cx} {scope : Scope} {cl : List (Str × Addr)} : ∀ {ys : List Str} {ix : List Nat}, FreeOk X scope cl ys ix → ∀ (j : Nat) (y : Str), ys[j]? = some y →
    ∃ i, ix[j]? = some i ∧ X.N[i]? = some y ∧ X.env.kindOf y = some .cell ∧ cl.lookup y = X.env.cells.lookup y ∧ (relabel scope X.env).names.lookup y = some .cell
  | [], [], _, j, y, e => by simp at e
  | z :: _, i :: _, h, 0, y, e => by
    simp at e
    subst e
    exact ⟨i, rfl, h.1⟩
  | _ :: _, _ :: _, h, j + 1, y, e => by
    obtain ⟨i, e1, e2⟩ := FreeOk.at h.2 j y (by simpa using e)
    exact ⟨i, by simpa using e1, e2⟩
  | [], _ :: _, h, _, _, _ => h.elim
  | _ :: _, [], h, _, _, _ => h.elim
def SubOk (X : Cx) : List (Str × Addr) → Prop
  | [] => True
  | p :: r => X.env.cells.lookup p.1 = some p.2 ∧ SubOk X r
theorem SubOk.mem {X : Cx} : ∀ {cl : List (Str × Addr)}, SubOk X cl → ∀ p ∈ cl, X.env.cells.lookup p.1 = some p.2
  | [], _, p, hp => absurd hp (by simp)
  | _ :: _, h, p, hp => by
    rcases List.mem_cons.mp hp with e | e
    · subst e; exact h.1
    · exact SubOk.mem h.2 p e
structure CompNames (X : Cx) (scope : Scope) (cl : List (Str × Addr)) (x : Str) (ys : List Str) (ix : List Nat) : Prop where
  clos : closureFor scope X.env = pure cl
  cell : (scope.names.all fun y => !(y.2 == NameKind.cell)) = true
  kind : scope.kind = .function
  names : (scope.names.all fun y => !(y.2 == NameKind.local) || scope.names.lookup y.1 == some NameKind.local) = true
  hx : scope.names.lookup x = some .local
  nd : (x :: ys).Nodup
  sub : SubOk X cl
  has : ((relabel scope X.env).names.all fun p => !(p.2 == NameKind.cell || p.2 == NameKind.free) || (cl.lookup p.1).isSome) = true
  free : FreeOk X scope cl ys ix
theorem lookup_mem {α β : Type} [BEq α] [LawfulBEq α] {k : α} {v : β} : ∀ {l : List (α × β)}, l.lookup k = some v → (k, v) ∈ l
  | [], h => by simp at h
  | (a, b) :: r, h => by
    rw [List.lookup_cons] at h
    cases q : k == a with
    | true =>
      rw [q] at h
      have e := eq_of_beq q
      subst e
      cases h
      exact List.mem_cons_self
    | false =>
      rw [q] at h
      exact List.mem_cons_of_mem _ (lookup_mem h)
section
variable {X : Cx} {scope : Scope} {cl : List (Str × Addr)} {x : Str} {ys : List Str} {ix : List Nat}
theorem CompNames.sub' (n : CompNames X scope cl x ys ix) : ∀ y c, cl.lookup y = some c → X.env.cells.lookup y = some c := fun y c e => by
  exact n.sub.mem (y, c) (lookup_mem e)
theorem CompNames.has' (n : CompNames X scope cl x ys ix) : ∀ y, ((relabel scope X.env).names.lookup y = some .cell ∨ (relabel scope X.env).names.lookup y = some .free) → ∃ c, cl.lookup y = some c := fun y h => by
  have : ∃ k : NameKind, (y, k) ∈ (relabel scope X.env).names ∧ (k = .cell ∨ k = .free) := by
    rcases h with h | h
    · exact ⟨_, lookup_mem h, .inl rfl⟩
    · exact ⟨_, lookup_mem h, .inr rfl⟩
  obtain ⟨k, hm, hk⟩ := this
  have q := List.all_eq_true.mp n.has (y, k) hm
  have : (k == NameKind.cell || k == NameKind.free) = true := by
    rcases hk with rfl | rfl <;> decide
  simp only [this, Bool.not_true, Bool.false_or] at q
  exact Option.isSome_iff_exists.mp q
theorem CompNames.cell' (n : CompNames X scope cl x ys ix) : ∀ y ∈ scope.names, y.2 ≠ .cell := fun y hy e => by
  have q := List.all_eq_true.mp n.cell y hy
  rw [e] at q
  exact absurd q (by decide)
theorem CompNames.names' (n : CompNames X scope cl x ys ix) : ∀ y ∈ scope.names, y.2 = .local → scope.names.lookup y.1 = some .local := fun y hy e => by
  have q := List.all_eq_true.mp n.names y hy
  rw [e] at q
  have z : (NameKind.local == NameKind.local) = true := by decide
  simp only [z, Bool.not_true, Bool.false_or] at q
  exact eq_of_beq q
end
def tComp (wi : TI) (ix : List Nat) (tt : TT) (te : TE) : TE := fun σ H Q => wi σ H fun J H1 => ∃ W : Nat → Nat → List V → Hp → Prop, (∃ m, W 0 m [] H1) ∧ ∀ i m ys H2, W i m ys H2 →
  (J.stop i H2 ∧ ys.length ≤ sizeLine ∧ ∀ p, H2 p = none → Q (.ref p) (upd H2 p (.lst ys))) ∨
  (J.go i H2 ∧ ys.length ≤ sizeLine ∧ ∀ x H3, J.yld i H2 x H3 → tt ((cst ix σ).set 0 (some x)) H3 fun b H4 =>
    if b = true then te ((cst ix σ).set 0 (some x)) H4 fun v H5 => ∃ m', m' < m ∧ W (i + 1) m' (ys ++ [v]) H5 else ∃ m', m' < m ∧ W (i + 1) m' ys H4)
section
variable {X : Cx} {scope : Scope} {cl : List (Str × Addr)} {x : Str} {ys : List Str} {ix : List Nat}
theorem cmp_start {pins : List (Addr × Obj)} {σ : St} {H : Hp} {s : Shared} {fp : List Addr} {D C : Addr} {h₁ : Heap} {tk : Nat} {ob : Obj} {m : Str → Option Value} (n : CompNames X scope cl x ys ix) (I : Inv X pins σ H s)
    (f : ∀ b ∈ fp, FpOk X pins H b) (fo : ∀ b ∈ fp, b < s.heap.objs.size) (hD : s.heap.objs.size ≤ D) (hC : s.heap.objs.size ≤ C) (hDC : D ≠ C) (old : ∀ b o, s.heap.get? b = some o → h₁.get? b = some o) (hns : h₁.Ns C m) (hob : h₁.get? D = some ob)
    (hcell : ∀ v, ob.data ≠ .cell v) : Inv (cmpCx X (x :: ys) scope cl C fp s H) [(D, ob)] (cst ix σ) H { s with heap := h₁, toks := tk } := by
  have nst : ∀ b, s.heap.objs.size ≤ b → b ∉ frs X.stack := fun b hb z => by
    rcases List.mem_cons.mp (I.stkSub b z) with e | e
    · exact absurd (Nat.lt_of_lt_of_le I.lt (by rw [← e]; exact hb)) (Nat.lt_irrefl _)
    · exact I.nofs hb e
  have lt_cell : ∀ y c, cl.lookup y = some c → c < s.heap.objs.size := fun y c e => by
    obtain ⟨v, q⟩ := I.cell y c (n.sub' y c e)
    exact q.lt
  refine ⟨⟨I.ok.mod, n.kind, I.ok.glob, I.ok.blt, hC, fun y z c h1 h2 => I.ok.inj y z c (n.sub' y c h1) (n.sub' z c h2), n.has', (fun y c h => absurd (show false = true from h) (by decide)), I.ok.hd, I.ok.frames, .inl rfl, fun b hb => ⟨?_, fun y c e => ?_⟩, I.bs,
    Nat.le_trans I.ok.bsz I.sz, fun b o e hb => ?_, fun b hb z => ?_, I.stack, I.stkFree⟩, rfl, I.bare, Un.kept old, ⟨m, hns, fun i y v h1 h2 h3 => ?_⟩, fun y c e => ?_, I.hok.fresh hC, fun y c e => I.freeC y c (n.sub' y c e), fun p hp => ?_, I.hok.kept old, ?_⟩
  · exact Nat.ne_of_lt (Nat.lt_of_lt_of_le (fo b hb) hC)
  · exact (f b hb).2.2.2.2.1 y c (n.sub' y c e)
  · rcases (f b hb).2.2.2.1 with z | z
    · exact I.ok.noex b o e z
    · exact absurd (Nat.lt_of_lt_of_le (Heap.lt_size e) (Nat.le_trans I.ok.bsz z)) (Nat.lt_irrefl _)
  · rcases List.mem_cons.mp (I.stkSub b z) with e | e
    · exact (f b hb).2.1 e
    · exact (f b hb).2.2.1 e
  · cases i with
    | zero =>
      have h2' : (none : Option V) = some v := Option.some.inj h2
      cases h2'
    | succ j =>
      have h1' : ys[j]? = some y := h1
      obtain ⟨i, e1, e2, e3, e4, e5⟩ := n.free.at j y h1'
      have h2' : (ix.map fun j => (σ[j]?).getD none)[j]? = some (some v) := by simpa [cst] using h2
      rw [List.getElem?_map, e1] at h2'
      have h2'' : (σ[i]?).getD none = some v := Option.some.inj h2'
      have h4 : σ[i]? = some (some v) := by
        cases q : σ[i]? with
        | none => rw [q] at h2''; cases h2''
        | some o => rw [q] at h2''; exact congrArg some h2''
      obtain ⟨m', hn', hl⟩ := I.loc
      obtain ⟨u, r, look⟩ := hl i y v e2 h4 (.inr (.inl e3))
      refine ⟨u, r, .inr ⟨.inl e5, ?_⟩⟩
      rcases look with ⟨k, _⟩ | ⟨_, c, e, z⟩
      · rw [e3] at k; cases k
      · refine ⟨c, e4.trans e, ?_⟩
        obtain ⟨o, ho, hd⟩ := z
        exact ⟨o, old _ _ ho, hd⟩
  · obtain ⟨v, o, ho, hd⟩ := I.cell y c (n.sub' y c e)
    exact ⟨v, o, old _ _ ho, hd⟩
  · have hp' : p ∈ [(D, ob)] := hp
    have e := List.mem_singleton.mp hp'
    subst e
    exact ⟨hob, I.hok.fresh hD, hDC, nst D hD, hcell⟩
  · show (none :: ix.map _).length = (x :: ys).length
    simp [n.free.len]
theorem comp_block {elt iter : Expr} {ifs : List Expr} {px pos : Pos} {tt : TT} {te : TE} {pins : List (Addr × Obj)} {σ : St} {H2 : Hp} {s2 : Shared} {it : Addr} {fp : List Addr} {tn : Nat → Heap → Prop} {J : It} {W : Nat → Nat → List V → Hp → Prop} {m0 : Nat} {Z : List V → Hp → Prop} {RR : Value → Addr → Result → Shared → Prop}
    {E : Value → Shared → Prop} (n : CompNames X scope cl x ys ix) (hc : X.calm = true)
    (ht : ∀ C fp s H, PTs (cmpCx X (x :: ys) scope cl C fp s H) ifs tt) (he : ∀ C fp s H, PE (cmpCx X (x :: ys) scope cl C fp s H) elt te)
    (I2 : Inv X pins σ H2 s2) (T : Turn X.prog X.w X.K (.Name x px) J fp it tn) (st2 : tn 0 s2.heap) (f2 : ∀ b ∈ fp, FpOk X pins H2 b) (w0 : W 0 m0 [] H2)
    (turn : ∀ i m ys H2, W i m ys H2 → (J.stop i H2 ∧ ys.length ≤ sizeLine ∧ Z ys H2) ∨ (J.go i H2 ∧ ys.length ≤ sizeLine ∧ ∀ x H3, J.yld i H2 x H3 → tt ((cst ix σ).set 0 (some x)) H3 fun b H4 =>
      if b = true then te ((cst ix σ).set 0 (some x)) H4 fun v H5 => ∃ m', m' < m ∧ W (i + 1) m' (ys ++ [v]) H5 else ∃ m', m' < m ∧ W (i + 1) m' ys H4))
    (hRR : ∀ (D C : Addr) (s4 : Shared) (H3 : Hp) (zs : List V) (m : Str → Option Value), Inv X pins σ (upd H3 D (.lst zs)) s4 → s4.heap.Ns C m → FpOk X pins (upd H3 D (.lst zs)) C → H3 D = none → Z zs H3 → RR (.ref D) C (.ok .next) s4) :
    wpAny (model X.prog X.w) X.A (newList []) (fun acc s₃ => wpAny (model X.prog X.w) X.A (newFunctionEnv scope X.env.globals cl [] X.env.qual none .none (some X.env)) (fun cenv s₄ =>
      codeAny (model X.prog X.w) X.A (.compStart (.ListComp elt [⟨.Name x px, iter, ifs, 0⟩] scope pos) 0 (.ref it) acc { cenv with scope := relabel scope X.env }) (RR acc cenv.locals) s₄) E s₃) E s2 := by
  have fo : ∀ b ∈ fp, b < s2.heap.objs.size := fun b hb => let ⟨_, e, _⟩ := T.obj _ _ st2 b hb; Heap.lt_size e
  refine wpAny_newObj_type (wpAny_newFunctionEnv n.cell' (by intro y hy; simp at hy) (fun h₁ hns₁ hsb₁ => ?_) n.kind)
  dsimp only at hns₁ hsb₁ ⊢
  generalize hH3 : s2.heap.push { cls := .type "list", dict := none, data := .seq ([] : List Value).toArray } = G at hns₁ hsb₁ ⊢
  have hC : G.objs.size = s2.heap.objs.size + 1 := by rw [← hH3, Heap.size_push]
  have hDC : s2.heap.objs.size ≠ G.objs.size := by rw [hC]; exact Nat.ne_of_lt (Nat.lt_succ_self _)
  have hCle : s2.heap.objs.size ≤ G.objs.size := by rw [hC]; exact Nat.le_succ _
  have below : ∀ b, b < s2.heap.objs.size → b ≠ G.objs.size ∧ b ≠ s2.heap.objs.size := fun b hb => ⟨by rw [hC]; exact Nat.ne_of_lt (Nat.lt_succ_of_lt hb), Nat.ne_of_lt hb⟩
  have old : ∀ b o, s2.heap.get? b = some o → h₁.get? b = some o := fun b o e => hsb₁.extBut b o (below b (Heap.lt_size e)).1 (Heap.get?_push_of_some _ (hH3 ▸ Heap.get?_push_of_some _ e))
  have hacc : h₁.get? s2.heap.objs.size = some { cls := .type "list", data := .seq ([] : List Value).toArray 0 } := hsb₁.extBut _ _ hDC (Heap.get?_push_of_some _ (hH3 ▸ Heap.get?_push_size _ rfl))
  have st1 : tn 0 h₁ := T.keep _ _ _ st2 fun b _ o e => old b o e
  have stat : ∀ {H' : Hp} {ob : Obj}, (∀ b ∈ fp, H' b = none) → ∀ b ∈ fp, FpOk (cmpCx X (x :: ys) scope cl G.objs.size fp s2 H2) [(s2.heap.objs.size, ob)] H' b := fun {H' ob} hn b hb =>
    ⟨hn b hb, (below b (fo b hb)).1, fun z => by
      rcases List.mem_cons.mp (I2.stkSub b z) with e | e
      · exact (f2 b hb).2.1 e
      · exact (f2 b hb).2.2.1 e, .inl hb, fun y c e => (f2 b hb).2.2.2.2.1 y c (n.sub' y c e), fun p hp => by
      have hp' : p ∈ [(s2.heap.objs.size, ob)] := hp
      have e := List.mem_singleton.mp hp'
      subst e
      exact Ne.symm (below b (fo b hb)).2⟩
  have hfin : ∀ (s4 : Shared) (H3 : Hp) (zs : List V) (its : List Value) (k : Nat) (m' : Str → Option Value), Inv (cmpCx X (x :: ys) scope cl G.objs.size fp s2 H2) [(s2.heap.objs.size, { cls := .type "list", data := .seq its.toArray k })] (cst ix σ) H3 s4 → Vals zs its →
      zs.length ≤ sizeLine → Z zs H3 → RR (.ref s2.heap.objs.size) G.objs.size (.ok .next) s4 := by
    intro s4 H3 zs its k m' I4 rv hz q
    obtain ⟨m4, hn4, _⟩ := I4.loc
    obtain ⟨eD, nD, _, _, _⟩ := I4.pin (s2.heap.objs.size, { cls := .type "list", data := .seq its.toArray k }) (by show _ ∈ [] ++ [_]; simp)
    have nC : H3 G.objs.size = none := I4.free
    have hok : HOk X.prog X.w (upd H3 s2.heap.objs.size (.lst zs)) s4.heap := fun b u e => by
      by_cases hb : b = s2.heap.objs.size
      · subst hb
        rw [upd_same] at e
        cases e
        exact ⟨hz, its, k, rv, eD⟩
      · rw [upd_ne hb] at e
        exact (I4.hok b u e).stay (fun c w hc qq => qq) (fun c qq => by rw [upd_ne (ne_of_none qq nD)]; exact qq) fun c xs qq => by rw [upd_ne (ne_of_none qq nD)]; exact qq
    have un : Un (frs X.stack) fp H2 (upd H3 s2.heap.objs.size (.lst zs)) s2.heap s4.heap := by
      have u4 : Un (frs X.stack) fp H2 H3 s2.heap s4.heap := I4.base
      refine ⟨u4.keep, u4.slot, fun b o e nn hx => ?_, u4.there, fun b xs e => ?_, fun b o u e => ?_, fun b ps e => ?_⟩
      · rw [upd_ne (below b (Heap.lt_size e)).2]
        exact u4.free b o e nn hx
      · have z := u4.tups b xs e
        rw [upd_ne (ne_of_none z nD)]
        exact z
      · have z := u4.frzs b o u e
        rw [upd_ne (ne_of_none z nD)]
        exact z
      · obtain ⟨more, z⟩ := u4.tbls b ps e
        exact ⟨more, by rw [upd_ne (ne_of_none z nD)]; exact z⟩
    have I5 : Inv X pins σ (upd H3 s2.heap.objs.size (.lst zs)) s4 := I2.call' (ch := fp) I4.os un hok I4.bare (fun b hb => ⟨(f2 b hb).2.2.2.1, (f2 b hb).2.1, (f2 b hb).2.2.2.2.1, (f2 b hb).2.2.2.2.2⟩)
    exact hRR _ _ s4 H3 zs m4 I5 hn4 (I2.fpOk hCle (by rw [upd_ne (Ne.symm hDC)]; exact nC)) nD q
  have loop : ∀ s₃ : Shared, s₃ = { s2 with heap := h₁, toks := s2.toks + ([] : List (Str × Value)).length } →
      codeAny (model X.prog X.w) X.A (.compLoop (.ListComp elt [⟨.Name x px, iter, ifs, 0⟩] scope pos) 0 (.ref it) (.ref s2.heap.objs.size) (compEnvC scope cl G.objs.size X.env))
        (RR (.ref s2.heap.objs.size) G.objs.size) s₃ := by
    rintro s₃ rfl
    refine codeAny_compLoop_tests (fun m s' => ∃ (i : Nat) (zs : List V) (its : List Value) (k : Nat) (H' : Hp),
        Inv (cmpCx X (x :: ys) scope cl G.objs.size fp s2 H2) [(s2.heap.objs.size, { cls := .type "list", data := .seq its.toArray k })] (cst ix σ) H' s' ∧ Vals zs its ∧ tn i s'.heap ∧ (∀ b ∈ fp, H' b = none) ∧ W i m zs H') ?_ m0
      ⟨0, [], [], 0, H2, cmp_start n I2 f2 fo (Nat.le_refl _) hCle hDC old hns₁ hacc (fun v z => by cases z), .nil, st1, fun b hb => (f2 b hb).1, w0⟩
    rintro m s3 ⟨i, zs, its, k, H3, I3, rv, st3, fr3, w3⟩
    rcases turn i m zs H3 w3 with ⟨stop, hz, qn⟩ | ⟨go, hz, step⟩
    · refine nof (thn (T.done (cmpCx X (x :: ys) scope cl G.objs.size fp s2 H2) rfl rfl rfl hc i _ s3 _ H3 _ I3 (stat fr3) st3 stop) fun r s4 ⟨hr, I4⟩ => ?_)
      subst hr
      exact hfin s4 H3 zs its k (fun _ => none) I4 rv hz qn
    · refine nof (thn (T.item (cmpCx X (x :: ys) scope cl G.objs.size fp s2 H2) rfl rfl rfl hc i _ s3 _ H3 _ I3 (stat fr3) st3 go) fun r s4 ⟨u, hr, h4⟩ => ?_)
      subst hr
      have go_on : ∀ {s5 s7 : Shared} {y : V} {H5 H7 : Hp}, (∀ b ∈ fp, H5 b = none) → tn (i + 1) s5.heap → Inv (cmpCx X (x :: ys) scope cl G.objs.size fp s2 H2) ([(s2.heap.objs.size, { cls := .type "list", data := .seq its.toArray k })] ++ pinsAt fp s5.heap) ((cst ix σ).set 0 (some y)) H7 s7 →
          Inv (cmpCx X (x :: ys) scope cl G.objs.size fp s2 H2) [(s2.heap.objs.size, { cls := .type "list", data := .seq its.toArray k })] (cst ix σ) H7 s7 ∧ tn (i + 1) s7.heap ∧ (∀ b ∈ fp, H7 b = none) := by
        intro s5 s7 y H5 H7 fr5 st5 I7
        have pn : ∀ b o, b ∈ fp → s5.heap.get? b = some o → s7.heap.get? b = some o ∧ H7 b = none := fun b o hb e => by
          have z := I7.pin (b, o) (List.mem_append_right _ (List.mem_append_right _ (mem_pinsAt hb e)))
          exact ⟨z.1, z.2.1⟩
        refine ⟨(I7.weak (σ' := cst ix σ) (by simp) fun j v e => ?_).unpinned, T.keep _ _ _ st5 fun b hb o e => (pn b o hb e).1, fun b hb => ?_⟩
        · cases j with
          | zero =>
            have e' : (none : Option V) = some v := Option.some.inj e
            cases e'
          | succ j => simpa [cst] using e
        · obtain ⟨o, e, _⟩ := T.obj _ _ st5 b hb
          exact (pn b o hb e).2
      have e0 : (letOwnedTupleGo (.Name x px) (.ref it) u >>= fun _ => assign (.Name x px) (compEnvC scope cl G.objs.size X.env) u) = assign (.Name x px) (compEnvC scope cl G.objs.size X.env) u := rfl
      show wpAny _ _ (assign (.Name x px) (compEnvC scope cl G.objs.size X.env) u) _ _ s4
      rw [← e0]
      refine nof (wpAny_bind (thn h4 fun _ s5 ⟨y, H5, I5, r5, y5, st5, fr5⟩ => ?_))
      have I5' := I5.pinned (stat fr5) (T.obj _ _ st5)
      have lx : (relabel scope X.env).names.lookup x = some .local := lookup_relabel_local n.hx
      have pg : PG (cmpCx X (x :: ys) scope cl G.objs.size fp s2 H2) (.Name x px) (gName 0) := pg_name n.nd rfl (.inl lx) (.inr lx)
      refine thn (pg _ s5 _ H5 y u (fun σ' H' => σ' = (cst ix σ).set 0 (some y) ∧ H' = H5) I5' r5 ⟨rfl, rfl⟩) fun _ s6 ⟨σ6, H6, I6, e6, e6'⟩ => ?_
      subst e6 e6'
      refine nof (thn (ht _ _ _ _ _ s6 _ _ _ I6 (step y _ y5)) fun b s7 ⟨H7, I7, q7⟩ => ?_)
      cases b with
      | false =>
        rw [if_neg (by decide)] at q7 ⊢
        obtain ⟨m', hm, w7⟩ := q7
        obtain ⟨I8, st8, fr8⟩ := go_on fr5 st5 I7
        exact ⟨m', hm, i + 1, zs, its, k, H7, I8, rv, st8, fr8, w7⟩
      | true =>
        rw [if_pos rfl] at q7 ⊢
        refine nof (thn (he _ _ _ _ _ s7 _ _ _ I7 q7) fun v8 s8 ⟨z8, H8, I8, r8, m', hm, w8⟩ => ?_)
        obtain ⟨I9, st9, fr9⟩ := go_on fr5 st5 I8
        obtain ⟨eD, nD, neL, _, _⟩ := I9.pin (s2.heap.objs.size, { cls := .type "list", data := .seq its.toArray k }) (by show _ ∈ [] ++ [_]; simp)
        refine append_at eD (fun h' hs' hD' => ?_) (by rw [List.size_toArray, ← rv.length]; exact hz)
        have kp : ∀ b o, b ≠ s2.heap.objs.size → s8.heap.get? b = some o → h'.get? b = some o := fun b o hb e => hs'.extBut b o hb e
        have lt_cell : ∀ y c, cl.lookup y = some c → c ≠ s2.heap.objs.size := fun y c e => by
          obtain ⟨v, q⟩ := I2.cell y c (n.sub' y c e)
          exact Nat.ne_of_lt q.lt
        have nst : s2.heap.objs.size ∉ frs X.stack := fun z => by
          rcases List.mem_cons.mp (I2.stkSub _ z) with e | e
          · exact absurd (Nat.lt_of_lt_of_le I2.lt (by rw [← e]; exact Nat.le_refl _)) (Nat.lt_irrefl _)
          · exact I2.nofs (Nat.le_refl _) e
        have I10 : Inv (cmpCx X (x :: ys) scope cl G.objs.size fp s2 H2) [] (cst ix σ) H8 { s8 with heap := h', toks := s8.toks } :=
          (I9.pins_of (pins' := []) fun p hp => absurd hp (by simp)).turned (it := s2.heap.objs.size) kp nD neL (.inr (Nat.le_refl _)) lt_cell fun p hp => absurd (show p ∈ ([] : List (Addr × Obj)) from hp) (by simp)
        refine ⟨m', hm, i + 1, zs ++ [z8], its ++ [v8], k + 1, H8, I10.pins_of fun p hp => ?_, rv.append (.cons r8 .nil), T.keep _ _ _ st9 fun b hb o e => kp b o (below b (fo b hb)).2 e, fr9, w8⟩
        have e := List.mem_singleton.mp hp
        subst e
        refine ⟨?_, nD, hDC, nst, fun v z => by cases z⟩
        rw [← List.push_toArray]
        exact hD'
  exact codeAny_compStart_list (loop _ rfl) (T.self X.A 0 _ _ _ st1 (loop _ rfl))
theorem pe_comp {elt iter : Expr} {ifs : List Expr} {px pos : Pos} {wi : TI} {tt : TT} {te : TE} (n : CompNames X scope cl x ys ix) (hc : X.calm = true) (hi : PI X (.Name x px) iter wi)
    (ht : ∀ C fp s H, PTs (cmpCx X (x :: ys) scope cl C fp s H) ifs tt) (he : ∀ C fp s H, PE (cmpCx X (x :: ys) scope cl C fp s H) elt te)
    (hs : ∀ x, foldedSetIterable iter X.env x = pure x := by intro _; rfl) : PE X (.ListComp elt [⟨.Name x px, iter, ifs, 0⟩] scope pos) (tComp wi ix tt te) := by
  intro pins s σ H Q I h
  rw [eval_ListComp]
  refine wpAny_comprehension_free (use := none) rfl hs n.clos n.kind n.names' (thn (hi pins s σ H _ I h) fun v s1 h1 => thn h1 fun itv s2 h2 => ?_)
  obtain ⟨it, fp, tn, J, H2, e, I2, T, st2, f2, W, ⟨m0, w0⟩, turn⟩ := h2
  subst e
  refine comp_block (RR := fun acc C => compPost (model X.prog X.w) X.A X.xe none (EP X pins σ Q) acc C) (Z := fun zs H3 => ∀ p, H3 p = none → Q (.ref p) (upd H3 p (.lst zs))) n hc ht he I2 T st2 f2 w0 turn ?_
  intro D C s4 H3 zs m I4 hn4 fC nD q
  refine ⟨m, hn4, fun h' hs' => ?_⟩
  exact ⟨.ref D, _, I4.turned (t' := s4.toks) (fun b o hb e => hs'.extBut b o hb e) fC.1 fC.2.1 fC.2.2.2.1 fC.2.2.2.2.1 fC.2.2.2.2.2, rfl, q D nD⟩
end
end L2
namespace L2
open PySem PySem.Spec PyProof.Rows
abbrev tx (l : List Nat) : Str := ⟨l.toArray⟩
theorem tx_len (l : List Nat) : (tx l).length = l.length := by simp [tx, Str.length]
theorem tx_inj {l m : List Nat} (h : tx l = tx m) : l = m := by
  have h1 := congrArg (fun z : Str => z.cps.toList) h
  simpa using h1
theorem tx_add (l m : List Nat) : tx l ++ tx m = tx (l ++ m) := by
  show Str.append (tx l) (tx m) = tx (l ++ m)
  unfold Str.append
  simp [tx]
theorem v_tx {l m : List Nat} : (V.str (tx l) = V.str (tx m)) ↔ l = m := ⟨fun h => tx_inj (V.str.inj h), fun h => by rw [h]⟩
def cutL {α : Type} (l : List α) (lo hi : Option Int) : List α := (l.drop (HT.sIx l.length 0 lo)).take (HT.sIx l.length l.length hi - HT.sIx l.length 0 lo)
theorem pick_run (l : List Nat) (i k : Nat) : ((List.range k).map fun (m : Nat) => i + m).filterMap (l[·]?) = (l.drop i).take k := by
  induction k generalizing i with
  | zero => simp
  | succ k ih =>
    rw [List.range_succ_eq_map, List.map_cons, List.map_map]
    have e : ((fun (m : Nat) => i + m) ∘ Nat.succ) = fun m => (i + 1) + m := by
      funext m
      simp only [Function.comp]
      omega
    rw [e]
    by_cases h : i < l.length
    · rw [List.filterMap_cons_some (b := l[i]) (by simp [h]), ih (i + 1), List.drop_eq_getElem_cons h, List.take_succ_cons]
    · rw [List.filterMap_cons_none (by simp; omega), ih (i + 1), List.drop_eq_nil_of_le (by omega), List.drop_eq_nil_of_le (by omega)]
      simp
theorem sliceRange_one (a b : Nat) : sliceRange (a : Int) (b : Int) 1 = (List.range (b - a)).map fun (m : Nat) => a + m := by
  unfold sliceRange
  have e : (if (1 : Int) > 0 then (if (a : Int) < b then ((b : Int) - a + 1 - 1) / 1 else 0) else (if (a : Int) > b then ((a : Int) - b - 1 - 1) / (-1) else 0)).toNat = b - a := by
    rw [if_pos (by decide)]
    split <;> (try simp only [Int.ediv_one]) <;> omega
  dsimp only
  rw [e]
  apply List.map_congr_left
  intro m _
  omega
theorem indices_one (lo hi : Option Int) (n : Nat) : Builtin.Str.strSliceIndices lo hi 1 n = (List.range (HT.sIx n n hi - HT.sIx n 0 lo)).map fun (m : Nat) => HT.sIx n 0 lo + m := by
  unfold Builtin.Str.strSliceIndices
  rw [← sliceRange_one]
  have e1 : ∀ d : Nat, ∀ v : Int, max 0 (min (if v < 0 then v + (n : Int) else v) (n : Int)) = ((HT.sIx n d (some v) : Nat) : Int) := fun d v => by
    rw [← HT.clip_eq v n d]
    split <;> omega
  cases lo with
  | none =>
    cases hi with
    | none => simp only [HT.sIx_none]; rfl
    | some v =>
      simp only [HT.sIx_none]
      show sliceRange 0 (max 0 (min (if v < 0 then v + (n : Int) else v) (n : Int))) 1 = _
      rw [e1 n v]; rfl
  | some u =>
    cases hi with
    | none =>
      simp only [HT.sIx_none]
      show sliceRange (max 0 (min (if u < 0 then u + (n : Int) else u) (n : Int))) (n : Int) 1 = _
      rw [e1 0 u]
    | some v =>
      show sliceRange (max 0 (min (if u < 0 then u + (n : Int) else u) (n : Int))) (max 0 (min (if v < 0 then v + (n : Int) else v) (n : Int))) 1 = _
      rw [e1 0 u, e1 n v]
theorem slice_tx (l : List Nat) (lo hi : Option Int) : Txt.slice (tx l) lo hi = tx (cutL l lo hi) := by
  have key : (Builtin.Str.strSliceIndices lo hi 1 l.length).filterMap (l[·]?) = cutL l lo hi := by
    rw [indices_one, pick_run]; rfl
  unfold Txt.slice
  rw [tx_len]
  split
  · rename_i h
    have h1 : (Builtin.Str.strSliceIndices lo hi 1 l.length).length = l.length := by simpa using h
    rw [indices_one, List.length_map, List.length_range] at h1
    have a := HT.sIx_le l.length l.length (Nat.le_refl _) hi
    have b := HT.sIx_le l.length 0 (Nat.zero_le _) lo
    have e : cutL l lo hi = l := by
      unfold cutL
      by_cases hn : l.length = 0
      · have : l = [] := List.length_eq_zero_iff.mp hn
        subst this
        simp
      · have e0 : HT.sIx l.length 0 lo = 0 := by omega
        rw [h1, e0]
        simp
    rw [e]
  · have e : (fun (i : Nat) => (tx l).cps[i]?) = fun (i : Nat) => l[i]? := by funext i; simp
    show (⟨((Builtin.Str.strSliceIndices lo hi 1 l.length).filterMap fun i => (tx l).cps[i]?).toArray⟩ : Str) = _
    rw [e, key]
theorem rev_tx (l : List Nat) : ((Builtin.Str.strSliceIndices none none (-1) l.length).filterMap fun (i : Nat) => (tx l).cps[i]?) = l.reverse := by
  have e : (fun (i : Nat) => (tx l).cps[i]?) = fun (i : Nat) => l[i]? := by funext i; simp
  rw [e]
  have e2 : Builtin.Str.strSliceIndices none none (-1) l.length = (List.range l.length).map fun (k : Nat) => l.length - 1 - k := by
    show sliceRange ((l.length : Int) - 1) (-1) (-1) = _
    unfold sliceRange
    have e3 : (if (-1 : Int) > 0 then (if (l.length : Int) - 1 < -1 then (-1 - ((l.length : Int) - 1) + (-1) - 1) / (-1) else 0) else (if (l.length : Int) - 1 > -1 then ((l.length : Int) - 1 - (-1) - (-1) - 1) / (- -1) else 0)).toNat = l.length := by
      rw [if_neg (by decide)]
      have : (- -1 : Int) = 1 := by decide
      rw [this]
      split <;> (try simp only [Int.ediv_one]) <;> omega
    dsimp only
    rw [e3]
    apply List.map_congr_left
    intro m hm
    have := List.mem_range.mp hm
    omega
  rw [e2]
  apply List.ext_getElem?
  intro i
  have : ((List.range l.length).map fun (k : Nat) => l.length - 1 - k).filterMap (fun (i : Nat) => l[i]?) = (List.range l.length).map fun (k : Nat) => (l[l.length - 1 - k]?).getD 0 := by
    have gen : ∀ ks : List Nat, (∀ k ∈ ks, k < l.length) → (ks.map fun (k : Nat) => l.length - 1 - k).filterMap (fun (i : Nat) => l[i]?) = ks.map fun (k : Nat) => (l[l.length - 1 - k]?).getD 0 := by
      intro ks
      induction ks with
      | nil => intro _; rfl
      | cons k ks ih =>
        intro hk
        have hk' := hk k List.mem_cons_self
        have hlt : l.length - 1 - k < l.length := by omega
        rw [List.map_cons, List.map_cons, List.filterMap_cons_some (b := l[l.length - 1 - k]) (by simp [hlt]), ih fun j hj => hk j (List.mem_cons_of_mem _ hj)]
        simp [hlt]
    exact gen _ fun k hk => List.mem_range.mp hk
  rw [this]
  by_cases h : i < l.length
  · rw [List.getElem?_map, List.getElem?_range h, List.getElem?_reverse h]
    have : l.length - 1 - i < l.length := by omega
    simp [this]
  · rw [List.getElem?_eq_none (by simpa using h), List.getElem?_eq_none (by simpa using h)]
section
variable {X : Cx} {tg : Expr}
def Its (l : List Nat) : It := ⟨fun i _ => i < l.length, fun i H v H' => H' = H ∧ ∃ c, l[i]? = some c ∧ v = .str (tx [c]), fun i _ => l.length ≤ i⟩
theorem turn_str {P : Program} {w : World} {K : PySem.W.Frag} {ty : String} (hty : ty = "str_ascii_iterator" ∨ ty = "str_iterator") (it : Addr) (l : List Nat) (t : Tok) : Turn P w K tg (Its l) [it] it (fun i h => h.IsStrIter it ty (tx l) t i) where
  mem := by simp
  obj := fun i h st b hb => by
    have e : b = it := by simpa using hb
    subst e
    obtain ⟨o, e, c, d⟩ := st
    exact ⟨o, e, fun v z => by rw [d] at z; cases z⟩
  keep := fun i h h' st k => let ⟨o, e, r⟩ := st; ⟨o, k it (by simp) o e, r⟩
  item := by
    intro X hP hw hK hc i pins s σ H E I hf st hg
    subst hP hw hK
    obtain ⟨f0, f1, f2, f3, f4, f5⟩ := hf it (by simp)
    have W : Walks X.prog X.w X.A it [it] [it] (tx l).cps.size (SignAt (tx l)) (fun i h => h.IsStrIter it ty (tx l) t i) := by
      rcases hty with rfl | rfl
      · exact Walks.strAscii (I.ok.hd hc) it (tx l) t
      · exact Walks.strWide (I.ok.hd hc) it (tx l) t
    refine W.item i s _ _ (by simpa using (show i < l.length from hg)) st fun v h' tk hv st' kk => ?_
    obtain ⟨c, t', hc', rfl⟩ := hv
    have I1 : Inv X pins σ H { s with heap := h', toks := tk } := I.turned (fun b o hb e => kk b o (by simpa using hb) e) f0 f1 f3 f4 f5
    obtain ⟨o, e, c0, d⟩ := id st'
    exact ⟨_, rfl, go_of (s := { s with heap := h', toks := tk }) e c0 d (by rcases hty with rfl | rfl <;> decide) ⟨.str (tx [c]), H, I1, ⟨t', rfl⟩, ⟨rfl, c, by simpa using hc', rfl⟩, st', fun b hb => (hf b hb).1⟩⟩
  done := by
    intro X hP hw hK hc i pins s σ H E I hf st hg
    subst hP hw hK
    obtain ⟨f0, f1, f2, f3, f4, f5⟩ := hf it (by simp)
    have hg' : (tx l).cps[i]? = none := by have : l.length ≤ i := hg; simpa using this
    rcases hty with rfl | rfl
    · exact wpAny_pyNext_ascii_end (I.ok.hd hc) st hg' fun h' eb => ⟨rfl, I.turned (t' := s.toks) (fun b o hb e => eb b o hb e) f0 f1 f3 f4 f5⟩
    · exact wpAny_pyNext_wide_end (I.ok.hd hc) st hg' fun h' eb => ⟨rfl, I.turned (t' := s.toks) (fun b o hb e => eb b o hb e) f0 f1 f3 f4 f5⟩
  self := fun A i s Q E st h => by
    rcases hty with rfl | rfl
    · exact wpAny_pyIter_striter_ascii st h
    · exact wpAny_pyIter_striter_wide st h
def iStr (tl : TE) : TI := fun σ H R => tl σ H fun x H1 => ∃ l, x = .str (tx l) ∧ R (Its l) H1
theorem pi_str {e : Expr} {tl : TE} (hl : PE X e tl) : PI X tg e (iStr tl) := by
  intro pins s σ H R I h
  refine thn (hl pins s σ H _ I h) fun v s1 ⟨x, H1, I1, r1, q1⟩ => ?_
  obtain ⟨l, e, q⟩ := q1
  subst e
  obtain ⟨t, rfl⟩ := r1
  have fin : ∀ (ty : String), (ty = "str_ascii_iterator" ∨ ty = "str_iterator") → PIE X pins σ tg R (.ref s1.heap.objs.size) { s1 with heap := s1.heap.push { cls := .type ty, data := .fields #[.str (tx l) t, .int 0 0] } } := fun ty hty => by
    refine ⟨s1.heap.objs.size, [s1.heap.objs.size], _, _, H1, rfl, I1.kept (t' := s1.toks) fun b o e => Heap.get?_push_of_some _ e, turn_str hty _ l t, ⟨_, Heap.get?_push_size _ rfl, rfl, rfl⟩, fun b hb => ?_, q⟩
    have e : b = s1.heap.objs.size := by simpa using hb
    subst e
    exact I1.fpOk (Nat.le_refl _) (I1.hok.fresh (Nat.le_refl _))
  cases ha : (tx l).cps.all (· < 128)
  · exact wpAny_pyIter_wide ha (fin _ (.inr rfl))
  · exact wpAny_pyIter_ascii ha (fin _ (.inl rfl))
theorem comp_str {l : List Nat} {σ : St} {ix : List Nat} {tt : TT} {te : TE} {H : Hp} {Z : List V → Hp → Prop} (hl : l.length ≤ sizeLine) (Pv : Nat → List V → Hp → Prop) (h0 : Pv 0 [] H)
    (hs : ∀ i c ys H (N : List V → Hp → Prop), l[i]? = some c → ys.length ≤ i → Pv i ys H → (∀ ys' H', ys'.length ≤ i + 1 → Pv (i + 1) ys' H' → N ys' H') →
      tt ((cst ix σ).set 0 (some (.str (tx [c])))) H fun b H4 => if b = true then te ((cst ix σ).set 0 (some (.str (tx [c])))) H4 fun v H5 => N (ys ++ [v]) H5 else N ys H4)
    (hd : ∀ ys H, ys.length ≤ l.length → Pv l.length ys H → Z ys H) :
    ∃ W : Nat → Nat → List V → Hp → Prop, (∃ m, W 0 m [] H) ∧ ∀ i m ys H2, W i m ys H2 →
      ((Its l).stop i H2 ∧ ys.length ≤ sizeLine ∧ Z ys H2) ∨
      ((Its l).go i H2 ∧ ys.length ≤ sizeLine ∧ ∀ x H3, (Its l).yld i H2 x H3 → tt ((cst ix σ).set 0 (some x)) H3 fun b H4 =>
        if b = true then te ((cst ix σ).set 0 (some x)) H4 fun v H5 => ∃ m', m' < m ∧ W (i + 1) m' (ys ++ [v]) H5 else ∃ m', m' < m ∧ W (i + 1) m' ys H4) := by
  refine ⟨fun i m ys H => m = l.length - i ∧ i ≤ l.length ∧ ys.length ≤ i ∧ Pv i ys H, ⟨l.length, by simp, Nat.zero_le _, Nat.le_refl _, h0⟩, ?_⟩
  rintro i m ys H ⟨rfl, hi, hy, p⟩
  by_cases hlt : i < l.length
  · refine .inr ⟨hlt, by omega, fun x H' y => ?_⟩
    obtain ⟨e, c, hc, e2⟩ := y
    subst e e2
    exact hs i c ys _ (fun ys' H5 => ∃ m', m' < l.length - i ∧ m' = l.length - (i + 1) ∧ i + 1 ≤ l.length ∧ ys'.length ≤ i + 1 ∧ Pv (i + 1) ys' H5) hc hy p fun ys' H' h1 h2 => ⟨l.length - (i + 1), by omega, rfl, hlt, h1, h2⟩
  · have e : i = l.length := by omega
    subst e
    exact .inl ⟨Nat.le_refl _, by omega, hd ys H hy p⟩
theorem comp_range {lo : Int} {n : Nat} {σ : St} {ix : List Nat} {tt : TT} {te : TE} {H : Hp} {Z : List V → Hp → Prop} (hl : n ≤ sizeLine) (Pv : Nat → List V → Hp → Prop) (h0 : Pv 0 [] H)
    (hs : ∀ i ys H (N : List V → Hp → Prop), i < n → ys.length ≤ i → Pv i ys H → (∀ ys' H', ys'.length ≤ i + 1 → Pv (i + 1) ys' H' → N ys' H') →
      tt ((cst ix σ).set 0 (some (.int (lo + i)))) H fun b H4 => if b = true then te ((cst ix σ).set 0 (some (.int (lo + i)))) H4 fun v H5 => N (ys ++ [v]) H5 else N ys H4)
    (hd : ∀ ys H, ys.length ≤ n → Pv n ys H → Z ys H) :
    ∃ W : Nat → Nat → List V → Hp → Prop, (∃ m, W 0 m [] H) ∧ ∀ i m ys H2, W i m ys H2 →
      ((Itr lo n).stop i H2 ∧ ys.length ≤ sizeLine ∧ Z ys H2) ∨
      ((Itr lo n).go i H2 ∧ ys.length ≤ sizeLine ∧ ∀ x H3, (Itr lo n).yld i H2 x H3 → tt ((cst ix σ).set 0 (some x)) H3 fun b H4 =>
        if b = true then te ((cst ix σ).set 0 (some x)) H4 fun v H5 => ∃ m', m' < m ∧ W (i + 1) m' (ys ++ [v]) H5 else ∃ m', m' < m ∧ W (i + 1) m' ys H4) := by
  refine ⟨fun i m ys H => m = n - i ∧ i ≤ n ∧ ys.length ≤ i ∧ Pv i ys H, ⟨n, by simp, Nat.zero_le _, Nat.le_refl _, h0⟩, ?_⟩
  rintro i m ys H ⟨rfl, hi, hy, p⟩
  by_cases hlt : i < n
  · refine .inr ⟨hlt, by omega, fun x H' y => ?_⟩
    obtain ⟨e, e2⟩ := y
    subst e e2
    exact hs i ys _ (fun ys' H5 => ∃ m', m' < n - i ∧ m' = n - (i + 1) ∧ i + 1 ≤ n ∧ ys'.length ≤ i + 1 ∧ Pv (i + 1) ys' H5) hlt hy p fun ys' H' h1 h2 => ⟨n - (i + 1), by omega, rfl, hlt, h1, h2⟩
  · have e : i = n := by omega
    subst e
    exact .inl ⟨Nat.le_refl _, by omega, hd ys H hy p⟩
theorem op_addS : OpR X (binaryOp .Add) (fun x y H Q => ∃ l m, x = .str (tx l) ∧ y = .str (tx m) ∧ l.length + m.length ≤ sizeLine ∧ Q (.str (tx (l ++ m))) H) := by
  intro pins s σ H x y v u Q I rx ry h
  obtain ⟨l, m, rfl, rfl, hz, q⟩ := h
  refine op_add_str pins s σ H _ _ v u Q I rx ry ⟨tx l, tx m, rfl, rfl, by rw [tx_len, tx_len]; exact hz, ?_⟩
  rw [tx_add]; exact q
theorem op_inS : OpR X (compareOp .In) (fun x y H Q => ∃ c l, x = .str (tx [c]) ∧ y = .str (tx l) ∧ Q (.bl (decide (c ∈ l))) H) := by
  intro pins s σ H x y v u Q I rx ry h
  obtain ⟨c, l, rfl, rfl, q⟩ := h
  refine op_in_str pins s σ H _ _ v u Q I rx ry ⟨tx [c], tx l, rfl, rfl, ?_⟩
  rw [StrLaws.found_one]
  simpa using q
def rIxS' : R2 := fun x y H Q => ∃ l i c, x = .str (tx l) ∧ y = .int i ∧ l.length ≤ sizeLine ∧ atI l i = some c ∧ Q (.str (tx [c])) H
theorem ix_strS : IxR X rIxS' := by
  intro value slice pins s σ H x y v u Q I rx ry h hs
  obtain ⟨l, i, c, rfl, rfl, hz, ha, q⟩ := h
  exact ix_str value slice pins s σ H _ _ v u Q I rx ry ⟨tx l, i, c, rfl, rfl, by rw [tx_len]; exact hz, by simpa using ha, q⟩ hs
def rSlS : V → Option Int → Option Int → Hp → VK → Prop := fun x lo hi H Q => ∃ l, x = .str (tx l) ∧ l.length ≤ sizeLine ∧ Q (.str (tx (cutL l lo hi))) H
theorem sl_strS : SlR X rSlS := by
  intro pins s σ H x v vl vu lo hi sl Q I rx hs pl pu h
  obtain ⟨l, rfl, hz, q⟩ := h
  obtain ⟨t, rfl⟩ := rx
  refine ⟨"str", _, F.slot_str_getitem.lookup, typeIs_str _ _ _, ?_⟩
  have fin : ∀ t' k, EP X pins σ Q (.str (Txt.slice (tx l) lo hi) t') { s with toks := k } := fun t' k => by
    rw [slice_tx]
    exact ⟨.str (tx (cutL l lo hi)), H, I.tok k, ⟨t', rfl⟩, q⟩
  have sz : (Txt.slice (tx l) lo hi).length ≤ sizeLine := Nat.le_trans (Txt.slice_le _ _ _) (by rw [tx_len]; exact hz)
  obtain ⟨o, e1, e2, e3⟩ := hs
  cases pl with
  | none =>
    cases pu with
    | none => exact wpAny_getItem_str_slice (l := none) (u := none) (st := none) ⟨o, e1, e2, e3⟩ rfl (post_val_or_str ⟨sz, fin⟩)
    | int j uj => exact wpAny_getItem_str_slice (l := none) (u := some (j, uj)) (st := none) ⟨o, e1, e2, e3⟩ rfl (post_val_or_str ⟨sz, fin⟩)
  | int i ui =>
    cases pu with
    | none => exact wpAny_getItem_str_slice (l := some (i, ui)) (u := none) (st := none) ⟨o, e1, e2, e3⟩ rfl (post_val_or_str ⟨sz, fin⟩)
    | int j uj => exact wpAny_getItem_str_slice (l := some (i, ui)) (u := some (j, uj)) (st := none) ⟨o, e1, e2, e3⟩ rfl (post_val_or_str ⟨sz, fin⟩)
def tRev (te ts : TE) : TE := fun σ H Q => te σ H fun x H1 => ts σ H1 fun y H2 => ∃ l, x = .str (tx l) ∧ y = .int (-1) ∧ l.length ≤ sizeLine ∧ Q (.str (tx l.reverse)) H2
theorem pe_rev {e st : Expr} {te ts : TE} {p2 pos : Pos} (he : PE X e te) (hst : PE X st ts) : PE X (.Subscript e (.Slice none none (some st) p2) pos) (tRev te ts) := by
  intro pins s σ H Q I h
  refine Subscript_ (thn (he pins s σ H _ I h) fun v s1 ⟨x, H1, I1, r1, q1⟩ => ?_)
  refine wpAny_Slice ?_
  rw [evalPart_none]
  refine wpAny_pure ?_
  refine wpAny_pure ?_
  rw [evalPart_some]
  refine thn (hst pins s1 σ H1 _ I1 q1) fun w s2 ⟨y, H2, I2, r2, q2⟩ => ?_
  obtain ⟨l, rfl, rfl, hz, q⟩ := q2
  obtain ⟨t, rfl⟩ := r1
  obtain ⟨u, rfl⟩ := r2
  have I3 : Inv X pins σ H2 { s2 with heap := s2.heap.push { cls := .type "slice", data := .fields #[.none, .none, .int (-1) u] } } := I2.kept (t' := s2.toks) fun b ob q => Heap.get?_push_of_some _ q
  show wpAny (model X.prog X.w) X.A (subscriptTail e (.Slice none none (some st) p2) (.str (tx l) t) (.ref s2.heap.objs.size)) (EP X pins σ Q) X.xe { s2 with heap := s2.heap.push { cls := .type "slice", data := .fields #[.none, .none, .int (-1) u] } }
  refine tail_any (ops := [.ref s2.heap.objs.size, .str (tx l) t]) (typeIs_str _ _ _) F.slot_str_getitem.lookup ?_ (by with_unfolding_all rfl)
  refine wpAny_getItem_str_slice (l := none) (u := none) (st := some (-1, u)) ⟨_, Heap.get?_push_size _ rfl, rfl, rfl⟩ (show ((-1 : Int) == 0) = false by decide) ?_
  have e1 : (slicePicked (tx l) none none (some (-1, u))).filterMap (fun (i : Nat) => (tx l).cps[i]?) = l.reverse := by
    unfold slicePicked
    rw [tx_len]
    exact rev_tx l
  unfold sliceMade
  rw [if_neg (by
    show ¬ ((((-1 : Int) == 1) && _) = true)
    rw [show ((-1 : Int) == 1) = false by decide]
    simp)]
  rw [e1]
  exact ⟨by show (tx l.reverse).length ≤ sizeLine; rw [tx_len, List.length_reverse]; exact hz, .str (tx l.reverse), H2, I3.tok _, ⟨_, rfl⟩, q⟩
end
end L2
namespace L2
open PySem PySem.Spec PyProof.Rows
def repL (l : List Nat) (k : Nat) : List Nat := (List.replicate k l).flatten
theorem repL_len (l : List Nat) (k : Nat) : (repL l k).length = k * l.length := by
  unfold repL
  induction k with
  | zero => simp
  | succ k ih => rw [List.replicate_succ, List.flatten_cons, List.length_append, ih, Nat.succ_mul]; omega
section
variable {X : Cx}
theorem call_isT : CallR X (.builtin "isinstance") (fun xs H Q => ∃ x T t b, xs = [x, .ty T] ∧ TyOf X.K H x t ∧ PySem.W.kitOne X.K t (.type T) = some b ∧ Q (.bl b) H) := by
  intro pins s σ H xs us Q I r h
  obtain ⟨x, T, t, b, rfl, ty, e, q⟩ := h
  obtain ⟨u, w', rfl, ru, rw'⟩ := vals2 r
  obtain rfl : w' = Value.type T := rw'
  exact isinst_ok I ru ty e fun tk => ⟨.bl b, H, I.tok tk, rfl, q⟩
theorem vals_bl : ∀ {bs : List Bool} {us : List Value}, Vals (bs.map V.bl) us → us = bs.map Value.bool
  | [], _, r => by
    rw [List.map_nil] at r
    cases r
    rfl
  | b :: bs, _, r => by
    rw [List.map_cons] at r
    cases r with
    | cons r1 r2 =>
      have e : _ = Value.bool b := r1
      rw [e, vals_bl r2, List.map_cons]
theorem call_allB (hc : X.calm = true) : CallR X (.builtin "all") (fun xs H Q => ∃ (p : Addr) (bs : List Bool), xs = [.ref p] ∧ SqL X.K H p (bs.map V.bl) ∧ Q (.bl (bs.all id)) H) := by
  intro pins s σ H xs us Q I r h
  obtain ⟨p, bs, rfl, hq, q⟩ := h
  obtain ⟨u, rfl, ru⟩ := vals1 r
  cases ru
  obtain ⟨its, rv, pl, _⟩ := I.list hq
  have e := vals_bl rv
  subst e
  have hlt : p < s.heap.objs.size := by obtain ⟨o, _, e, _⟩ := pl; exact Heap.lt_size e
  refine call_all_walk (wpAny_pyIter_list pl.isList ?_)
  refine ⟨s.heap.objs.size, [s.heap.objs.size, p], [s.heap.objs.size], _, _, _, fun i => bs.getD i true, rfl, Walks.list (show X.A.in1.handled = none from I.ok.hd hc) _ p (Nat.ne_of_lt hlt) (bs.map Value.bool).toArray, ⟨⟨_, Heap.get?_push_size _ rfl, rfl, rfl⟩, pl.isList.push _⟩, ?_, ?_⟩
  · intro i v s' Q' E' hP hQ'
    have hv : bs[i]?.map Value.bool = some v := by simpa using hP
    cases e : bs[i]? with
    | none => rw [e] at hv; cases hv
    | some b =>
      rw [e] at hv
      have hv' : Value.bool b = v := Option.some.inj hv
      subst hv'
      have e2 : bs.getD i true = b := by rw [List.getD_eq_getElem?_getD, e]; rfl
      have hQ2 : Q' (bs.getD i true) s' := hQ'
      rw [e2] at hQ2
      exact wpAny_truthy_bool hQ2
  · intro h' tk kk
    have e3 : (List.range (bs.map Value.bool).toArray.size).all (fun i => bs.getD i true) = bs.all id := by
      rw [List.size_toArray, List.length_map]
      clear hq q rv pl kk
      apply Bool.eq_iff_iff.mpr
      rw [List.all_eq_true, List.all_eq_true]
      constructor
      · intro h b hb
        obtain ⟨i, hi, e⟩ := List.getElem_of_mem hb
        have := h i (List.mem_range.mpr hi)
        rw [List.getD_eq_getElem?_getD, List.getElem?_eq_getElem hi] at this
        simpa [e] using this
      · intro h i hi
        have hi' := List.mem_range.mp hi
        rw [List.getD_eq_getElem?_getD, List.getElem?_eq_getElem hi']
        exact h _ (List.getElem_mem hi')
    rw [e3]
    refine ⟨.bl (bs.all id), H, I.kept (h' := h') (t' := tk) fun b o e => kk b o (fun z => ?_) (Heap.get?_push_of_some _ e), rfl, q⟩
    have z' := List.mem_singleton.mp z
    rw [z'] at e
    exact absurd (Heap.lt_size e) (Nat.lt_irrefl _)
def eqVs (xs ys : List V) : Bool := decide (xs.length = ys.length) && (List.range xs.length).all fun j => eqV (xs.getD j .non) (ys.getD j .non)
def rEqL (K : PySem.W.Frag) : R2 := fun x y H Q => ∃ p q xs ys, x = .ref p ∧ y = .ref q ∧ SqL K H p xs ∧ SqL K H q ys ∧ xs.all flatV = true ∧ ys.all flatV = true ∧ Q (.bl (eqVs xs ys)) H
def tChain3 (r r' r'' : R2) (ta tb tc td : TE) : TE := fun σ H Q => ta σ H fun x H1 => tb σ H1 fun y H2 => r x y H2 fun z H3 => ∃ k, z = .bl k ∧
  (if k = true then tc σ H3 fun w' H4 => r' y w' H4 fun z2 H5 => ∃ k2, z2 = .bl k2 ∧ (if k2 = true then td σ H5 fun w2 H6 => r'' w' w2 H6 Q else Q (.bl false) H5) else Q (.bl false) H3)
theorem pe_chain3 {a b c d : Expr} {ta tb tc td : TE} {pos : Pos} {op op' op'' : CmpOp} {r r' r'' : R2} (ho : OpR X (compareOp op) r) (ho' : OpR X (compareOp op') r') (ho'' : OpR X (compareOp op'') r'') (ha : PE X a ta) (hb : PE X b tb) (hc : PE X c tc) (hd : PE X d td)
    (hm : lastMarks [op, op', op''] [b, c, d] = false := by with_unfolding_all rfl) : PE X (.Compare a [op, op', op''] [b, c, d] pos) (tChain3 r r' r'' ta tb tc td) := by
  intro pins s σ H Q I h
  refine Compare_chain (thn (ha pins s σ H _ I h) fun v s1 ⟨x, H1, I1, r1, q1⟩ => chain_link (thn (hb pins s1 σ H1 _ I1 q1) fun u s2 ⟨y, H2, I2, r2, q2⟩ =>
    thn (ho pins s2 σ H2 x y v u _ I2 r1 r2 q2) fun dd s3 ⟨z, H3, I3, r3, k, e, q3⟩ => ?_)) hm
  subst e
  cases r3
  refine wpAny_truthy_bool ?_
  cases k with
  | false => exact ite_ff ⟨.bl false, H3, I3, rfl, q3⟩
  | true =>
    refine ite_tt (chain_link (thn (hc pins s3 σ H3 _ I3 q3) fun w' s4 ⟨z', H4, I4, r4, q4⟩ => thn (ho' pins s4 σ H4 y z' u w' _ I4 r2 r4 q4) fun dd' s5 ⟨z2, H5, I5, r5, k2, e2, q5⟩ => ?_))
    subst e2
    cases r5
    refine wpAny_truthy_bool ?_
    cases k2 with
    | false => exact ite_ff ⟨.bl false, H5, I5, rfl, q5⟩
    | true => exact ite_tt (chain_last (thn (hd pins s5 σ H5 _ I5 q5) fun w2 s6 ⟨z3, H6, I6, r6, q6⟩ => ho'' pins s6 σ H6 z' z3 w' w2 Q I6 r4 r6 q6))
end
end L2
namespace L2
open PySem PySem.Spec PyProof.Rows
structure Df (P : Program) (w : World) (K : PySem.W.Frag) (mg : Str → Option Value) (base : Heap) (k : Nat) (x : Str) (ps : List Str) (sp : Sp) : Prop where
  ex : ∃ (f : Addr) (fd : FuncData), FnOk P w K mg base CX0 k f fd ps sp ∧ mg x = some (.ref f) ∧ PySem.W.keepIn K (.ref f) = true ∧ Binds K fd ps []
structure At (K : PySem.W.Frag) (mg : Str → Option Value) (x : Str) (st : Stmt) (ps : List Str) : Prop where
  ex : ∃ (f : Addr) (fd : FuncData), Fun K x x st f fd ∧ mg x = some (.ref f) ∧ ∀ us : List Value, us.length = ps.length → bindArgs fd ⟨us, []⟩ = pure (ps.zip us)
section
variable {P : Program} {w : World} {K : PySem.W.Frag} {mg : Str → Option Value} {base : Heap}
theorem At.df {k : Nat} {x : Str} {st : Stmt} {ps : List Str} {sp : Sp} (a : At K mg x st ps) (h : ∀ f fd, Fun K x x st f fd → FnOk P w K mg base CX0 k f fd ps sp) : Df P w K mg base k x ps sp :=
  let ⟨f, fd, F, m, b⟩ := a.ex
  ⟨f, fd, h f fd F, m, F.kp, .all b⟩
theorem At.mk' {x : Str} {st : Stmt} {ps : List Str} {h : Heap} {f : Addr} {oc : Value} {od an : Option Addr} {osl : Array (Option Value)} {kV doc pm cdv ct : Value} (X : K.In h) (G : h.Ns mainGlobals mg)
    (a : PySem.W.nsIn K mainGlobals x = some (some (.ref f)))
    (l : K.lookup f = some ⟨oc, od, .func (PySem.W.fnOf x x (defArgs st) (defBody st) (defScope st) .none kV doc pm an cdv ct), osl⟩)
    (c : PySem.W.codeIn K cdv x = true) (k : PySem.W.keepIn K (.ref f) = true)
    (b : ∀ (kV doc pm : Value) (an : Option Addr) (cdv ct : Value) (us : List Value), us.length = ps.length → bindArgs (PySem.W.fnOf x x (defArgs st) (defBody st) (defScope st) .none kV doc pm an cdv ct) ⟨us, []⟩ = pure (ps.zip us)) : At K mg x st ps :=
  ⟨f, _, fun_mk l c k, PySem.W.mg_of X G a, b kV doc pm an cdv ct⟩
end
section
variable {X : Cx} {k : Nat} {x : Str} {ps : List Str} {sp : Sp} {e : Expr} {es : List Expr} {p pos : Pos} {t : TA}
theorem pe_df {j : Nat} (d : Df X.prog X.w X.K X.mg X.base j x ps sp) (hr : Room k X.A) (hg : Gl X x) (ha : PA X (e :: es) t) (hjk : j ≤ k := by decide) (hdb : (x == ("__debug__" : Str)) = false := by decide) (he : starEach (e :: es) X.env = (false, eval e X.env) :: starEach es X.env := by rfl)
    (hpl : (backTo pos (starEach es X.env)).any (·.1) = false := by rfl) : PE X (.Call (.Name x p) (e :: es) [] pos) (tCall sp [] E0 t) := by
  obtain ⟨f, fd, F, hm, hk, hb⟩ := d.ex
  exact pe_call (F.mono hjk) hr hg hm hk hb .nil pass0 ha hdb he hpl
end
section
variable {X : Cx} {es : List Expr} {t : TA} {te : TE} {pos : Pos}
theorem pa_int {i j p} (h : PA X es t) : PA X (.Constant (.int i) j p :: es) (tCons (tC (.int i)) t) := pa_cons pe_int h rfl
theorem pa_str {i j p} (h : PA X es t) : PA X (.Constant (.str i) j p :: es) (tCons (tC (.str i)) t) := pa_cons pe_str h rfl
theorem pa_bl {i j p} (h : PA X es t) : PA X (.Constant (.bool i) j p :: es) (tCons (tC (.bl i)) t) := pa_cons pe_bl h rfl
theorem pa_non {j p} (h : PA X es t) : PA X (.Constant .none j p :: es) (tCons (tC .non) t) := pa_cons pe_non h rfl
theorem pa_lst {xs : List Expr} (e : PE X (.List xs pos) te) (h : PA X es t) : PA X (.List xs pos :: es) (tCons te t) := pa_cons e h rfl
theorem pa_tup {xs : List Expr} {k} (e : PE X (.Tuple xs k pos) te) (h : PA X es t) : PA X (.Tuple xs k pos :: es) (tCons te t) := pa_cons e h rfl
theorem pa_dic {ks vs} (e : PE X (.Dict ks vs pos) te) (h : PA X es t) : PA X (.Dict ks vs pos :: es) (tCons te t) := pa_cons e h rfl
theorem pa_op {a b op} (e : PE X (.BinOp a op b pos) te) (h : PA X es t) : PA X (.BinOp a op b pos :: es) (tCons te t) := pa_cons e h rfl
theorem pa_un {a op} (e : PE X (.UnaryOp op a pos) te) (h : PA X es t) : PA X (.UnaryOp op a pos :: es) (tCons te t) := pa_cons e h rfl
theorem pa_name {x} (e : PE X (.Name x pos) te) (h : PA X es t) : PA X (.Name x pos :: es) (tCons te t) := pa_cons e h rfl
theorem pa_call {a b c} (e : PE X (.Call a b c pos) te) (h : PA X es t) : PA X (.Call a b c pos :: es) (tCons te t) := pa_cons e h rfl
end
theorem Same.upd {H : Hp} {p : Addr} {o : HO} (h : H p = none) : Same H (upd H p o) := fun b u e => by
  rw [upd_ne (ne_of_none e h)]
  exact e
end L2
namespace L2
open PySem PySem.Spec PyProof.Rows PySem.SeqAt PySem.MeetsSeq
open PySem.AutoSeq1 (wpAny_loadPart')
def rEqT : R2 := fun x y H Q => ∃ (q : Addr) (ys : List V), y = .ref q ∧ H q = some (.tup ys) ∧ ys.all flatV = true ∧
  ((∃ b, x = .bl b ∧ Q (.bl false) H) ∨ (x = .non ∧ Q (.bl false) H) ∨ (∃ i, x = .int i ∧ Q (.bl false) H) ∨ (∃ z, x = .str z ∧ Q (.bl false) H) ∨ (∃ p xs, x = .ref p ∧ H p = some (.lst xs) ∧ Q (.bl false) H) ∨ (∃ p kvs, x = .ref p ∧ H p = some (.dK kvs) ∧ Q (.bl false) H) ∨
    (∃ p xs, x = .ref p ∧ H p = some (.tup xs) ∧ xs.all flatV = true ∧ Q (.bl (eqVs xs ys)) H) ∨ (∃ p r zs j ys', x = .ref p ∧ H p = some (.tup [.ref r]) ∧ H r = some (.tup zs) ∧ ys = .int j :: ys' ∧ Q (.bl false) H))
section
variable {X : Cx}
end
end L2
namespace L2
open PySem PySem.Spec PyProof.Rows
def Itd (hi : Int) (n : Nat) : It := ⟨fun i _ => i < n, fun i H x H' => H' = H ∧ x = .int (hi - i), fun i _ => n ≤ i⟩
section
variable {X : Cx} {tg : Expr}
theorem turn_down {P : Program} {w : World} {K : PySem.W.Frag} (it : Addr) (hi : Int) (n : Nat) : Turn P w K tg (Itd hi n) [it] it (fun i h => IsRangeIter h it (hi + (i : Nat) * (-1)) ((n : Int) - (i : Nat)) (-1)) where
  mem := by simp
  obj := fun i h st b hb => by
    have e : b = it := by simpa using hb
    subst e
    exact ⟨_, st, fun v z => by
      have z' : Data.fields _ = Data.cell v := z
      cases z'⟩
  keep := fun i h h' st k => k it (by simp) _ st
  item := by
    intro X hP hw hK hc i pins s σ H E I hf st hg
    subst hP hw hK
    obtain ⟨f0, f1, f2, f3, f4, f5⟩ := hf it (by simp)
    have W := Walks.range (prog := X.prog) (w := X.w) (I.ok.hd hc) it hi (-1) n
    refine W.item i s _ _ hg st fun v h' tk hv st' kk => ?_
    obtain ⟨t, rfl⟩ := hv
    have I1 : Inv X pins σ H { s with heap := h', toks := tk } := I.turned (fun b o hb e => kk b o (by simpa using hb) e) f0 f1 f3 f4 f5
    refine ⟨_, rfl, go_of (s := { s with heap := h', toks := tk }) (n := "range_iterator") st' rfl rfl (by decide) ⟨.int (hi - i), H, I1, ⟨t, ?_⟩, ⟨rfl, rfl⟩, st', fun b hb => (hf b hb).1⟩⟩
    rw [Int.mul_neg, Int.mul_one, Int.sub_eq_add_neg]
  done := by
    intro X hP hw hK hc i pins s σ H E I hf st hg
    subst hP hw hK
    obtain ⟨f0, f1, f2, f3, f4, f5⟩ := hf it (by simp)
    exact wpAny_pyNext_range_end (I.ok.hd hc) st (by have : n ≤ i := hg; omega) fun h' eb => ⟨rfl, I.turned (t' := s.toks) (fun b o hb e => eb b o hb e) f0 f1 f3 f4 f5⟩
  self := fun _ _ _ _ _ st h => wpAny_pyIter_rangeiter st h
theorem down_it {pins : List (Addr × Obj)} {σ : St} {H : Hp} {s : Shared} {R : It → Hp → Prop} {E : Value → Shared → Prop} {lo hi : Int} {t u v : Tok} {tk : Nat} (I : Inv X pins σ H s) (h1 : -(2 ^ 62) ≤ lo) (h2 : lo < 2 ^ 62) (h3 : -(2 ^ 62) ≤ hi) (h4 : hi < 2 ^ 62)
    (q : R (Itd hi (hi - lo).toNat) H) : wpAny (model X.prog X.w) X.A (pyIter (.ref s.heap.objs.size)) (PIE X pins σ tg R) E { s with heap := s.heap.push { cls := .type "range", data := .fields #[.int hi t, .int lo u, .int (-1) v] }, toks := tk } := by
  refine wpAny_pyIter_range (IsRange.new ..) (PySem.W.small_down h3 h4 h1 h2) ?_
  have I1 : Inv X pins σ H { s with heap := s.heap.push { cls := .type "range", data := .fields #[.int hi t, .int lo u, .int (-1) v] }, toks := tk } := I.kept fun b o e => Heap.get?_push_of_some _ e
  refine ⟨(s.heap.push { cls := .type "range", data := .fields #[.int hi t, .int lo u, .int (-1) v] }).objs.size, [(s.heap.push { cls := .type "range", data := .fields #[.int hi t, .int lo u, .int (-1) v] }).objs.size], _, _, H, rfl,
    I1.kept (t' := tk) fun b o e => Heap.get?_push_of_some _ e, turn_down _ hi (hi - lo).toNat, ?_, fun b hb => ?_, q⟩
  · have e1 : hi + ((0 : Nat) : Int) * (-1) = hi := by simp
    have e2 : (((hi - lo).toNat : Nat) : Int) - ((0 : Nat) : Int) = Builtin.Range.rangeSize hi lo (-1) := by rw [PySem.W.rangeSize_downNat]; omega
    show IsRangeIter _ _ (hi + ((0 : Nat) : Int) * (-1)) ((((hi - lo).toNat : Nat) : Int) - ((0 : Nat) : Int)) (-1)
    rw [e1, e2]
    exact Heap.get?_push_size _ rfl
  · have e : b = (s.heap.push { cls := .type "range", data := .fields #[.int hi t, .int lo u, .int (-1) v] }).objs.size := by simpa using hb
    subst e
    exact I1.fpOk (Nat.le_refl _) (I1.hok.fresh (Nat.le_refl _))
def iRngD (ta : TA) : TI := fun σ H R => ta σ H fun vs H1 => ∃ i j : Int, vs = [.int i, .int j, .int (-1)] ∧ (-(2 ^ 62) ≤ i ∧ i < 2 ^ 62 ∧ -(2 ^ 62) ≤ j ∧ j < 2 ^ 62) ∧ R (Itd i (i - j).toNat) H1
theorem pi_rangeD {a b c : Expr} {ta : TA} {p pos : Pos} (hg : Gl X "range") (hm : X.mg "range" = none) (ha : PA X [a, b, c] ta) (hs : starEach [a, b, c] X.env = [(false, eval a X.env), (false, eval b X.env), (false, eval c X.env)] := by rfl)
    (hs2 : starEach [b, c] X.env = [(false, eval b X.env), (false, eval c X.env)] := by rfl) : PI X tg (.Call (.Name "range" p) [a, b, c] [] pos) (iRngD ta) := by
  intro pins s σ H R I h
  refine Call_ (ld_blt I hg hm boot_range (PyProof.Rows.callWith_type1 (thn (ha pos pins s σ H _ I h) fun us s1 ⟨vs, H1, I1, r1, q1⟩ => ?_) (by rw [hs, hs2]) (by rw [hs2]; rfl)))
  obtain ⟨i, j, e, ⟨q1, q2, q3, q4⟩, q⟩ := q1
  subst e
  cases r1 with
  | cons r rr =>
    cases rr with
    | cons r' rr =>
      cases rr with
      | cons r'' rr =>
        cases rr
        obtain ⟨t, rfl⟩ := r
        obtain ⟨t', rfl⟩ := r'
        obtain ⟨t'', rfl⟩ := r''
        exact call_range_3 (by decide) (down_it (tk := s1.toks) I1 q3 q4 q1 q2 q) (.inl (PyProof.noPylong_small (by decide)))
theorem for_down {hi : Int} {n : Nat} {g : TG} {tb : TS} {D : Ends} {σ : St} {H : Hp} (Pv : Nat → St → Hp → Prop) (h0 : Pv 0 σ H)
    (hs : ∀ i σ H, i < n → Pv i σ H → g (.int (hi - i)) σ H fun σ2 H2 => tb { D with nx := Pv (i + 1), ct := Pv (i + 1), bk := D.nx } σ2 H2) (hd : ∀ σ H, Pv n σ H → D.nx σ H) :
    ∃ W : Nat → Nat → St → Hp → Prop, (∃ m, W 0 m σ H) ∧ ∀ i m σ H, W i m σ H →
      ((Itd hi n).stop i H ∧ D.nx σ H) ∨ ((Itd hi n).go i H ∧ ∃ N : St → Hp → Prop, (∀ σ' H', N σ' H' → ∃ m', m' < m ∧ W (i + 1) m' σ' H') ∧ ∀ x H', (Itd hi n).yld i H x H' → g x σ H' fun σ2 H2 => tb { D with nx := N, ct := N, bk := D.nx } σ2 H2) := by
  refine ⟨fun i m σ H => m = n - i ∧ i ≤ n ∧ Pv i σ H, ⟨n, by simp, Nat.zero_le _, h0⟩, ?_⟩
  rintro i m σ H ⟨rfl, hi, p⟩
  by_cases hlt : i < n
  · refine .inr ⟨hlt, Pv (i + 1), fun σ' H' p' => ⟨n - (i + 1), by omega, rfl, hlt, p'⟩, fun x H' y => ?_⟩
    obtain ⟨e, y⟩ := y
    subst e y
    exact hs i σ _ hlt p
  · have e : i = n := by omega
    subst e
    exact .inl ⟨Nat.le_refl _, hd σ H p⟩
theorem comp_list {K : PySem.W.Frag} {a : Addr} {xs : List V} {σ : St} {ix : List Nat} {tt : TT} {te : TE} {H : Hp} {Z : List V → Hp → Prop} (hl : xs.length ≤ sizeLine) (Pv : Nat → List V → Hp → Prop) (h0 : Pv 0 [] H) (hk : ∀ i ys H, Pv i ys H → SqL K H a xs)
    (hs : ∀ i x ys H (N : List V → Hp → Prop), xs[i]? = some x → ys.length ≤ i → Pv i ys H → (∀ ys' H', ys'.length ≤ i + 1 → Pv (i + 1) ys' H' → N ys' H') →
      tt ((cst ix σ).set 0 (some x)) H fun b H4 => if b = true then te ((cst ix σ).set 0 (some x)) H4 fun v H5 => N (ys ++ [v]) H5 else N ys H4)
    (hd : ∀ ys H, ys.length ≤ xs.length → Pv xs.length ys H → Z ys H) :
    ∃ W : Nat → Nat → List V → Hp → Prop, (∃ m, W 0 m [] H) ∧ ∀ i m ys H2, W i m ys H2 →
      ((Itl K a).stop i H2 ∧ ys.length ≤ sizeLine ∧ Z ys H2) ∨
      ((Itl K a).go i H2 ∧ ys.length ≤ sizeLine ∧ ∀ x H3, (Itl K a).yld i H2 x H3 → tt ((cst ix σ).set 0 (some x)) H3 fun b H4 =>
        if b = true then te ((cst ix σ).set 0 (some x)) H4 fun v H5 => ∃ m', m' < m ∧ W (i + 1) m' (ys ++ [v]) H5 else ∃ m', m' < m ∧ W (i + 1) m' ys H4) := by
  refine ⟨fun i m ys H => m = xs.length - i ∧ i ≤ xs.length ∧ ys.length ≤ i ∧ Pv i ys H, ⟨xs.length, by simp, Nat.zero_le _, Nat.le_refl _, h0⟩, ?_⟩
  rintro i m ys H ⟨rfl, hi, hy, p⟩
  have q := hk i ys H p
  by_cases hlt : i < xs.length
  · refine .inr ⟨⟨xs, xs[i], q, by simp [hlt]⟩, by omega, fun x H' y => ?_⟩
    obtain ⟨e, y⟩ := y
    subst e
    exact hs i x ys _ (fun ys' H5 => ∃ m', m' < xs.length - i ∧ m' = xs.length - (i + 1) ∧ i + 1 ≤ xs.length ∧ ys'.length ≤ i + 1 ∧ Pv (i + 1) ys' H5) (y xs q) hy p fun ys' H' h1 h2 => ⟨xs.length - (i + 1), by omega, rfl, hlt, h1, h2⟩
  · have e : i = xs.length := by omega
    subst e
    exact .inl ⟨⟨xs, q, Nat.le_refl _⟩, by omega, hd ys H hy p⟩
def rNeL (K : PySem.W.Frag) : R2 := fun x y H Q => ∃ p q xs ys, x = .ref p ∧ y = .ref q ∧ SqL K H p xs ∧ SqL K H q ys ∧ xs.all flatV = true ∧ ys.all flatV = true ∧ Q (.bl (!eqVs xs ys)) H
end
end L2
namespace L2
open PySem PySem.Spec PyProof.Rows
section
variable {X : Cx} {scope : Scope} {cl : List (Str × Addr)} {x : Str} {ys : List Str} {ix : List Nat}
end
end L2
namespace L2
open PySem PySem.Spec PyProof.Rows
def NoCtx (h : Heap) (a : Addr) : Prop := ∃ o vs, h.get? a = some o ∧ o.data = .fields vs ∧ vs[2]? = some .none
def KeepF (f : Obj → Obj) : Prop := ∀ o vs, o.data = .fields vs → ∃ vs', (f o).data = .fields vs' ∧ vs'[2]? = vs[2]?
def Tm {α : Type} : Sem α → Prop
  | .pure _ | .raise _ | .unsupported _ | .finish _ | .register _ _ => True
  | .rule _ k => Tm (k ())
  | .at _ k => Tm (k ())
  | .load _ _ k => ∀ o, Tm (k o)
  | .update _ _ f k => KeepF f ∧ Tm (k ())
  | .alloc _ k => ∀ a, Tm (k a)
  | .loadIfAlive _ k => ∀ o, Tm (k o)
  | .point _ k => Tm (k ())
  | .fresh k => ∀ o, Tm (k o)
  | .ask k => ∀ o, Tm (k o)
  | .handled _ k => ∀ o, Tm (k o)
  | .stack k => ∀ o, Tm (k o)
  | .thread k => ∀ o, Tm (k o)
  | _ => False
section
variable {M : Model} {A : Around} {E : Value → Shared → Prop} {s : Shared} {base : Heap} {env : Env} {outer : List Env} {L e : Addr} {cls a0 : Value} {Q : Unit → Shared → Prop}
end
def CX1 (P : Program) (w : World) : CXT := fun outer H s E e s' => ∃ (a : Addr) (cls a0 : Value) (H' : Hp) (B : Heap), e = .ref a ∧ s'.os = s.os ∧ AllBare s'.gens ∧ Un (frs outer) [] H H' s.heap s'.heap ∧
  HOk P w H' B ∧ (Heap.FlyingW B outer a cls a0 s'.heap ∧ NoCtx s'.heap a) ∧ (∀ b o, s.heap.get? b = some o → b ∉ frs outer → ∃ o', B.get? b = some o') ∧ E cls none H'
structure Lv (X : Cx) (E : XK) : Prop where
  stk : X.stack = X.env :: X.outer
  fr : X.env.frame = some X.env.locals
  ex : X.ex = []
  xe : ∀ e s', wpAny (model X.prog X.w) X.A (leaving X.env e) (fun _ s'' => CX1 X.prog X.w X.outer X.H₀ X.s₀ E e s'') (fun e' s'' => CX1 X.prog X.w X.outer X.H₀ X.s₀ E e' s'') s' → X.xe e s'
section
variable {X : Cx} {E : XK} {pins : List (Addr × Obj)} {σ : St} {H H' : Hp} {s : Shared}
end
def tRaise (cls : Value) (E : XK) (t : TA) : TS := fun _ σ H => t σ H fun vs H1 => vs.length ≤ sizeLine ∧ E cls none H1
section
variable {X : Cx} {E : XK} {x : Str} {C : Addr} {bm bmN : List Value} {B Bn newId nid initId inN : String} {np cpos pos : Pos} {e₀ : Expr} {es : List Expr} {t : TA}
end
end L2
namespace L2
open PySem PySem.Spec PyProof.Rows
abbrev XS := St → XK
structure DfX (P : Program) (w : World) (K : PySem.W.Frag) (mg : Str → Option Value) (base : Heap) (k : Nat) (x : Str) (ps : List Str) (sp : Sp) : Prop where
  ex : ∃ (f : Addr) (fd : FuncData), FnOk P w K mg base (CX1 P w) k f fd ps sp ∧ mg x = some (.ref f) ∧ PySem.W.keepIn K (.ref f) = true ∧ Binds K fd ps []
section
variable {P : Program} {w : World} {K : PySem.W.Frag} {mg : Str → Option Value} {base : Heap}
end
def tCallX (sp : Sp) (Ex : XS) (t : TA) : TE := fun σ H Q => t σ H fun vs H1 => sp vs H1 Q (Ex σ)
def PassesX (X : Cx) (Ex : XS) : Prop := ∀ (pins : List (Addr × Obj)) (σ : St) (H : Hp) (s : Shared) (e : Value) (s' : Shared), Inv X pins σ H s → CX1 X.prog X.w X.stack H s (Ex σ) e s' → X.xe e s'
section
variable {X : Cx} {k j : Nat} {x : Str} {ps : List Str} {sp : Sp} {e : Expr} {es : List Expr} {p pos : Pos} {t : TA} {Ex : XS}
end
def excO (a : Addr) (cls : Value) : HO := .ext fun h => ∃ o, h.get? a = some o ∧ o.cls = cls ∧ ∃ vs, o.data = .fields vs ∧ vs[2]? = some .none
abbrev Cx.pinned (X : Cx) (pins : List (Addr × Obj)) : Cx := { X with pn := X.pn ++ pins }
abbrev Cx.tryX (X : Cx) (pins : List (Addr × Obj)) (Ex : XS) : Cx := (X.pinned pins).wish fun e s' => ∃ pins' σ H s, Inv (X.pinned pins) pins' σ H s ∧ CX1 X.prog X.w X.stack H s (Ex σ) e s'
abbrev Cx.inExc (X : Cx) (e : Value) : Cx := { X with A := X.A.mark (some e), calm := false, xe := fun _ _ => False }
section
variable {X : Cx} {pins pins' : List (Addr × Obj)} {σ : St} {H H' : Hp} {s : Shared}
end
end L2
namespace L2
open PySem PySem.Spec PyProof.Rows
def tTry (tb : XS → TS) (K : PySem.W.Frag) (R : Value) (i : Nat) (ts : TS) : TS := fun D σ H => ∃ Ex : XS, tb Ex D σ H ∧ ∀ σ' cls H', Ex σ' cls none H' → PySem.W.exmOne K cls R = some true ∧ ∀ a, H' a = none →
  ts { nx := fun σ2 H2 => D.nx (σ2.set i none) H2, rt := D.rt, bk := fun σ2 H2 => D.bk (σ2.set i none) H2, ct := fun σ2 H2 => D.ct (σ2.set i none) H2 } (σ'.set i (some (.ref a))) (upd H' a (excO a cls))
section
variable {X : Cx} {Ex : XS} {pins : List (Addr × Obj)} {tb : XS → TS} {ts : TS} {c n : Str} {i : Nat} {R : Addr} {body suite : List Stmt} {b₀ : Stmt} {np hpos pos : Pos}
end
end L2
namespace Mr.X
open PySem PySem.W PySem.Spec PySem.Calls PyProof.Rows Builtin Builtin.ObjectAttr Builtin.Getset_descriptor
section
variable {prog : Program} {w : World} {A : Around} {E : Value → Shared → Prop} {K : Frag} {D a : Addr} {h : Heap} {g : Array GenState} {d : Drawn} {t : Nat} {os : OsState} {o : Obj}
end
structure ExC (K : Frag) (D : Addr) : Prop where
  ga : findIn K (.ref D) "__getattribute__" = some (some (.builtin "BaseException.__getattribute__"))
  gt : findIn K (.ref D) "__getattr__" = some none
  cl : findIn K (.ref D) "__class__" = some (some (.builtin "object.__class__"))
  be : subIn K (.ref D) (.type "BaseException") = some true
  ob : mroIn K D (.type "object") = some true
  is : ∃ c d cd sl, K.lookup D = some ⟨c, d, .cls cd, sl⟩
end Mr.X
namespace L2
open PySem PySem.Spec PyProof.Rows
section
variable {X : Cx}
end
end L2
namespace L2
open PySem PySem.Spec PyProof.Rows
structure RoomN (k : Nat) (A : Around) : Prop where
  dp : A.depth + 3 * k + 5 < recursionLimit
  un : A.units + 16 * k + 200 < cLine
structure FnOkN (P : Program) (w : World) (K : PySem.W.Frag) (mg : Str → Option Value) (base : Heap) (k : Nat) (f : Addr) (fd : FuncData) (ps : List Str) (sp : Sp) : Prop where
  len : ∀ vs H Q E, sp vs H Q E → vs.length = ps.length
  run : ∀ (A : Around) (outer : List Env) (s : Shared) (H : Hp) (args : Args) (us : List Value) (vs : List V) (Q : VK) (E : XK), RoomN k A → Env0 P w K mg base A outer s H → BindsTo s fd args (ps.zip us) → Vals vs us → sp vs H Q E →
    codeAny (model P w) A (.call (.ref f) args) (CR CX0 outer P w H s Q E) s
abbrev cxN (P : Program) (w : World) (K : PySem.W.Frag) (mg : Str → Option Value) (base : Heap) (N : List Str) (qual : Str) (scope : Scope) (f : Addr) (cd : Value) (A : Around) (outer : List Env) (s : Shared) (H : Hp) : Cx :=
  { (cxOf CX0 P w K mg base N qual scope f cd A outer s H E0).nox with calm := false }
structure DfN (P : Program) (w : World) (K : PySem.W.Frag) (mg : Str → Option Value) (base : Heap) (k : Nat) (x : Str) (ps : List Str) (sp : Sp) : Prop where
  ex : ∃ (f : Addr) (fd : FuncData), FnOkN P w K mg base k f fd ps sp ∧ mg x = some (.ref f) ∧ PySem.W.keepIn K (.ref f) = true ∧ Binds K fd ps []
section
variable {P : Program} {w : World} {K : PySem.W.Frag} {mg : Str → Option Value} {base : Heap}
end
section
variable {X : Cx} {k j : Nat} {x : Str} {ps : List Str} {sp : Sp} {e : Expr} {es : List Expr} {p pos : Pos} {t : TA}
end
end L2
namespace L2
open PySem PySem.Spec PyProof.Rows PySem.SeqAt PySem.MeetsSeq
def isB (b : Bool) : Value → Bool
  | .bool c => c == b
  | _ => false
def rCountB : V → List V → Hp → VK → Prop := fun x vs H Q => ∃ (l : Addr) (bs : List Bool) (b : Bool), x = .ref l ∧ vs = [.bl b] ∧ H l = some (.lst (bs.map V.bl)) ∧ Q (.int (bs.count b : Nat)) H
def rIndexB : V → List V → Hp → VK → Prop := fun x vs H Q => ∃ (l : Addr) (bs : List Bool) (b : Bool) (j : Nat), x = .ref l ∧ vs = [.bl b] ∧ H l = some (.lst (bs.map V.bl)) ∧ bs[j]? = some b ∧ (∀ m, m < j → bs[m]? = some (!b)) ∧ Q (.int (j : Nat)) H
section
variable {X : Cx}
end
end L2
namespace L2
open PySem PySem.Spec PyProof.Rows
def Er (K : PySem.W.Frag) (mg : Str → Option Value) (x : Str) (C : Addr) : Prop := mg x = some (.ref C) ∧ PySem.W.excIn K C [.type "ValueError", .type "Exception", .type "BaseException", .type "object"] "ValueError.__new__" = true
end L2
namespace Mr
open PySem L2
theorem bt_len : bootBuiltins "len" = some (.builtin "len") := by decide +kernel
theorem bt_all : bootBuiltins "all" = some (.builtin "all") := by decide +kernel
theorem bt_max : bootBuiltins "max" = some (.builtin "max") := by decide +kernel
theorem bt_min : bootBuiltins "min" = some (.builtin "min") := by decide +kernel
theorem bt_divmod : bootBuiltins "divmod" = some (.builtin "divmod") := by decide +kernel
theorem bt_isinstance : bootBuiltins "isinstance" = some (.builtin "isinstance") := by decide +kernel
theorem bt_str : bootBuiltins "str" = some (.type "str") := by decide +kernel
theorem bt_bool : bootBuiltins "bool" = some (.type "bool") := by decide +kernel
theorem bt_int : bootBuiltins "int" = some (.type "int") := by decide +kernel
theorem bt_tuple : bootBuiltins "tuple" = some (.type "tuple") := by decide +kernel
theorem e_nil : ("" : Str) = tx [] := by decide +kernel
def Let (l : List Nat) : Prop := ∀ c ∈ l, 97 ≤ c ∧ c ≤ 122
def But (b : Addr) (H H' : Hp) : Prop := ∀ c o, H c = some o → c ≠ b → H' c = some o
theorem But.trans {b : Addr} {H H1 H2 : Hp} (x : But b H H1) (y : But b H1 H2) : But b H H2 := fun c o e n => y c o (x c o e n) n
theorem But.of {b : Addr} {H H1 : Hp} (x : Same H H1) : But b H H1 := fun c o e _ => x c o e
theorem But.refl {b : Addr} {H : Hp} : But b H H := fun _ _ e _ => e
theorem cut_to {l : List Nat} (k : Nat) : cutL l none (some (k : Int)) = l.take k := by
  unfold cutL
  rw [HT.sIx_nat, HT.sIx_none, Nat.sub_zero, List.drop_zero]
  by_cases h : k ≤ l.length
  · rw [Nat.min_eq_left h]
  · rw [Nat.min_eq_right (by omega), List.take_of_length_le (Nat.le_refl _), List.take_of_length_le (by omega)]
theorem cut_le (l : List Nat) (lo hi : Option Int) : (cutL l lo hi).length ≤ l.length := by
  unfold cutL
  rw [List.length_take, List.length_drop]
  omega
section
variable (K : PySem.W.Frag)
def spCell : Sp := fun vs H Q _ => ∃ (a : Addr) (ns : List Int) (k : Int), vs = [.ref a, .int k] ∧ SqL K H a (ns.map V.int) ∧ 0 ≤ k ∧ ∀ i, Q (.int i) H
def spMix : Sp := fun vs H Q _ => ∃ (c k : Int), vs = [.int c, .int k] ∧ 0 ≤ k ∧ k ≤ 1000 ∧ ∀ (i : Int) (H' : Hp), 0 ≤ i → Same H H' → Q (.int i) H'
def spBox : Sp := fun vs H Q _ => ∃ (a : Addr) (ns : List Int) (k : Int), vs = [.ref a, .int k] ∧ SqL K H a (ns.map V.int) ∧ 0 ≤ k ∧ ∀ (b : Addr) (n : Int) (H' : Hp), 0 ≤ n → H b = none → H' b = some (.lst [.int n]) → Same H H' → Q (.ref b) H'
def spTake : Sp := fun vs H Q _ => ∃ (b : Addr) (n m : Int), vs = [.ref b, .int m] ∧ H b = some (.lst [.int n]) ∧ 0 ≤ n ∧ 0 < m ∧ m < 1000000 ∧
  ∀ (d n' : Int) (H' : Hp), 0 ≤ d → d < m → 0 ≤ n' → H' b = some (.lst [.int n']) → But b H H' → Q (.int d) H'
def spTruth : Sp := fun vs H Q _ => ∃ (a b : Bool), vs = [.bl a, .bl b] ∧ Q (.bl (decide (a = b))) H
def spBehind : Sp := fun vs H Q _ => ∃ (l : List Nat), vs = [.str (tx l)] ∧ l.length ≤ sizeLine ∧ Q (.str (tx l.reverse)) H
def spAlike : Sp := fun vs H Q _ => ∃ (l : List Nat), vs = [.str (tx l)] ∧ l.length ≤ 1000000 ∧ ∀ H', Same H H' → Q (.bl (decide (l = l.reverse))) H'
def spClosed : Sp := fun vs H Q _ => ∃ (l : List Nat), vs = [.str (tx l)] ∧ Let l ∧ l.length ≤ 10000 ∧ ∀ (m : List Nat) (H' : Hp), Let m → m.length ≤ 2 * l.length → Same H H' → Q (.str (tx m)) H'
def spRow : Sp := fun vs H Q _ => ∃ (b : Addr) (n most : Int), vs = [.ref b, .int most] ∧ H b = some (.lst [.int n]) ∧ 0 ≤ n ∧ 0 ≤ most ∧ most ≤ 1000 ∧
  ∀ (m : List Nat) (n' : Int) (H' : Hp), Let m → (m.length : Int) ≤ most → 0 ≤ n' → H' b = some (.lst [.int n']) → But b H H' → Q (.str (tx m)) H'
end
theorem int_at {ns : List Int} {k : Int} (h0 : 0 ≤ k) (h1 : k < (ns.map V.int).length) : ∃ z, atI (ns.map V.int) k = some (V.int z) := by
  obtain ⟨j, rfl⟩ := Int.eq_ofNat_of_zero_le h0
  have hj : j < ns.length := by rw [List.length_map] at h1; omega
  exact ⟨ns[j], atI_nat (by rw [List.getElem?_map, List.getElem?_eq_getElem hj]; rfl)⟩
theorem at_ofInt {α : Type} {xs : List α} {k : Int} (h0 : 0 ≤ k) (h1 : k < xs.length) : ∃ z, atI xs k = some z ∧ z ∈ xs := by
  obtain ⟨j, rfl⟩ := Int.eq_ofNat_of_zero_le h0
  have hj : j < xs.length := by omega
  exact ⟨xs[j], atI_nat (List.getElem?_eq_getElem hj), List.getElem_mem hj⟩
theorem yes_ok {σ : St} {H : Hp} {Q : Bool → Hp → Prop} (h : Q true H) : tYes σ H Q := h
theorem e_a : ("a" : Str) = tx [97] := by decide +kernel
inductive Odd (H : Hp) : V → Prop
  | non : Odd H .non
  | bl (b : Bool) : Odd H (.bl b)
  | int (i : Int) (h : i = 0 ∨ i = 10 ^ 39 ∨ i = -1) : Odd H (.int i)
  | str (l : List Nat) (h : l = [65] ∨ l = [97, 32, 98] ∨ l = [97, 10] ∨ l = [49]) : Odd H (.str (tx l))
  | long : Odd H (.str (tx (repL [97] 201)))
  | la (p : Addr) (h : H p = some (.lst [.str (tx [97])])) : Odd H (.ref p)
  | ta (p : Addr) (h : H p = some (.tup [.str (tx [97])])) : Odd H (.ref p)
  | da (p : Addr) (h : H p = some (.dK [(Sum.inr (tx [97]), .int 1)])) : Odd H (.ref p)
  | t01 (p : Addr) (h : H p = some (.tup [.int 0, .int 1])) : Odd H (.ref p)
  | l0 (p : Addr) (h : H p = some (.lst [])) : Odd H (.ref p)
def spOdd : Sp := fun vs H Q _ => ∃ (b : Addr) (n : Int), vs = [.ref b] ∧ H b = some (.lst [.int n]) ∧ 0 ≤ n ∧
  ∀ (x : V) (n' : Int) (H' : Hp), Odd H' x → 0 ≤ n' → H' b = some (.lst [.int n']) → But b H H' → Q x H'
def lets : List Nat := [97, 98, 99, 100, 101, 102, 103, 104, 105, 106, 107, 108, 109, 110, 111, 112, 113, 114, 115, 116, 117, 118, 119, 120, 121, 122]
theorem e_lets : ("abcdefghijklmnopqrstuvwxyz" : Str) = tx lets := by decide +kernel
theorem mem_lets {c : Nat} : c ∈ lets ↔ 97 ≤ c ∧ c ≤ 122 := by
  rw [show lets = (List.range 26).map (97 + ·) from rfl, List.mem_map]
  constructor
  · rintro ⟨i, hi, rfl⟩
    have := List.mem_range.mp hi
    omega
  · rintro ⟨h1, h2⟩
    exact ⟨c - 97, List.mem_range.mpr (by omega), by omega⟩
def rowL (l : List Nat) : Bool := decide (l.length ≤ 200) && l.all fun c => decide (c ∈ lets)
def rowV : V → Bool
  | .str z => rowL z.cps.toList
  | _ => false
def mirV : V → Bool
  | .str z => rowL z.cps.toList && (!decide (z.cps.toList = []) && decide (z.cps.toList = z.cps.toList.reverse))
  | _ => false
theorem rowL_iff {l : List Nat} : rowL l = true ↔ l.length ≤ 200 ∧ Let l := by
  unfold rowL
  rw [Bool.and_eq_true, decide_eq_true_iff, List.all_eq_true]
  constructor
  · intro h
    exact ⟨h.1, fun c hc => mem_lets.mp (of_decide_eq_true (h.2 c hc))⟩
  · intro h
    exact ⟨h.1, fun c hc => decide_eq_true (mem_lets.mpr (h.2 c hc))⟩
section
variable (K : PySem.W.Frag)
def Thing (H : Hp) (x : V) : Prop := (∃ l : List Nat, x = .str (tx l) ∧ l.length ≤ 100000) ∨ (rowV x = false ∧ mirV x = false ∧ ∃ t, TyOf K H x t ∧ PySem.W.kitOne K t (.type "str") = some false)
def spIsRow : Sp := fun vs H Q _ => ∃ x, vs = [x] ∧ Thing K H x ∧ ∀ H', Same H H' → Q (.bl (rowV x)) H'
def spIsMirror : Sp := fun vs H Q _ => ∃ x, vs = [x] ∧ Thing K H x ∧ ∀ H', Same H H' → Q (.bl (mirV x)) H'
def spNeed : Sp := fun vs H Q _ => ∃ l : List Nat, vs = [.str (tx l)] ∧ rowL l = true ∧ ∀ H', Same H H' → Q .non H'
def spBack : Sp := fun vs H Q _ => ∃ l : List Nat, vs = [.str (tx l)] ∧ rowL l = true ∧ ∀ H', Same H H' → Q (.str (tx l.reverse)) H'
end
section
variable {P : Program} {w : World} {K : PySem.W.Frag} {mg : Str → Option Value} {base : Heap}
theorem TyOf.same {H H' : Hp} {x : V} {t : Value} (s : Same H H') (h : TyOf K H x t) : TyOf K H' x t := by
  cases h with
  | non => exact .non
  | bl b => exact .bl b
  | int i => exact .int i
  | str z => exact .str z
  | flt z => exact .flt z
  | lst e => exact .lst (s _ _ e)
  | frz e => exact .frz (s _ _ e)
  | tup e => exact .tup (s _ _ e)
  | dK e => exact .dK (s _ _ e)
  | dT e => exact .dT (s _ _ e)
  | ins e a b c d f => exact .ins (s _ _ e) a b c d f
end
section
variable {P : Program} {w : World} {K : PySem.W.Frag} {mg : Str → Option Value} {base : Heap}
theorem row_thing {H : Hp} {l : List Nat} (h : rowL l = true) : Thing K H (.str (tx l)) := .inl ⟨l, rfl, by have := (rowL_iff.mp h).1; omega⟩
end
theorem same_but {b : Addr} {H H1 H2 : Hp} (s : Same H H1) (fr : H b = none) (k : But b H1 H2) : Same H H2 := fun c o e => k c o (s c o e) (ne_of_none e fr)
def spLaw (K : PySem.W.Frag) : Sp := fun vs H Q _ => ∃ (a : Addr) (ns : List Int), vs = [.ref a] ∧ SqL K H a (ns.map V.int) ∧ ns.length ≤ 63 ∧ ∀ H', Q (.bl true) H'
section
variable {P : Program} {w : World} {K : PySem.W.Frag} {mg : Str → Option Value} {base : Heap}
end
end Mr
namespace Mr
open PySem L2
def Scal : V → Prop
  | .non => True
  | .bl _ => True
  | .int _ => True
  | .str _ => True
  | _ => False
def wholeV : V → Bool
  | .int _ => true
  | _ => false
def stL (n : Int) : List V → Bool
  | [.int i, .int j] => decide (0 ≤ i) && (decide (i ≤ j) && decide (j ≤ n))
  | _ => false
def cutAl (l : List Nat) : List V → Bool
  | [.int i, .int j] => decide (cutL l (some i) (some j) = (cutL l (some i) (some j)).reverse)
  | _ => false
def rdL (l : List Nat) (xs : List V) : Bool := stL (l.length : Int) xs && cutAl l xs
theorem stL_ne {n : Int} {xs : List V} (h : xs.length ≠ 2) : stL n xs = false := by
  unfold stL
  split
  · exact absurd rfl h
  · rfl
theorem stL_not {n : Int} {x y : V} (h : wholeV x = false ∨ wholeV y = false) : stL n [x, y] = false := by
  cases x <;> cases y <;> first
    | rfl
    | (rcases h with h | h <;> cases h)
section
variable (K : PySem.W.Frag)
def NoTup (H : Hp) (x : V) : Prop := ∃ t, TyOf K H x t ∧ PySem.W.kitOne K t (.type "tuple") = some false
def spWhole : Sp := fun vs H Q _ => ∃ x, vs = [x] ∧ Scal x ∧ Q (.bl (wholeV x)) H
def spStretch : Sp := fun vs H Q _ => ∃ (x : V) (n : Int), vs = [x, .int n] ∧ ((NoTup K H x ∧ Q (.bl false) H) ∨ ∃ p xs, x = .ref p ∧ H p = some (.tup xs) ∧ (xs.length = 2 → ∀ y ∈ xs, Scal y) ∧ Q (.bl (stL n xs)) H)
def spReads : Sp := fun vs H Q _ => ∃ (l : List Nat) (x : V), vs = [.str (tx l), x] ∧ rowL l = true ∧ ((NoTup K H x ∧ ∀ H', Same H H' → Q (.bl false) H') ∨ ∃ p xs, x = .ref p ∧ H p = some (.tup xs) ∧ (xs.length = 2 → ∀ y ∈ xs, Scal y) ∧ ∀ H', Same H H' → Q (.bl (rdL l xs)) H')
end
end Mr
namespace Mr
open PySem L2
def EOk (σ : St) (Φ : Hp → V → Prop) (te : TE) : Prop := ∀ (H : Hp) (Q : VK), (∀ x H', Same H H' → Φ H' x → Q x H') → te σ H Q
def AOk (σ : St) (Φ : Hp → V → Prop) (n : Nat) (t : TA) : Prop := ∀ (H : Hp) (Q : List V → Hp → Prop), (∀ xs H', Same H H' → xs.length = n → (∀ x ∈ xs, Φ H' x) → Q xs H') → t σ H Q
section
variable {σ : St} {Φ : Hp → V → Prop} {te : TE} {t : TA} {n : Nat}
end
inductive Th2 (l : List Nat) (H : Hp) : V → Prop
  | tup (p : Addr) (xs : List V) (h : H p = some (.tup xs)) (hs : ∀ y ∈ xs, Scal y) (g : rdL l xs = (eqVs xs [.int 0, .int 1] && decide (0 < l.length))) : Th2 l H (.ref p)
  | nest (p r : Addr) (zs : List V) (h : H p = some (.tup [.ref r])) (h' : H r = some (.tup zs)) : Th2 l H (.ref p)
  | lst (p : Addr) (xs : List V) (h : H p = some (.lst xs)) : Th2 l H (.ref p)
  | dk (p : Addr) (kvs : List (Key × V)) (h : H p = some (.dK kvs)) : Th2 l H (.ref p)
  | non : Th2 l H .non
  | bl (b : Bool) : Th2 l H (.bl b)
  | int (i : Int) : Th2 l H (.int i)
  | str (z : Str) : Th2 l H (.str z)
section
variable {K : PySem.W.Frag}
end
end Mr
namespace Mr
open PySem L2
def downs (n : Nat) : List Nat := (List.range n).map fun i => n - i
def lensV (ks : List Nat) : List V := ks.map fun (k : Nat) => V.int (k : Int)
def bordersN (l : List Nat) : List Nat := (downs (l.length - 1)).filter fun k => decide (l.take k = l.drop (l.length - k))
def endsN (l : List Nat) : List Nat := (downs l.length).filter fun k => decide (l.drop (l.length - k) = (l.drop (l.length - k)).reverse)
def beginsN (l : List Nat) : List Nat := (downs l.length).filter fun k => decide (l.take k = (l.take k).reverse)
def spLens (f : List Nat → List Nat) : Sp := fun vs H Q _ => ∃ l : List Nat, vs = [.str (tx l)] ∧ rowL l = true ∧ ∀ (p : Addr) (H' : Hp), H p = none → H' p = some (.lst (lensV (f l))) → Same H H' → Q (.ref p) H'
theorem same_upd {H H' : Hp} {p : Addr} {o : HO} (s : Same H H') (h : H p = none) : Same H (upd H' p o) := fun c u e => by
  rw [upd_ne (ne_of_none e h)]
  exact s c u e
section
variable {K : PySem.W.Frag}
end
end Mr
namespace Mr
def PalI (l : List Nat) (a b : Nat) : Prop := ∀ i, a ≤ i → i < b → l[i]? = l[a + b - 1 - i]?
def sub (l : List Nat) (a b : Nat) : List Nat := (l.drop a).take (b - a)
def grow (l : List Nat) : Nat → Nat → Nat
  | 0, b => b
  | f + 1, b => if b < l.length ∧ l[f]? = l[b]? then grow l f (b + 1) else b - (f + 1)
def reachN (l : List Nat) (m : Nat) : Nat := grow l ((m + 1) / 2) (m + 1 - (m + 1) / 2)
def reachesN (l : List Nat) : List Nat := (List.range (2 * l.length - 1)).map (reachN l)
end Mr
namespace L2
open PySem PySem.Spec PyProof.Rows
section
variable {X : Cx} {K : PySem.W.Frag}
theorem ix_tupK (h : X.K = K) : IxR X (rIxT K) := h ▸ ix_tup
end
end L2
namespace Mr
open PySem L2
def spReachA : Sp := fun vs H Q _ => ∃ (l : List Nat) (m : Nat), vs = [.str (tx l), .int (m : Int)] ∧ rowL l = true ∧ m + 1 < 2 * l.length ∧ Q (.int ((reachN l m : Nat) : Int)) H
def spEA : Sp := fun vs H Q _ => ∃ (p : Addr) (l : List Nat) (b : Nat), vs = [.ref p, .int (b : Int)] ∧ l.length ≤ 200 ∧ b ≤ l.length ∧ H p = some (.lst (lensV (reachesN l))) ∧
  ∀ (p' : Addr) (H' : Hp), H p' = none → H' p' = some (.lst (lensV (endsN (l.take b)))) → Same H H' → Q (.ref p') H'
end Mr
namespace Mr
def sm : Nat → (Nat → Nat) → Nat
  | 0, _ => 0
  | n + 1, f => sm n f + f n
def palB (l : List Nat) (a c : Nat) : Bool := decide (sub l a c = (sub l a c).reverse)
def manyN (l : List Nat) : Nat := sm l.length fun a => sm (l.length - a) fun j => if palB l a (a + 1 + j) = true then 1 else 0
def BestP (l : List Nat) (x y : Nat) : Prop := x < y ∧ y ≤ l.length ∧ PalI l x y ∧ ∀ a c, a < c → c ≤ l.length → PalI l a c → c - a < y - x ∨ (c - a = y - x ∧ x ≤ a)
def BestSo (l : List Nat) (S : Nat → Nat → Prop) (x y : Nat) : Prop := S x y ∧ PalI l x y ∧ ∀ a c, S a c → PalI l a c → c - a < y - x ∨ (c - a = y - x ∧ x ≤ a)
end Mr
namespace L2
open PySem PySem.Spec PyProof.Rows PySem.SeqAt PySem.MeetsSeq
section
variable {X : Cx}
def isI (n : Int) : Value → Bool
  | .int c _ => c == n
  | _ => false
def rIndexI : V → List V → Hp → VK → Prop := fun x vs H Q => ∃ (l : Addr) (ns : List Int) (n : Int) (j : Nat), x = .ref l ∧ vs = [.int n] ∧ H l = some (.lst (ns.map V.int)) ∧ ns[j]? = some n ∧ (∀ m, m < j → ns[m]? ≠ some n) ∧ Q (.int (j : Nat)) H
def rNeTN : R2 := fun x y H Q => (x = .non ∧ y = .non ∧ Q (.bl false) H) ∨ ∃ p q xs ys, x = .ref p ∧ y = .ref q ∧ H p = some (.tup xs) ∧ H q = some (.tup ys) ∧ xs.all flatV = true ∧ ys.all flatV = true ∧ Q (.bl (!eqVs xs ys)) H
end
end L2
namespace Mr
open PySem L2
def spMany : Sp := fun vs H Q _ => ∃ l : List Nat, vs = [.str (tx l)] ∧ rowL l = true ∧ ∀ H', Same H H' → Q (.int ((manyN l : Nat) : Int)) H'
def spLongest : Sp := fun vs H Q _ => ∃ l : List Nat, vs = [.str (tx l)] ∧ rowL l = true ∧ (l = [] → ∀ H', Same H H' → Q .non H') ∧
  ∀ (x y : Nat) (p : Addr) (H' : Hp), BestP l x y → H p = none → H' p = some (.tup [.int (x : Int), .int (y : Int)]) → Same H H' → Q (.ref p) H'
end Mr
namespace L2
open PySem PySem.Spec PyProof.Rows
section
variable {X : Cx} {pins : List (Addr × Obj)} {σ : St} {H : Hp} {s : Shared} {h' : Heap} {wr : List Addr} {t' : Nat}
theorem Inv.turnedT {T : Addr} {xs : List V} (I : Inv X pins σ H s) (k : ∀ b o, b ∉ wr → s.heap.get? b = some o → h'.get? b = some o) (hf : ∀ b ∈ wr, FpOk X pins H b) (hT : s.heap.objs.size ≤ T) (new : ObjOk X.prog X.w (upd H T (.tup xs)) h' T (.tup xs)) :
    Inv X pins σ (upd H T (.tup xs)) { s with heap := h', toks := t' } := by
  have hn : H T = none := I.hok.fresh hT
  have nit : ∀ b u, H b = some u → b ∉ wr := fun b u e z => by rw [(hf b z).1] at e; cases e
  have neT : ∀ b o, s.heap.get? b = some o → b ≠ T := fun b o e => Nat.ne_of_lt (Nat.lt_of_lt_of_le (Heap.lt_size e) hT)
  refine I.step (g' := s.gens) (d' := s.drawn) (ch := wr) (fun b hb => ?_) (fun b o _ _ hc e _ => k b o hc e) (fun b o _ _ hc e _ => ⟨o.slots, k b o hc e⟩) (fun b o _ e n => by rw [upd_ne (neT b o e)]; exact n)
    (fun b o hc e => ⟨o, k b o hc e⟩) (fun b ys e => by rw [upd_ne (ne_of_none e hn)]; exact e) (fun b _ _ e => by rw [upd_ne (ne_of_none e hn)]; exact e) (fun b ps e => ⟨#[], by rw [upd_ne (ne_of_none e hn), e]; simp⟩) (fun m hm => ?_) (fun b u e => ?_) I.bare
  · obtain ⟨_, f1, _, f3, f4, f5⟩ := hf b hb
    exact ⟨f3, f1, f4, f5⟩
  · obtain ⟨o, es, ep, ho, r⟩ := hm
    exact ⟨o, es, ep, k _ o (fun z => (hf _ z).2.1 rfl) ho, r⟩
  · by_cases hb : b = T
    · subst hb; rw [upd_same] at e; cases e; exact new
    · rw [upd_ne hb] at e
      refine (I.hok b u e).stay (fun c v hc q => k c v ?_ q) (fun c q => by rw [upd_ne (ne_of_none q hn)]; exact q) fun c xs q => by rw [upd_ne (ne_of_none q hn)]; exact q
      rcases hc with z | z
      · rw [z]; exact nit b u e
      · exact nit c _ z
theorem Inv.turnedL (I : Inv X pins σ H s) (k : ∀ b o, b ∉ wr → s.heap.get? b = some o → h'.get? b = some o) (hf : ∀ b ∈ wr, FpOk X pins H b) : Inv X pins σ H { s with heap := h', toks := t' } := by
  have nit : ∀ b u, H b = some u → b ∉ wr := fun b u e z => by rw [(hf b z).1] at e; cases e
  refine I.step (g' := s.gens) (d' := s.drawn) (ch := wr) (fun b hb => ?_) (fun b o _ _ hc e _ => k b o hc e) (fun b o _ _ hc e _ => ⟨o.slots, k b o hc e⟩) (fun b o _ e n => n)
    (fun b o hc e => ⟨o, k b o hc e⟩) (fun b ys e => e) (fun b _ _ e => e) (fun b ps e => ⟨#[], by rw [e]; simp⟩) (fun m hm => ?_) (fun b u e => ?_) I.bare
  · obtain ⟨_, f1, _, f3, f4, f5⟩ := hf b hb
    exact ⟨f3, f1, f4, f5⟩
  · obtain ⟨o, es, ep, ho, r⟩ := hm
    exact ⟨o, es, ep, k _ o (fun z => (hf _ z).2.1 rfl) ho, r⟩
  · refine (I.hok b u e).stay (fun c v hc q => k c v ?_ q) (fun _ q => q) fun _ _ q => q
    rcases hc with z | z
    · rw [z]; exact nit b u e
    · exact nit c _ z
end
def Ite (a : Addr) : It :=
  ⟨fun i H => ∃ xs x, H a = some (.lst xs) ∧ xs[i]? = some x, fun i H x H' => ∃ (T : Addr) (v : V), x = .ref T ∧ H T = none ∧ H' = upd H T (.tup [.int (i : Int), v]) ∧ ∀ xs, H a = some (.lst xs) → xs[i]? = some v, fun i H => ∃ xs, H a = some (.lst xs) ∧ xs.length = i⟩
def iEnum (ta : TA) : TI := fun σ H R => ta σ H fun vs H1 => ∃ (a : Addr) (xs : List V), vs = [.ref a] ∧ H1 a = some (.lst xs) ∧ R (Ite a) H1
section
variable {X : Cx} {elts : List Expr} {k : Nat} {tp : Pos}
end
def Itz (a b : Addr) : It :=
  ⟨fun i H => ∃ xs ys x y, H a = some (.lst xs) ∧ H b = some (.lst ys) ∧ xs[i]? = some x ∧ ys[i]? = some y,
   fun i H z H' => ∃ (T : Addr) (x y : V), z = .ref T ∧ H T = none ∧ H' = upd H T (.tup [x, y]) ∧ ∀ xs ys, H a = some (.lst xs) → H b = some (.lst ys) → xs[i]? = some x ∧ ys[i]? = some y,
   fun i H => ∃ xs ys, H a = some (.lst xs) ∧ H b = some (.lst ys) ∧ min xs.length ys.length = i⟩
def iZip (ta : TA) : TI := fun σ H R => ta σ H fun vs H1 => ∃ (a b : Addr) (xs ys : List V), vs = [.ref a, .ref b] ∧ H1 a = some (.lst xs) ∧ H1 b = some (.lst ys) ∧ R (Itz a b) H1
section
variable {X : Cx} {elts : List Expr} {k : Nat} {tp : Pos}
end
end L2
namespace Mr
open PySem L2
def Ah (n i t : Nat) (x y : Nat) : Prop := x < y ∧ y ≤ n ∧ (x < i ∨ (x = i ∧ y < i + 1 + t))
def BestV (l : List Nat) (S : Nat → Nat → Prop) (H : Hp) (v : V) : Prop := (v = .non ∧ ∀ x y, S x y → ¬ PalI l x y) ∨ ∃ (p : Addr) (x y : Nat), v = .ref p ∧ H p = some (.tup [.int (x : Int), .int (y : Int)]) ∧ BestSo l S x y
section
variable {K : PySem.W.Frag}
end
end Mr
namespace L2
open PySem PySem.Spec PyProof.Rows
structure CompNamesL (X : Cx) (scope : Scope) (cl : List (Str × Addr)) (xs : List Str) (ys : List Str) (ix : List Nat) : Prop where
  clos : closureFor scope X.env = pure cl
  cell : (scope.names.all fun y => !(y.2 == NameKind.cell)) = true
  kind : scope.kind = .function
  names : (scope.names.all fun y => !(y.2 == NameKind.local) || scope.names.lookup y.1 == some NameKind.local) = true
  nd : (xs ++ ys).Nodup
  sub : SubOk X cl
  has : ((relabel scope X.env).names.all fun p => !(p.2 == NameKind.cell || p.2 == NameKind.free) || (cl.lookup p.1).isSome) = true
  free : FreeOk X scope cl ys ix
def cstL (k : Nat) (ix : List Nat) (σ : St) : St := List.replicate k none ++ ix.map fun j => (σ[j]?).getD none
def cstV (vs : List V) (ix : List Nat) (σ : St) : St := vs.map some ++ ix.map fun j => (σ[j]?).getD none
section
variable {X : Cx} {scope : Scope} {cl : List (Str × Addr)} {xs ys : List Str} {ix : List Nat}
theorem CompNamesL.sub' (n : CompNamesL X scope cl xs ys ix) : ∀ y c, cl.lookup y = some c → X.env.cells.lookup y = some c := fun y c e => n.sub.mem (y, c) (lookup_mem e)
theorem CompNamesL.has' (n : CompNamesL X scope cl xs ys ix) : ∀ y, ((relabel scope X.env).names.lookup y = some .cell ∨ (relabel scope X.env).names.lookup y = some .free) → ∃ c, cl.lookup y = some c := fun y h => by
  have : ∃ k : NameKind, (y, k) ∈ (relabel scope X.env).names ∧ (k = .cell ∨ k = .free) := by
    rcases h with h | h
    · exact ⟨_, lookup_mem h, .inl rfl⟩
    · exact ⟨_, lookup_mem h, .inr rfl⟩
  obtain ⟨k, hm, hk⟩ := this
  have q := List.all_eq_true.mp n.has (y, k) hm
  have : (k == NameKind.cell || k == NameKind.free) = true := by
    rcases hk with rfl | rfl <;> decide
  simp only [this, Bool.not_true, Bool.false_or] at q
  exact Option.isSome_iff_exists.mp q
theorem CompNamesL.cell' (n : CompNamesL X scope cl xs ys ix) : ∀ y ∈ scope.names, y.2 ≠ .cell := fun y hy e => by
  have q := List.all_eq_true.mp n.cell y hy
  rw [e] at q
  exact absurd q (by decide)
theorem CompNamesL.names' (n : CompNamesL X scope cl xs ys ix) : ∀ y ∈ scope.names, y.2 = .local → scope.names.lookup y.1 = some .local := fun y hy e => by
  have q := List.all_eq_true.mp n.names y hy
  rw [e] at q
  have z : (NameKind.local == NameKind.local) = true := by decide
  simp only [z, Bool.not_true, Bool.false_or] at q
  exact eq_of_beq q
theorem turns_go {prog : Program} {w : World} {A : Around} {s : Shared} {elt target iter : Expr} {ifs : List Expr} {sc : Scope} {pos : Pos} {it acc : Value} {env : Env} {R : Result → Shared → Prop} (I : Nat → Shared → Prop)
    (turn : ∀ n s, I n s → wpAny (model prog w) A (pyNext it) (fun r s1 => match r with | none => R (.ok .next) s1 | some v => wpAny (model prog w) A (letOwnedTupleGo target it v) (fun _ s0 => wpAny (model prog w) A (assign target env v) (fun _ s2 => wpAny (model prog w) A (forIn ifs true fun c r => if r = true then do let ok ← isTrue c env (eval c env); pure (ForInStep.yield ok) else pure (ForInStep.yield r)) (fun ok s3 => if ok = true then wpAny (model prog w) A (eval elt env) (fun x s4 => wpAny (model prog w) A (call (.builtin "list.append") [acc, x]) (fun _ s5 => ∃ m, m < n ∧ I m s5) (notedBy (model prog w) A env fun e s' => R (.error e) s') s4) (notedBy (model prog w) A env fun e s' => R (.error e) s') s3 else ∃ m, m < n ∧ I m s3) (notedBy (model prog w) A env fun e s' => R (.error e) s') s2) (notedBy (model prog w) A env fun e s' => R (.error e) s') s0) (notedBy (model prog w) A env fun e s' => R (.error e) s') s1) (notedBy (model prog w) A env fun e s' => R (.error e) s') s)
    (n : Nat) (h : I n s) : codeAny (model prog w) A (.compLoop (.ListComp elt [⟨target, iter, ifs, 0⟩] sc pos) 0 it acc env) R s := by
  refine codeAny_loop rfl I (fun n s hI => ?_) n h
  show wpAny _ A ((compTurn (.ListComp elt [⟨target, iter, ifs, 0⟩] sc pos) 0 it acc env).onRaise (fun x => do noteFrame x env; theTreesLotGoes x)) _ _ s
  refine wpAny_noted ?_
  rw [compTurn_list]
  refine wpAny_bind (wpAny_standAt (wpAny_bind (thn (turn n s hI) fun r s1 h1 => ?_)))
  cases r with
  | none => exact wpAny_pure h1
  | some v =>
    refine wpAny_bind (thn h1 fun _ s0 h0 => wpAny_bind (thn h0 fun _ s2 h2 => wpAny_bind (thn h2 fun ok s3 h3 => ?_)))
    cases ok with
    | false => exact wpAny_pure ⟨rfl, h3⟩
    | true => exact wpAny_bind (wpAny_bind (thn h3 fun x s4 h4 => wpAny_bind (thn h4 fun _ s5 h5 => wpAny_pure (wpAny_pure ⟨rfl, h5⟩))))
def tCompL (K : PySem.W.Frag) (k : Nat) (wi : TI) (ix : List Nat) (tt : TT) (te : TE) : TE := fun σ H Q => wi σ H fun J H1 => ∃ W : Nat → Nat → List V → Hp → Prop, (∃ m, W 0 m [] H1) ∧ ∀ i m ys H2, W i m ys H2 →
  (J.stop i H2 ∧ ys.length ≤ sizeLine ∧ ∀ p, H2 p = none → Q (.ref p) (upd H2 p (.lst ys))) ∨
  (J.go i H2 ∧ ys.length ≤ sizeLine ∧ ∀ x H3, J.yld i H2 x H3 → ∃ (a : Addr) (vs : List V), x = .ref a ∧ SqT K H3 a vs ∧ vs.length = k ∧ tt (cstV vs ix σ) H3 fun b H4 =>
    if b = true then te (cstV vs ix σ) H4 fun v H5 => ∃ m', m' < m ∧ W (i + 1) m' (ys ++ [v]) H5 else ∃ m', m' < m ∧ W (i + 1) m' ys H4)
theorem cmp_startL {pins : List (Addr × Obj)} {σ : St} {H : Hp} {s : Shared} {fp : List Addr} {D C : Addr} {h₁ : Heap} {tk : Nat} {ob : Obj} {m : Str → Option Value} (n : CompNamesL X scope cl xs ys ix) (I : Inv X pins σ H s)
    (f : ∀ b ∈ fp, FpOk X pins H b) (fo : ∀ b ∈ fp, b < s.heap.objs.size) (hD : s.heap.objs.size ≤ D) (hC : s.heap.objs.size ≤ C) (hDC : D ≠ C) (old : ∀ b o, s.heap.get? b = some o → h₁.get? b = some o) (hns : h₁.Ns C m) (hob : h₁.get? D = some ob)
    (hcell : ∀ v, ob.data ≠ .cell v) : Inv (cmpCx X (xs ++ ys) scope cl C fp s H) [(D, ob)] (cstL xs.length ix σ) H { s with heap := h₁, toks := tk } := by
  have nst : ∀ b, s.heap.objs.size ≤ b → b ∉ frs X.stack := fun b hb z => by
    rcases List.mem_cons.mp (I.stkSub b z) with e | e
    · exact absurd (Nat.lt_of_lt_of_le I.lt (by rw [← e]; exact hb)) (Nat.lt_irrefl _)
    · exact I.nofs hb e
  have lt_cell : ∀ y c, cl.lookup y = some c → c < s.heap.objs.size := fun y c e => by
    obtain ⟨v, q⟩ := I.cell y c (n.sub' y c e)
    exact q.lt
  refine ⟨⟨I.ok.mod, n.kind, I.ok.glob, I.ok.blt, hC, fun y z c h1 h2 => I.ok.inj y z c (n.sub' y c h1) (n.sub' z c h2), n.has', (fun y c h => absurd (show false = true from h) (by decide)), I.ok.hd, I.ok.frames, .inl rfl, fun b hb => ⟨?_, fun y c e => ?_⟩, I.bs,
    Nat.le_trans I.ok.bsz I.sz, fun b o e hb => ?_, fun b hb z => ?_, I.stack, I.stkFree⟩, rfl, I.bare, Un.kept old, ⟨m, hns, fun i y v h1 h2 h3 => ?_⟩, fun y c e => ?_, I.hok.fresh hC, fun y c e => I.freeC y c (n.sub' y c e), fun p hp => ?_, I.hok.kept old, ?_⟩
  · exact Nat.ne_of_lt (Nat.lt_of_lt_of_le (fo b hb) hC)
  · exact (f b hb).2.2.2.2.1 y c (n.sub' y c e)
  · rcases (f b hb).2.2.2.1 with z | z
    · exact I.ok.noex b o e z
    · exact absurd (Nat.lt_of_lt_of_le (Heap.lt_size e) (Nat.le_trans I.ok.bsz z)) (Nat.lt_irrefl _)
  · rcases List.mem_cons.mp (I.stkSub b z) with e | e
    · exact (f b hb).2.1 e
    · exact (f b hb).2.2.1 e
  · by_cases hi : i < xs.length
    · have h2' : (cstL xs.length ix σ)[i]? = some (some v) := h2
      unfold cstL at h2'
      rw [List.getElem?_append_left (by simpa using hi), List.getElem?_replicate, if_pos hi] at h2'
      cases Option.some.inj h2'
    · obtain ⟨j, rfl⟩ : ∃ j, i = xs.length + j := ⟨i - xs.length, by omega⟩
      have h1' : ys[j]? = some y := by
        have h1'' : (xs ++ ys)[xs.length + j]? = some y := h1
        rw [List.getElem?_append_right (by omega)] at h1''
        simpa using h1''
      obtain ⟨i, e1, e2, e3, e4, e5⟩ := n.free.at j y h1'
      have h2' : (ix.map fun j => (σ[j]?).getD none)[j]? = some (some v) := by
        have h2'' : (cstL xs.length ix σ)[xs.length + j]? = some (some v) := h2
        unfold cstL at h2''
        rw [List.getElem?_append_right (by simp)] at h2''
        simpa using h2''
      rw [List.getElem?_map, e1] at h2'
      have h2'' : (σ[i]?).getD none = some v := Option.some.inj h2'
      have h4 : σ[i]? = some (some v) := by
        cases q : σ[i]? with
        | none => rw [q] at h2''; cases h2''
        | some o => rw [q] at h2''; exact congrArg some h2''
      obtain ⟨m', hn', hl⟩ := I.loc
      obtain ⟨u, r, look⟩ := hl i y v e2 h4 (.inr (.inl e3))
      refine ⟨u, r, .inr ⟨.inl e5, ?_⟩⟩
      rcases look with ⟨k, _⟩ | ⟨_, c, e, z⟩
      · rw [e3] at k; cases k
      · refine ⟨c, e4.trans e, ?_⟩
        obtain ⟨o, ho, hd⟩ := z
        exact ⟨o, old _ _ ho, hd⟩
  · obtain ⟨v, o, ho, hd⟩ := I.cell y c (n.sub' y c e)
    exact ⟨v, o, old _ _ ho, hd⟩
  · have hp' : p ∈ [(D, ob)] := hp
    have e := List.mem_singleton.mp hp'
    subst e
    exact ⟨hob, I.hok.fresh hD, hDC, nst D hD, hcell⟩
  · show (cstL xs.length ix σ).length = (xs ++ ys).length
    simp [cstL, n.free.len]
theorem pe_compL {elt iter : Expr} {elts ifs : List Expr} {kt : Nat} {px pos : Pos} {wi : TI} {gs : TGs} {tt : TT} {te : TE} (n : CompNamesL X scope cl xs ys ix) (hc : X.calm = true) (hi : PI X (.Tuple elts kt px) iter wi)
    (hg : ∀ C fp s H, PG (cmpCx X (xs ++ ys) scope cl C fp s H) (.Tuple elts kt px) (gTup X.K xs.length gs)) (hgs : ∀ (vs : List V) (cs : St) (H : Hp) (Q : St → Hp → Prop), vs.length = xs.length → Q (vs.map some ++ cs) H → gs vs (List.replicate xs.length none ++ cs) H Q)
    (ht : ∀ C fp s H, PTs (cmpCx X (xs ++ ys) scope cl C fp s H) ifs tt) (he : ∀ C fp s H, PE (cmpCx X (xs ++ ys) scope cl C fp s H) elt te)
    (hs : ∀ x, foldedSetIterable iter X.env x = pure x := by intro _; rfl) : PE X (.ListComp elt [⟨.Tuple elts kt px, iter, ifs, 0⟩] scope pos) (tCompL X.K xs.length wi ix tt te) := by
  intro pins s σ H Q I h
  rw [eval_ListComp]
  refine wpAny_comprehension_free (use := none) rfl hs n.clos n.kind n.names' (thn (hi pins s σ H _ I h) fun v s1 h1 => thn h1 fun itv s2 h2 => ?_)
  obtain ⟨it, fp, tn, J, H2, e, I2, T, st2, f2, W, ⟨m0, w0⟩, turn⟩ := h2
  subst e
  have fo : ∀ b ∈ fp, b < s2.heap.objs.size := fun b hb => let ⟨_, e, _⟩ := T.obj _ _ st2 b hb; Heap.lt_size e
  refine wpAny_newObj_type (wpAny_newFunctionEnv n.cell' (by intro y hy; simp at hy) (fun h₁ hns₁ hsb₁ => ?_) n.kind)
  dsimp only at hns₁ hsb₁ ⊢
  generalize hH3 : s2.heap.push { cls := .type "list", dict := none, data := .seq ([] : List Value).toArray } = G at hns₁ hsb₁ ⊢
  have hC : G.objs.size = s2.heap.objs.size + 1 := by rw [← hH3, Heap.size_push]
  have hDC : s2.heap.objs.size ≠ G.objs.size := by rw [hC]; exact Nat.ne_of_lt (Nat.lt_succ_self _)
  have hCle : s2.heap.objs.size ≤ G.objs.size := by rw [hC]; exact Nat.le_succ _
  have below : ∀ b, b < s2.heap.objs.size → b ≠ G.objs.size ∧ b ≠ s2.heap.objs.size := fun b hb => ⟨by rw [hC]; exact Nat.ne_of_lt (Nat.lt_succ_of_lt hb), Nat.ne_of_lt hb⟩
  have old : ∀ b o, s2.heap.get? b = some o → h₁.get? b = some o := fun b o e => hsb₁.extBut b o (below b (Heap.lt_size e)).1 (Heap.get?_push_of_some _ (hH3 ▸ Heap.get?_push_of_some _ e))
  have hacc : h₁.get? s2.heap.objs.size = some { cls := .type "list", data := .seq ([] : List Value).toArray 0 } := hsb₁.extBut _ _ hDC (Heap.get?_push_of_some _ (hH3 ▸ Heap.get?_push_size _ rfl))
  have st1 : tn 0 h₁ := T.keep _ _ _ st2 fun b _ o e => old b o e
  have stat : ∀ {H' : Hp} {ob : Obj}, (∀ b ∈ fp, H' b = none) → ∀ b ∈ fp, FpOk (cmpCx X (xs ++ ys) scope cl G.objs.size fp s2 H2) [(s2.heap.objs.size, ob)] H' b := fun {H' ob} hn b hb =>
    ⟨hn b hb, (below b (fo b hb)).1, fun z => by
      rcases List.mem_cons.mp (I2.stkSub b z) with e | e
      · exact (f2 b hb).2.1 e
      · exact (f2 b hb).2.2.1 e, .inl hb, fun y c e => (f2 b hb).2.2.2.2.1 y c (n.sub' y c e), fun p hp => by
      have hp' : p ∈ [(s2.heap.objs.size, ob)] := hp
      have e := List.mem_singleton.mp hp'
      subst e
      exact Ne.symm (below b (fo b hb)).2⟩
  have hfin : ∀ (s4 : Shared) (H3 : Hp) (zs : List V) (its : List Value) (k : Nat) (m' : Str → Option Value), Inv (cmpCx X (xs ++ ys) scope cl G.objs.size fp s2 H2) [(s2.heap.objs.size, { cls := .type "list", data := .seq its.toArray k })] (cstL xs.length ix σ) H3 s4 → Vals zs its →
      zs.length ≤ sizeLine → (∀ p, H3 p = none → Q (.ref p) (upd H3 p (.lst zs))) → compPost (model X.prog X.w) X.A X.xe none (EP X pins σ Q) (.ref s2.heap.objs.size) G.objs.size (.ok .next) s4 := by
    intro s4 H3 zs its k m' I4 rv hz q
    obtain ⟨m4, hn4, _⟩ := I4.loc
    refine ⟨m4, hn4, fun h' hs' => ?_⟩
    obtain ⟨eD, nD, _, _, _⟩ := I4.pin (s2.heap.objs.size, { cls := .type "list", data := .seq its.toArray k }) (by show _ ∈ [] ++ [_]; simp)
    have nC : H3 G.objs.size = none := I4.free
    have kp : ∀ b o, b ≠ G.objs.size → s4.heap.get? b = some o → h'.get? b = some o := fun b o hb e => hs'.extBut b o hb e
    have hok : HOk X.prog X.w (upd H3 s2.heap.objs.size (.lst zs)) h' := fun b u e => by
      by_cases hb : b = s2.heap.objs.size
      · subst hb
        rw [upd_same] at e
        cases e
        exact ⟨hz, its, k, rv, kp _ _ hDC eD⟩
      · rw [upd_ne hb] at e
        exact (I4.hok b u e).stay (fun c w hc qq => kp c w (by
          rcases hc with z | z
          · intro y; rw [y] at z; rw [← z, nC] at e; cases e
          · exact ne_of_none z nC) qq) (fun c qq => by rw [upd_ne (ne_of_none qq nD)]; exact qq) fun c xs qq => by rw [upd_ne (ne_of_none qq nD)]; exact qq
    have un : Un (frs X.stack) fp H2 (upd H3 s2.heap.objs.size (.lst zs)) s2.heap h' := by
      have u4 : Un (frs X.stack) fp H2 H3 s2.heap s4.heap := I4.base
      refine ⟨fun b o e nn hb hx => kp b o (below b (Heap.lt_size e)).1 (u4.keep b o e nn hb hx), fun b o e nn hb hx => ?_, fun b o e nn hx => ?_, fun b o e hx => ?_, fun b xs e => ?_, fun b o u e => ?_, fun b ps e => ?_⟩
      · obtain ⟨sl, e1⟩ := u4.slot b o e nn hb hx
        exact ⟨sl, kp _ _ (below b (Heap.lt_size e)).1 e1⟩
      · rw [upd_ne (below b (Heap.lt_size e)).2]
        exact u4.free b o e nn hx
      · obtain ⟨o', e1⟩ := u4.there b o e hx
        exact ⟨o', kp _ _ (below b (Heap.lt_size e)).1 e1⟩
      · have z := u4.tups b xs e
        rw [upd_ne (ne_of_none z nD)]
        exact z
      · have z := u4.frzs b o u e
        rw [upd_ne (ne_of_none z nD)]
        exact z
      · obtain ⟨more, z⟩ := u4.tbls b ps e
        exact ⟨more, by rw [upd_ne (ne_of_none z nD)]; exact z⟩
    exact ⟨.ref s2.heap.objs.size, upd H3 s2.heap.objs.size (.lst zs), I2.call' (s' := { s4 with heap := h' }) (ch := fp) I4.os un hok I4.bare (fun b hb => ⟨(f2 b hb).2.2.2.1, (f2 b hb).2.1, (f2 b hb).2.2.2.2.1, (f2 b hb).2.2.2.2.2⟩), rfl, q _ nD⟩
  have loop : ∀ s₃ : Shared, s₃ = { s2 with heap := h₁, toks := s2.toks + ([] : List (Str × Value)).length } →
      codeAny (model X.prog X.w) X.A (.compLoop (.ListComp elt [⟨.Tuple elts kt px, iter, ifs, 0⟩] scope pos) 0 (.ref it) (.ref s2.heap.objs.size) (compEnvC scope cl G.objs.size X.env))
        (compPost (model X.prog X.w) X.A X.xe none (EP X pins σ Q) (.ref s2.heap.objs.size) G.objs.size) s₃ := by
    rintro s₃ rfl
    refine turns_go (fun m s' => ∃ (i : Nat) (zs : List V) (its : List Value) (k : Nat) (H' : Hp),
        Inv (cmpCx X (xs ++ ys) scope cl G.objs.size fp s2 H2) [(s2.heap.objs.size, { cls := .type "list", data := .seq its.toArray k })] (cstL xs.length ix σ) H' s' ∧ Vals zs its ∧ tn i s'.heap ∧ (∀ b ∈ fp, H' b = none) ∧ W i m zs H') ?_ m0
      ⟨0, [], [], 0, H2, cmp_startL n I2 f2 fo (Nat.le_refl _) hCle hDC old hns₁ hacc (fun v z => by cases z), .nil, st1, fun b hb => (f2 b hb).1, w0⟩
    rintro m s3 ⟨i, zs, its, k, H3, I3, rv, st3, fr3, w3⟩
    rcases turn i m zs H3 w3 with ⟨stop, hz, qn⟩ | ⟨go, hz, step⟩
    · refine nof (thn (T.done (cmpCx X (xs ++ ys) scope cl G.objs.size fp s2 H2) rfl rfl rfl hc i _ s3 _ H3 _ I3 (stat fr3) st3 stop) fun r s4 ⟨hr, I4⟩ => ?_)
      subst hr
      exact hfin s4 H3 zs its k (fun _ => none) I4 rv hz qn
    · refine nof (thn (T.item (cmpCx X (xs ++ ys) scope cl G.objs.size fp s2 H2) rfl rfl rfl hc i _ s3 _ H3 _ I3 (stat fr3) st3 go) fun r s4 ⟨u, hr, h4⟩ => ?_)
      subst hr
      have go_on : ∀ {s5 s7 : Shared} {vs : List V} {H5 H7 : Hp}, vs.length = xs.length → (∀ b ∈ fp, H5 b = none) → tn (i + 1) s5.heap → Inv (cmpCx X (xs ++ ys) scope cl G.objs.size fp s2 H2) ([(s2.heap.objs.size, { cls := .type "list", data := .seq its.toArray k })] ++ pinsAt fp s5.heap) (cstV vs ix σ) H7 s7 →
          Inv (cmpCx X (xs ++ ys) scope cl G.objs.size fp s2 H2) [(s2.heap.objs.size, { cls := .type "list", data := .seq its.toArray k })] (cstL xs.length ix σ) H7 s7 ∧ tn (i + 1) s7.heap ∧ (∀ b ∈ fp, H7 b = none) := by
        intro s5 s7 vs H5 H7 hvl fr5 st5 I7
        have pn : ∀ b o, b ∈ fp → s5.heap.get? b = some o → s7.heap.get? b = some o ∧ H7 b = none := fun b o hb e => by
          have z := I7.pin (b, o) (List.mem_append_right _ (List.mem_append_right _ (mem_pinsAt hb e)))
          exact ⟨z.1, z.2.1⟩
        refine ⟨(I7.weak (σ' := cstL xs.length ix σ) (by simp [cstL, cstV, hvl]) fun j v e => ?_).unpinned, T.keep _ _ _ st5 fun b hb o e => (pn b o hb e).1, fun b hb => ?_⟩
        · unfold cstL at e
          unfold cstV
          by_cases hj : j < xs.length
          · rw [List.getElem?_append_left (by simpa using hj), List.getElem?_replicate, if_pos hj] at e
            cases Option.some.inj e
          · rw [List.getElem?_append_right (by simp; omega)] at e ⊢
            simpa [hvl] using e
        · obtain ⟨o, e, _⟩ := T.obj _ _ st5 b hb
          exact (pn b o hb e).2
      refine nof (thn h4 fun _ s5 ⟨y, H5, I5, r5, y5, st5, fr5⟩ => ?_)
      have I5' := I5.pinned (stat fr5) (T.obj _ _ st5)
      obtain ⟨a, vs, e1, hq, hvl, q5⟩ := step y _ y5
      subst e1
      refine nof (thn (hg _ _ _ _ _ s5 _ H5 (.ref a) u (fun σ' H' => σ' = cstV vs ix σ ∧ H' = H5) I5' r5 ⟨a, vs, rfl, hq, hvl, hgs vs _ _ _ hvl ⟨rfl, rfl⟩⟩) fun _ s6 ⟨σ6, H6, I6, e6, e6'⟩ => ?_)
      subst e6 e6'
      refine nof (thn (ht _ _ _ _ _ s6 _ _ _ I6 q5) fun b s7 ⟨H7, I7, q7⟩ => ?_)
      cases b with
      | false =>
        rw [if_neg (by decide)] at q7 ⊢
        obtain ⟨m', hm, w7⟩ := q7
        obtain ⟨I8, st8, fr8⟩ := go_on hvl fr5 st5 I7
        exact ⟨m', hm, i + 1, zs, its, k, H7, I8, rv, st8, fr8, w7⟩
      | true =>
        rw [if_pos rfl] at q7 ⊢
        refine nof (thn (he _ _ _ _ _ s7 _ _ _ I7 q7) fun v8 s8 ⟨z8, H8, I8, r8, m', hm, w8⟩ => ?_)
        obtain ⟨I9, st9, fr9⟩ := go_on hvl fr5 st5 I8
        obtain ⟨eD, nD, neL, _, _⟩ := I9.pin (s2.heap.objs.size, { cls := .type "list", data := .seq its.toArray k }) (by show _ ∈ [] ++ [_]; simp)
        refine append_at eD (fun h' hs' hD' => ?_) (by rw [List.size_toArray, ← rv.length]; exact hz)
        have kp : ∀ b o, b ≠ s2.heap.objs.size → s8.heap.get? b = some o → h'.get? b = some o := fun b o hb e => hs'.extBut b o hb e
        have lt_cell : ∀ y c, cl.lookup y = some c → c ≠ s2.heap.objs.size := fun y c e => by
          obtain ⟨v, q⟩ := I2.cell y c (n.sub' y c e)
          exact Nat.ne_of_lt q.lt
        have nst : s2.heap.objs.size ∉ frs X.stack := fun z => by
          rcases List.mem_cons.mp (I2.stkSub _ z) with e | e
          · exact absurd (Nat.lt_of_lt_of_le I2.lt (by rw [← e]; exact Nat.le_refl _)) (Nat.lt_irrefl _)
          · exact I2.nofs (Nat.le_refl _) e
        have I10 : Inv (cmpCx X (xs ++ ys) scope cl G.objs.size fp s2 H2) [] (cstL xs.length ix σ) H8 { s8 with heap := h', toks := s8.toks } :=
          (I9.pins_of (pins' := []) fun p hp => absurd hp (by simp)).turned (it := s2.heap.objs.size) kp nD neL (.inr (Nat.le_refl _)) lt_cell fun p hp => absurd (show p ∈ ([] : List (Addr × Obj)) from hp) (by simp)
        refine ⟨m', hm, i + 1, zs ++ [z8], its ++ [v8], k + 1, H8, I10.pins_of fun p hp => ?_, rv.append (.cons r8 .nil), T.keep _ _ _ st9 fun b hb o e => kp b o (below b (fo b hb)).2 e, fr9, w8⟩
        have e := List.mem_singleton.mp hp
        subst e
        refine ⟨?_, nD, hDC, nst, fun v z => by cases z⟩
        rw [← List.push_toArray]
        exact hD'
  exact codeAny_compStart_list (loop _ rfl) (T.self X.A 0 _ _ _ st1 (loop _ rfl))
end
theorem gs2 (vs : List V) (cs : St) (H : Hp) (Q : St → Hp → Prop) (h : vs.length = 2) (q : Q (vs.map some ++ cs) H) : gCons (gName 0) (gCons (gName 1) gNil) vs (List.replicate 2 none ++ cs) H Q := by
  match vs, h with
  | [a, b], _ => exact ⟨a, [b], rfl, b, [], rfl, rfl, q⟩
end L2
namespace Mr
open PySem L2
end Mr
namespace Mr
def sufB (l : List Nat) (k : Nat) : Bool := decide (l.drop (l.length - k) = (l.drop (l.length - k)).reverse)
def moreB (l : List Nat) (c : Nat) (k : Nat) : Bool := decide (k < l.length ∧ l[l.length - k - 1]? = some c)
def dueN (l : List Nat) (c : Nat) : List Nat := ((endsN l).filter (moreB l c)).map (· + 2) ++ (if moreB l c 0 = true then [2] else []) ++ [1]
end Mr
namespace Mr
open PySem L2
def dueTo (l : List Nat) (c j : Nat) : List Nat := (((endsN l).take j).filter (moreB l c)).map (· + 2) ++ (if (endsN l).length < j ∧ moreB l c 0 = true then [2] else []) ++ (if (endsN l).length + 1 < j then [1] else [])
end Mr
namespace Mr
end Mr
namespace L2
open PySem PySem.Spec PyProof.Rows
theorem rev_pick (its : List Value) : slicePick its.toArray none none (some (-1)) = its.reverse.toArray := by
  unfold slicePick
  have e0 : sliceBounds none none (some (-1)) its.toArray.size = ((its.length : Int) - 1, -1, -1) := by rw [List.size_toArray]; rfl
  rw [e0]
  have e2 : sliceRange ((its.length : Int) - 1) (-1) (-1) = (List.range its.length).map fun (k : Nat) => its.length - 1 - k := by
    unfold sliceRange
    have e3 : (if (-1 : Int) > 0 then (if (its.length : Int) - 1 < -1 then (-1 - ((its.length : Int) - 1) + (-1) - 1) / (-1) else 0) else (if (its.length : Int) - 1 > -1 then ((its.length : Int) - 1 - (-1) - (-1) - 1) / (- -1) else 0)).toNat = its.length := by
      rw [if_neg (by decide)]
      have : (- -1 : Int) = 1 := by decide
      rw [this]
      split <;> (try simp only [Int.ediv_one]) <;> omega
    dsimp only
    rw [e3]
    apply List.map_congr_left
    intro m hm
    have := List.mem_range.mp hm
    omega
  dsimp only
  rw [e2]
  congr 1
  have ef : (fun (i : Nat) => its.toArray[i]?) = fun (i : Nat) => its[i]? := by funext i; simp
  rw [ef]
  have gen : ∀ ks : List Nat, (∀ k ∈ ks, k < its.length) → (ks.map fun (k : Nat) => its.length - 1 - k).filterMap (fun (i : Nat) => its[i]?) = ks.map fun (k : Nat) => (its[its.length - 1 - k]?).getD .none := by
    intro ks
    induction ks with
    | nil => intro _; rfl
    | cons k ks ih =>
      intro hk
      have hk' := hk k List.mem_cons_self
      have hlt : its.length - 1 - k < its.length := by omega
      rw [List.map_cons, List.map_cons, List.filterMap_cons_some (b := its[its.length - 1 - k]) (by simp [hlt]), ih fun j hj => hk j (List.mem_cons_of_mem _ hj)]
      simp [hlt]
  rw [gen _ fun k hk => List.mem_range.mp hk]
  apply List.ext_getElem?
  intro i
  by_cases h : i < its.length
  · rw [List.getElem?_map, List.getElem?_range h, List.getElem?_reverse h]
    have : its.length - 1 - i < its.length := by omega
    simp [this]
  · rw [List.getElem?_eq_none (by simpa using h), List.getElem?_eq_none (by simpa using h)]
theorem Vals.rev : ∀ {xs : List V} {us : List Value}, Vals xs us → Vals xs.reverse us.reverse
  | _, _, .nil => .nil
  | _, _, .cons r t => by
    rw [List.reverse_cons, List.reverse_cons]
    exact (Vals.rev t).append (.cons r .nil)
section
variable {X : Cx}
def tRevL (K : PySem.W.Frag) (te ts : TE) : TE := fun σ H Q => te σ H fun x H1 => ts σ H1 fun y H2 => ∃ a xs, x = .ref a ∧ y = .int (-1) ∧ SqL K H2 a xs ∧ ∀ p, H2 p = none → Q (.ref p) (upd H2 p (.lst xs.reverse))
theorem pe_revL {e st : Expr} {te ts : TE} {p2 pos : Pos} (he : PE X e te) (hst : PE X st ts) : PE X (.Subscript e (.Slice none none (some st) p2) pos) (tRevL X.K te ts) := by
  intro pins s σ H Q I h
  refine Subscript_ (thn (he pins s σ H _ I h) fun v s1 ⟨x, H1, I1, r1, q1⟩ => ?_)
  refine wpAny_Slice ?_
  rw [evalPart_none]
  refine wpAny_pure ?_
  refine wpAny_pure ?_
  rw [evalPart_some]
  refine thn (hst pins s1 σ H1 _ I1 q1) fun w s2 ⟨y, H2, I2, r2, q2⟩ => ?_
  obtain ⟨a, xs, rfl, rfl, hq, q⟩ := q2
  cases r1
  obtain ⟨u, rfl⟩ := r2
  have I3 : Inv X pins σ H2 { s2 with heap := s2.heap.push { cls := .type "slice", data := .fields #[.none, .none, .int (-1) u] } } := I2.kept (t' := s2.toks) fun b ob q => Heap.get?_push_of_some _ q
  show wpAny (model X.prog X.w) X.A (subscriptTail e (.Slice none none (some st) p2) (.ref a) (.ref s2.heap.objs.size)) (EP X pins σ Q) X.xe { s2 with heap := s2.heap.push { cls := .type "slice", data := .fields #[.none, .none, .int (-1) u] } }
  obtain ⟨its, r, ht, hz⟩ := I3.list hq
  have hlen := r.length
  refine tail_any (ops := [.ref a, .ref s2.heap.objs.size]) ht.isList.typeIs slot_list_getitem.lookup ?_ (by with_unfolding_all rfl)
  refine wpAny_getItem_list_slice ht.isList ⟨_, Heap.get?_push_size _ rfl, rfl, rfl⟩ .none .none (IsPart.int (-1) u) (by decide) ?_ (by rw [List.size_toArray] <;> omega)
  rw [rev_pick]
  refine ⟨.ref _, _, I3.laid (t' := s2.toks) (o := .lst xs.reverse) (fun b ob q => Heap.get?_push_of_some _ q) (Nat.le_refl _) ?_, rfl, q _ (I3.hok.fresh (Nat.le_refl _))⟩
  exact ⟨by rw [List.length_reverse]; exact hz, _, 0, r.rev, Heap.get?_push_size _ rfl⟩
theorem op_isnotB : OpR X (compareOp .IsNot) (fun x y H Q => ∃ a b, x = .bl a ∧ y = .bl b ∧ Q (.bl (!(a == b))) H) := by
  intro pins s σ H x y v u Q I rx ry h
  obtain ⟨a, b, rfl, rfl, q⟩ := h
  cases rx
  cases ry
  refine wpAny_isNot_plain (by cases a <;> cases b <;> rfl) ⟨.bl (!(a == b)), H, I, ?_, q⟩
  cases a <;> cases b <;> rfl
end
end L2
namespace Mr
open PySem L2
def spSame : Sp := fun vs H Q _ => ∃ (x : V) (n : Int), vs = [x, .int n] ∧ Scal x ∧ Q (.bl (decide (x = .int n))) H
def spAreL : Sp := fun vs H Q _ => ∃ (p : Addr) (xs : List V) (l : List Nat), vs = [.ref p, .str (tx l)] ∧ rowL l = true ∧ H p = some (.lst xs) ∧ (∀ x ∈ xs, Scal x) ∧ ∀ H', Same H H' → Q (.bl (decide (xs = lensV (reachesN l)))) H'
def spOpp : Sp := fun vs H Q _ => ∃ (p : Addr) (l : List Nat) (m : Nat), vs = [.str (tx l), .ref p, .int (m : Int)] ∧ l.length ≤ 200 ∧ m + 1 < 2 * l.length ∧ H p = some (.lst (lensV (reachesN l))) ∧ Q (.bl true) H
theorem scal2 {i j : Int} : ∀ y ∈ [V.int i, V.int j], Scal y := fun y hy => by
  rcases List.mem_cons.mp hy with rfl | hy
  · trivial
  · rw [List.mem_singleton.mp hy]; trivial
end Mr
namespace L2
open PySem
theorem Df.imp {P : Program} {w : World} {K : PySem.W.Frag} {mg : Str → Option Value} {base : Heap} {k : Nat} {x : Str} {ps : List Str} {sp sp' : Sp} (d : Df P w K mg base k x ps sp) (h : ∀ vs H Q E, sp' vs H Q E → sp vs H Q E) : Df P w K mg base k x ps sp' :=
  let ⟨f, fd, F, b⟩ := d.ex
  ⟨f, fd, F.imp h, b⟩
end L2
namespace Mr
open PySem L2
def NoInt (K : PySem.W.Frag) (H : Hp) (x : V) : Prop := wholeV x = false ∧ ∃ t, TyOf K H x t ∧ PySem.W.kitOne K t (.type "int") = some false
theorem NoInt.same {K : PySem.W.Frag} {H H' : Hp} {x : V} (s : Same H H') (h : NoInt K H x) : NoInt K H' x := let ⟨e, t, a, b⟩ := h; ⟨e, t, TyOf.same s a, b⟩
def spWholeG (K : PySem.W.Frag) : Sp := fun vs H Q _ => ∃ x, vs = [x] ∧ (Scal x ∨ NoInt K H x) ∧ Q (.bl (wholeV x)) H
def NoMid (K : PySem.W.Frag) (l : List Nat) (H : Hp) (x : V) : Prop := (Scal x ∨ NoInt K H x) ∧ ∀ m : Nat, x = .int (m : Int) → ¬ m + 1 < 2 * l.length
def spReachX (K : PySem.W.Frag) (C : Addr) : Sp := fun vs H Q E => ∃ (l : List Nat) (x : V), vs = [.str (tx l), x] ∧ rowL l = true ∧
  ((∃ m : Nat, x = .int (m : Int) ∧ m + 1 < 2 * l.length ∧ ∀ H', Same H H' → Q (.int ((reachN l m : Nat) : Int)) H') ∨ (NoMid K l H x ∧ ∀ H', Same H H' → E (.ref C) none H'))
def spReach1 : Sp := fun vs H Q _ => ∃ (l : List Nat) (m : Nat), vs = [.str (tx l), .int (m : Int)] ∧ rowL l = true ∧ m + 1 < 2 * l.length ∧ ∀ H', Same H H' → Q (.int ((reachN l m : Nat) : Int)) H'
def spToldM (K : PySem.W.Frag) : Sp := fun vs H Q _ => ∃ (l : List Nat) (x : V), vs = [.str (tx l), x] ∧ rowL l = true ∧ NoMid K l H x ∧ ∀ H', Same H H' → Q (.str "middle") H'
end Mr
namespace Mr
open PySem L2
end Mr
namespace L2
open PySem PySem.Spec PyProof.Rows PySem.SeqAt PySem.MeetsSeq
def DSame (H : Hp) : Nat → V → V → Prop
  | 0, x, y => flatV x = true ∧ x = y
  | n + 1, x, y => (flatV x = true ∧ x = y) ∨ (∃ p q xs ys, x = .ref p ∧ y = .ref q ∧ H p = some (.lst xs) ∧ H q = some (.lst ys) ∧ xs.length = ys.length ∧ ∀ (j : Nat) (u v : V), xs[j]? = some u → ys[j]? = some v → DSame H n u v) ∨
    (∃ p q xs ys, x = .ref p ∧ y = .ref q ∧ H p = some (.tup xs) ∧ H q = some (.tup ys) ∧ xs.length = ys.length ∧ ∀ (j : Nat) (u v : V), xs[j]? = some u → ys[j]? = some v → DSame H n u v)
theorem Room.units2 {k : Nat} {A : Around} (r : Room k A) : A.units + 1 + 1 < cLine := by have := r.un; omega
section
variable {X : Cx} {pins : List (Addr × Obj)} {σ : St} {H : Hp} {s : Shared}
def rNeD (n : Nat) : R2 := fun x y H Q => ∃ p q xs ys, x = .ref p ∧ y = .ref q ∧ H p = some (.lst xs) ∧ H q = some (.lst ys) ∧ xs.length = ys.length ∧ (∀ (j : Nat) (u v : V), xs[j]? = some u → ys[j]? = some v → DSame H n u v) ∧ Q (.bl false) H
def rNil (neg : Bool) : R2 := fun x y H Q => ∃ p q xs, x = .ref p ∧ y = .ref q ∧ H p = some (.lst xs) ∧ H q = some (.lst []) ∧ Q (.bl (if neg then !xs.isEmpty else xs.isEmpty)) H
def rInsert0 : V → List V → Hp → VK → Prop := fun x vs H Q => ∃ l xs y, x = .ref l ∧ vs = [.int 0, y] ∧ H l = some (.lst xs) ∧ xs.length < sizeLine ∧ Q .non (upd H l (.lst (y :: xs)))
def Itv (a : Addr) (xs : List V) : It :=
  ⟨fun i H => i < xs.length ∧ H a = some (.lst xs), fun i H x H' => H' = H ∧ xs[xs.length - 1 - i]? = some x, fun i H => i = xs.length⟩
def iRev (ta : TA) : TI := fun σ H R => ta σ H fun vs H1 => ∃ (a : Addr) (xs : List V), vs = [.ref a] ∧ H1 a = some (.lst xs) ∧ R (Itv a xs) H1
end
end L2
namespace Mr
open PySem L2
abbrev Gp := Int × Int × Int
def hd0 : List Int → Int
  | [] => 0
  | a :: _ => a
def stepsI : List Int → List Int
  | [] => []
  | a :: r => (a - hd0 r) :: stepsI r
def merge (x : Gp) : List Gp → List Gp
  | [] => [x]
  | y :: t => if y.2.1 = x.2.1 then (x.1, x.2.1, x.2.2 + y.2.2) :: t else x :: y :: t
def dueG : List Int → List Gp
  | [] => []
  | a :: r => merge (a, a - hd0 r, 1) (dueG r)
def turnG (acc : List Gp) (l s : Int) : List Gp :=
  match acc.getLast? with
  | some g => if g.2.1 = s then acc.dropLast ++ [(g.1, s, g.2.2 + 1)] else acc ++ [(l, s, 1)]
  | none => [(l, s, 1)]
def runG : List Gp → List Int → List Gp
  | acc, [] => acc
  | acc, a :: r => runG (turnG acc a (a - hd0 r)) r
def toG (ls : List Int) (i : Nat) : List Gp := (List.range i).foldl (fun acc j => turnG acc ((ls[j]?).getD 0) (((stepsI ls)[j]?).getD 0)) []
def Fall (ls : List Int) : Prop := (∀ l ∈ ls, 0 < l) ∧ ∀ (i : Nat) (a b : Int), ls[i]? = some a → ls[i + 1]? = some b → b < a
def gpV (g : Gp) : HO := .tup [.int g.1, .int g.2.1, .int g.2.2]
def GrpsV (H : Hp) (xs : List V) (gs : List Gp) : Prop := xs.length = gs.length ∧ ∀ (j : Nat) (x : V) (g : Gp), xs[j]? = some x → gs[j]? = some g → ∃ p : Addr, x = .ref p ∧ H p = some (gpV g)
end Mr
namespace Mr
open PySem L2
theorem bt_dict : bootBuiltins "dict" = some (.type "dict") := by decide +kernel
def posV : V → Bool
  | .int i => decide (0 < i)
  | _ => false
def spAreLen (K : PySem.W.Frag) : Sp := fun vs H Q _ => ∃ x, vs = [x] ∧ ((∃ t, TyOf K H x t ∧ PySem.W.kitOne K t (.type "list") = some false ∧ ∀ H', Same H H' → Q (.bl false) H') ∨
  ∃ (p : Addr) (xs : List V), x = .ref p ∧ H p = some (.lst xs) ∧ xs.length ≤ 1000 ∧ (∀ y ∈ xs, Scal y ∨ NoInt K H y) ∧ (∀ ls : List Int, xs = ls.map V.int → Fall ls → ∀ H', Same H H' → Q (.bl true) H') ∧ ((¬ ∃ ls : List Int, xs = ls.map V.int ∧ Fall ls) → ∀ H', Same H H' → Q (.bl false) H'))
def spSteps : Sp := fun vs H Q _ => ∃ (p : Addr) (ls : List Int), vs = [.ref p] ∧ H p = some (.lst (ls.map V.int)) ∧ ls.length ≤ 1000 ∧ ∀ (p' : Addr) (H' : Hp), H p' = none → H' p' = some (.lst ((stepsI ls).map V.int)) → Same H H' → Q (.ref p') H'
def spGroupsX (K : PySem.W.Frag) (C : Addr) : Sp := fun vs H Q E => ∃ x, vs = [x] ∧ ((∃ (p : Addr) (ls : List Int), x = .ref p ∧ H p = some (.lst (ls.map V.int)) ∧ ls.length ≤ 1000 ∧ Fall ls ∧ ∀ (p' : Addr) (H' : Hp) (xs : List V), H p' = none → H' p' = some (.lst xs) → GrpsV H' xs (dueG ls) → Same H H' → Q (.ref p') H') ∨
  ((∃ t, TyOf K H x t ∧ PySem.W.kitOne K t (.type "list") = some false) ∧ ∀ H', Same H H' → E (.ref C) none H') ∨
  (∃ (p : Addr) (xs : List V), x = .ref p ∧ H p = some (.lst xs) ∧ xs.length ≤ 1000 ∧ (∀ y ∈ xs, Scal y ∨ NoInt K H y) ∧ (¬ ∃ ls : List Int, xs = ls.map V.int ∧ Fall ls) ∧ ∀ H', Same H H' → E (.ref C) none H'))
def spGroups : Sp := fun vs H Q _ => ∃ (p : Addr) (ls : List Int), vs = [.ref p] ∧ H p = some (.lst (ls.map V.int)) ∧ ls.length ≤ 1000 ∧ Fall ls ∧ ∀ (p' : Addr) (H' : Hp) (xs : List V), H p' = none → H' p' = some (.lst xs) → GrpsV H' xs (dueG ls) → Same H H' → Q (.ref p') H'
end Mr
namespace Mr
open PySem L2
def spTakeB : Sp := fun vs H Q _ => ∃ (b : Addr) (n m : Int), vs = [.ref b, .int m] ∧ H b = some (.lst [.int n]) ∧ 0 ≤ n ∧ 0 < m ∧ m ≤ 10 ^ 40 ∧
  ∀ (d n' : Int) (H' : Hp), 0 ≤ d → d < m → 0 ≤ n' → H' b = some (.lst [.int n']) → But b H H' → Q (.int d) H'
def spLensD : Sp := fun vs H Q _ => ∃ (b : Addr) (n : Int), vs = [.ref b] ∧ H b = some (.lst [.int n]) ∧ 0 ≤ n ∧
  ∀ (p : Addr) (ls : List Int) (n' : Int) (H' : Hp), ls.length ≤ 1000 → Fall ls → H p = none → H' p = some (.lst (ls.map V.int)) → 0 ≤ n' → H' b = some (.lst [.int n']) → But b H H' → Q (.ref p) H'
def spDueG : Sp := fun vs H Q _ => ∃ (p : Addr) (ls : List Int), vs = [.ref p] ∧ H p = some (.lst (ls.map V.int)) ∧ ls.length ≤ 1000 ∧
  ∀ (p' : Addr) (H' : Hp) (xs : List V), H p' = none → H' p' = some (.lst xs) → GrpsV H' xs (dueG ls) → Same H H' → Q (.ref p') H'
end Mr
namespace L2
open PySem PySem.Spec PyProof.Rows
mutual
inductive RdV (H : Hp) : V → PyData → Prop
  | non : RdV H .non .none
  | bl (b : Bool) : RdV H (.bl b) (.bool b)
  | int (i : Int) : RdV H (.int i) (.int i)
  | str (z : Str) : RdV H (.str z) (.str z)
  | lst {p : Addr} {xs : List V} {ds : List PyData} : H p = some (.lst xs) → RdVs H xs ds → RdV H (.ref p) (.list ds)
  | tup {p : Addr} {xs : List V} {ds : List PyData} : H p = some (.tup xs) → RdVs H xs ds → RdV H (.ref p) (.tuple ds)
inductive RdVs (H : Hp) : List V → List PyData → Prop
  | nil : RdVs H [] []
  | cons {x : V} {d : PyData} {xs : List V} {ds : List PyData} : RdV H x d → RdVs H xs ds → RdVs H (x :: xs) (d :: ds)
end
mutual
theorem RdV.mono {H H' : Hp} (s : Same H H') : ∀ {x : V} {d : PyData}, RdV H x d → RdV H' x d
  | _, _, .non => .non
  | _, _, .bl b => .bl b
  | _, _, .int i => .int i
  | _, _, .str z => .str z
  | _, _, .lst h r => .lst (s _ _ h) (RdVs.mono s r)
  | _, _, .tup h r => .tup (s _ _ h) (RdVs.mono s r)
theorem RdVs.mono {H H' : Hp} (s : Same H H') : ∀ {xs : List V} {ds : List PyData}, RdVs H xs ds → RdVs H' xs ds
  | _, _, .nil => .nil
  | _, _, .cons a b => .cons (RdV.mono s a) (RdVs.mono s b)
end
section
variable {X : Cx} {pins : List (Addr × Obj)} {σ : St} {H : Hp} {s : Shared}
mutual
theorem RdV.reads (I : Inv X pins σ H s) : ∀ {x : V} {d : PyData} {u : Value}, RdV H x d → RelV x u → (∃ as, Reads s.heap u d as) ∧ d.hasDict = false
  | _, _, _, .non, r => by cases r; exact ⟨⟨_, .none⟩, by simp only [PyData.hasDict]⟩
  | _, _, _, .bl b, r => by cases r; exact ⟨⟨_, .bool b⟩, by simp only [PyData.hasDict]⟩
  | _, _, _, .int i, r => by obtain ⟨t, rfl⟩ := r; exact ⟨⟨_, .int i t⟩, by simp only [PyData.hasDict]⟩
  | _, _, _, .str z, r => by obtain ⟨t, rfl⟩ := r; exact ⟨⟨_, .str z t⟩, by simp only [PyData.hasDict]⟩
  | _, _, _, .lst h q, r => by
    cases r
    obtain ⟨_, its, n, rv, e⟩ := (show ObjOk X.prog X.w H s.heap _ (.lst _) from I.hok _ _ h)
    obtain ⟨⟨as, ra⟩, hd⟩ := RdVs.reads I q rv
    exact ⟨⟨_, .list e rfl rfl (by simpa using ra)⟩, by simp only [PyData.hasDict]; exact hd⟩
  | _, _, _, .tup h q, r => by
    cases r
    obtain ⟨_, its, rv, o, e, c, n, d⟩ := (show ObjOk X.prog X.w H s.heap _ (.tup _) from I.hok _ _ h)
    obtain ⟨⟨as, ra⟩, hd⟩ := RdVs.reads I q rv
    exact ⟨⟨_, .tuple e c d (by simpa using ra)⟩, by simp only [PyData.hasDict]; exact hd⟩
theorem RdVs.reads (I : Inv X pins σ H s) : ∀ {xs : List V} {ds : List PyData} {us : List Value}, RdVs H xs ds → Vals xs us → (∃ as, ReadsAll s.heap us ds as) ∧ PyData.hasDictAll ds = false
  | _, _, _, .nil, r => by cases r; exact ⟨⟨_, .nil⟩, by simp only [PyData.hasDictAll]⟩
  | _, _, _, .cons a b, r => by
    cases r with
    | cons r1 r2 =>
      obtain ⟨⟨as, ra⟩, h1⟩ := RdV.reads I a r1
      obtain ⟨⟨bs, rb⟩, h2⟩ := RdVs.reads I b r2
      exact ⟨⟨_, .cons ra rb⟩, by simp only [PyData.hasDictAll, h1, h2, Bool.or_self]⟩
end
theorem bt_repr : bootBuiltins "repr" = some (.builtin "repr") := by decide +kernel
end
end L2
namespace L2
open PySem PySem.Spec PyProof.Rows
structure FnOkC (P : Program) (w : World) (K : PySem.W.Frag) (mg : Str → Option Value) (base : Heap) (CX : CXT) (k : Nat) (f : Addr) (fd : FuncData) (ps : List Str) (sp : Sp) : Prop where
  len : ∀ vs H Q E, sp vs H Q E → vs.length = ps.length
  run : ∀ (outer : List Env) (s : Shared) (H : Hp) (args : Args) (us : List Value) (vs : List V) (Q : VK) (E : XK), Room k callerA → Env0 P w K mg base callerA outer s H → BindsTo s fd args (ps.zip us) → Vals vs us → sp vs H Q E →
    codeAny (model P w) callerA (.call (.ref f) args) (CR CX outer P w H s Q E) s
theorem fn_ofC {CX : CXT} {P : Program} {w : World} {K : PySem.W.Frag} {mg : Str → Option Value} {base : Heap} {k : Nat} {f : Addr} {name qual : Str} {params : Arguments} {body : List Stmt} {scope : Scope} {dV kV doc pm cdv ct oc : Value} {an od : Option Addr}
    {osl : Array (Option Value)} {N ps : List Str} {sp : Sp} (lk : K.lookup f = some ⟨oc, od, .func (PySem.W.fnOf name qual params body scope dV kV doc pm an cdv ct), osl⟩) (hcd : PySem.W.codeIn K cdv qual = true) (S : FnScope N ps scope)
    (len : ∀ vs H Q E, sp vs H Q E → vs.length = ps.length)
    (hbody : ∀ (outer : List Env) (s : Shared) (H : Hp) (vs : List V) (Q : VK) (E : XK), Room k (callerA.deeper (envOfC qual scope s.heap.objs.size f cdv)) → sp vs H Q E →
      ∃ t, PSs (cxOf CX P w K mg base N qual scope f cdv callerA outer s H E) body t ∧ t { nx := fun _ H' => Q .non H', rt := Q } (start N vs) H) :
    FnOkC P w K mg base CX (k + 1) f (PySem.W.fnOf name qual params body scope dV kV doc pm an cdv ct) ps sp := by
  refine ⟨len, fun outer s H args us vs Q E hr e0 hb r hsp => ?_⟩
  have hl := len _ _ _ _ hsp
  have KX : K.In s.heap := e0.mod.kin.keeps fun b o e => (e0.bs b o e).1
  have lim : s.heap.NoLimit := e0.mod.nolimit.keeps fun b o e => (e0.bs b o e).1
  have hkind : ∀ y ∈ ps.zip us, scope.names.lookup y.1 = some .local ∨ (scope.names.lookup y.1 = some .cell ∧ ((cellsFrom (s.heap.objs.size + 1) scope.names []).lookup y.1).isSome = true) := fun ⟨n, v⟩ hy => by
    rcases S.par n (List.of_mem_zip hy).1 with q | q
    · exact .inl q
    · exact .inr ⟨q, PySem.W.cellsFrom_some _ _ _ (.inl q)⟩
  refine codeAny_call_function hr.depth (KX _ _ lk) rfl S.co S.gen rfl (PySem.W.codeRec_of KX hcd) (hb _ _ _ _ ?_)
  refine wpAny_newFunctionEnv_cells S.kind hkind fun env he s1 x => ?_
  subst he
  refine ⟨lim.keeps x.toInCall.keep, codeAny_func ?_⟩
  obtain ⟨t, ht, hq⟩ := hbody outer s H vs Q E (hr.deeper _) hsp
  have I : Inv (cxOf CX P w K mg base N qual scope f cdv callerA outer s H E) [] (start N vs) H s1 := inv_start S hr.hd e0 hl r x
  refine wpAny_mono (ht [] s1 (start N vs) H _ I hq) (fun fl s' hs => ?_) fun e s' hs => hs
  have fin : ∀ {σ' : St} {H' : Hp} {v : V} {u : Value}, Inv (cxOf CX P w K mg base N qual scope f cdv callerA outer s H E) [] σ' H' s' → RelV v u → Q v H' → CE outer P w H s Q u s' :=
    fun {σ' H' v u} J rv q => ⟨v, H', J.os, J.bare, J.base, J.hok, rv, q⟩
  cases fl with
  | ret u =>
    obtain ⟨v, σ', H', J, rv, q⟩ := hs
    exact fin J rv q
  | next =>
    obtain ⟨σ', H', J, q⟩ := hs
    exact fin (v := V.non) (u := Value.none) J rfl q
  | brk =>
    obtain ⟨_, _, _, q⟩ := hs
    exact False.elim q
  | cont =>
    obtain ⟨_, _, _, q⟩ := hs
    exact False.elim q
section
variable {P : Program} {w : World} {K : PySem.W.Frag} {mg : Str → Option Value} {base : Heap}
theorem Fun.okC {x qual : Str} {st : Stmt} {f : Addr} {fd : FuncData} {N ps : List Str} {k : Nat} {sp : Sp} (F : Fun K x qual st f fd) (S : FnScope N ps (defScope st)) (len : ∀ vs H Q E, sp vs H Q E → vs.length = ps.length)
    (hbody : ∀ (cdv : Value) (outer : List Env) (s : Shared) (H : Hp) (vs : List V) (Q : VK) (E : XK), Room k (callerA.deeper (envOfC qual (defScope st) s.heap.objs.size f cdv)) → sp vs H Q E →
      ∃ t, PSs (cxOf CX0 P w K mg base N qual (defScope st) f cdv callerA outer s H E).nox (defBody st) t ∧ t { nx := fun _ H' => Q .non H', rt := Q } (start N vs) H) : FnOkC P w K mg base CX0 (k + 1) f fd ps sp := by
  obtain ⟨oc, od, kV, doc, pm, an, cdv, ct, osl, rfl, lk, hcd⟩ := F.ex
  refine fn_ofC lk hcd S len fun outer s H vs Q E hr hsp => ?_
  obtain ⟨t, h, q⟩ := hbody cdv outer s H vs Q E hr hsp
  exact ⟨t, h.nox, q⟩
end
end L2
namespace Mr
open PySem L2
def topT (l : List Nat) (b : Nat) : List Nat := sub l (b - ((endsN (l.take b))[0]?).getD 0) b
def mirs (l : List Nat) : Nat → List (List Nat)
  | 0 => []
  | b + 1 => if topT l (b + 1) ∈ mirs l b then mirs l b else mirs l b ++ [topT l (b + 1)]
def EndsAt (l : List Nat) (c : Nat) (t : List Nat) : Prop := ∃ k, 1 ≤ k ∧ k ≤ c ∧ t = sub l (c - k) c ∧ PalI l (c - k) c
def inner (t : List Nat) : List Nat := (t.drop 1).take (t.length - 2)
def lessN (t : List Nat) : List Nat := t.take (((endsN t)[1]?).getD 0)
def idxO (ms : List (List Nat)) (x : List Nat) : Option Nat := if x ∈ ms then some (ms.idxOf x) else none
abbrev Ent := List Nat × Option Nat × Option Nat
def entT (ms : List (List Nat)) (t : List Nat) : Ent := (t, idxO ms (inner t), idxO ms (lessN t))
def treeN (l : List Nat) : List Ent := (mirs l l.length).map (entT (mirs l l.length))
end Mr
namespace L2
open PySem PySem.Spec PyProof.Rows PySem.SeqAt PySem.MeetsSeq
theorem Room.unitsD {k : Nat} {A : Around} (r : Room k A) : A.units + 1 < cLine := by have := r.un; omega
section
variable {X : Cx}
def isS (z : Str) : Value → Bool
  | .str c _ => c == z
  | _ => false
def rIndexS : V → List V → Hp → VK → Prop := fun x vs H Q => ∃ (l : Addr) (ts : List (List Nat)) (t : List Nat) (j : Nat), x = .ref l ∧ vs = [.str (tx t)] ∧ H l = some (.lst (ts.map fun t => V.str (tx t))) ∧ ts[j]? = some t ∧ (∀ m, m < j → ts[m]? ≠ some t) ∧ Q (.int (j : Nat)) H
end
end L2
namespace Mr
open PySem L2
def ReV {α : Type} (f : α → HO) (H : Hp) (xs : List V) (es : List α) : Prop := xs.length = es.length ∧ ∀ (j : Nat) (x : V) (e : α), xs[j]? = some x → es[j]? = some e → ∃ p : Addr, x = .ref p ∧ H p = some (f e)
def optV : Option Nat → V
  | none => .non
  | some i => .int (i : Int)
def entV (e : Ent) : HO := .tup [.str (tx e.1), optV e.2.1, optV e.2.2]
abbrev TreeV := ReV entV
def spTree : Sp := fun vs H Q _ => ∃ l : List Nat, vs = [.str (tx l)] ∧ rowL l = true ∧ ∀ (p : Addr) (xs : List V) (H' : Hp), H p = none → H' p = some (.lst xs) → TreeV H' xs (treeN l) → Same H H' → Q (.ref p) H'
def txV (ms : List (List Nat)) : List V := ms.map fun t => V.str (tx t)
def spMirs : Sp := fun vs H Q _ => ∃ l : List Nat, vs = [.str (tx l)] ∧ rowL l = true ∧ ∀ (p : Addr) (H' : Hp), H p = none → H' p = some (.lst (txV (mirs l l.length))) → Same H H' → Q (.ref p) H'
def NumD (H : Hp) (p : Addr) (ms : List (List Nat)) : Prop := ∃ kvs : List (Key × V), H p = some (.dK kvs) ∧ kvs.length ≤ 1000 + ms.length ∧ ∀ x, valV kvs (Sum.inr (tx x)) = (idxO ms x).map fun i => V.int (i : Int)
def entD (e : Ent) : PyData := .tuple [.str (tx e.1), (match e.2.1 with | none => .none | some i => .int (i : Int)), (match e.2.2 with | none => .none | some i => .int (i : Int))]
end Mr
namespace Mr
open PySem L2
def optD (o : Option Nat) : PyData := match o with | none => .none | some i => .int (i : Int)
def ShOk (d : PyData) (n w : Nat) : Prop := d.showable = true ∧ d.depth ≤ n ∧ d.leavesShort 13 = true ∧ d.weight ≤ w
def ShAll (ds : List PyData) (n w : Nat) : Prop := PyData.showableAll ds = true ∧ PyData.depthAll ds ≤ n ∧ PyData.leavesShortAll 13 ds = true ∧ PyData.weightAll ds ≤ w
end Mr
namespace L2
open PySem PySem.Spec PyProof.Rows
section
variable {X : Cx} {K : PySem.W.Frag} {o e : Expr} {es : List Expr} {to : TE} {t : TA} {name : Str} {apos cpos : Pos} {T id : String} {r : V → List V → Hp → VK → Prop}
end
end L2
namespace Mr
open PySem L2
def dueW (ms : List (List Nat)) (t : List Nat) : List Nat := (endsN t).map fun k => ms.idxOf (t.take k)
def stepW (ms : List (List Nat)) (t : List Nat) (i : Nat) : Option Nat := ((endsN t)[i]?).map fun k => ms.idxOf (t.take k)
def spNumX (K : PySem.W.Frag) (C : Addr) : Sp := fun vs H Q E => ∃ (l : List Nat) (x : V), vs = [.str (tx l), x] ∧ rowL l = true ∧
  ((∃ t : List Nat, x = .str (tx t) ∧ mirV x = true ∧ t.length ≤ 100000 ∧ ∀ H', Same H H' → Q (optV (idxO (mirs l l.length) t)) H') ∨ (Thing K H x ∧ mirV x = false ∧ ∀ H', Same H H' → E (.ref C) none H'))
def NoNum (K : PySem.W.Frag) (l : List Nat) (H : Hp) (x : V) : Prop := (Scal x ∨ NoInt K H x) ∧ ∀ m : Nat, x = .int (m : Int) → ¬ m < (mirs l l.length).length
def spWayX (K : PySem.W.Frag) (C : Addr) : Sp := fun vs H Q E => ∃ (l : List Nat) (x : V), vs = [.str (tx l), x] ∧ rowL l = true ∧
  ((∃ (j : Nat) (t : List Nat), x = .int (j : Int) ∧ (mirs l l.length)[j]? = some t ∧ ∀ (p : Addr) (H' : Hp), H p = none → H' p = some (.lst (lensV (dueW (mirs l l.length) t))) → Same H H' → Q (.ref p) H') ∨ (NoNum K l H x ∧ ∀ H', Same H H' → E (.ref C) none H'))
def spTold17 (K : PySem.W.Frag) : Sp := fun vs H Q _ => ∃ (k : Int) (l : List Nat) (x : V), vs = [.int k, .str (tx l), x] ∧ rowL l = true ∧
  ((k = 0 ∧ ((∃ t : List Nat, x = .str (tx t) ∧ mirV x = true ∧ t.length ≤ 100000 ∧ ∀ H', Same H H' → Q (optV (idxO (mirs l l.length) t)) H') ∨ (Thing K H x ∧ mirV x = false ∧ ∀ H', Same H H' → Q (.str "mirror") H'))) ∨
   (k = 1 ∧ ((∃ (j : Nat) (t : List Nat), x = .int (j : Int) ∧ (mirs l l.length)[j]? = some t ∧ ∀ (p : Addr) (H' : Hp), H p = none → H' p = some (.lst (lensV (dueW (mirs l l.length) t))) → Same H H' → Q (.ref p) H') ∨ (NoNum K l H x ∧ ∀ H', Same H H' → Q (.str "number") H'))))
def Abz (l : List Nat) : Prop := ∀ c ∈ l, c = 97 ∨ c = 98 ∨ c = 122
def spClosedP : Sp := fun vs H Q _ => ∃ (l : List Nat), vs = [.str (tx l)] ∧ l.length ≤ 10000 ∧ ∀ (m : List Nat) (H' : Hp), (∀ c ∈ m, c ∈ l) → m.length ≤ 2 * l.length → m = m.reverse → (l ≠ [] → m ≠ []) → Same H H' → Q (.str (tx m)) H'
def spClosedZ : Sp := fun vs H Q _ => ∃ (l : List Nat), vs = [.str (tx l)] ∧ Abz l ∧ l.length ≤ 10000 ∧ ∀ (m : List Nat) (H' : Hp), Abz m → m.length ≤ 2 * l.length → Same H H' → Q (.str (tx m)) H'
def spRowZ : Sp := fun vs H Q _ => ∃ (b : Addr) (n most : Int), vs = [.ref b, .int most] ∧ H b = some (.lst [.int n]) ∧ 0 ≤ n ∧ 0 ≤ most ∧ most ≤ 1000 ∧
  ∀ (m : List Nat) (n' : Int) (H' : Hp), Abz m → (m.length : Int) ≤ most → 0 ≤ n' → H' b = some (.lst [.int n']) → But b H H' → Q (.str (tx m)) H'
def lensD (ks : List Nat) : PyData := .list (ks.map fun (k : Nat) => PyData.int (k : Int))
end Mr
namespace L2
open PySem PySem.Spec PyProof.Rows PySem.SeqAt PySem.MeetsSeq
section
variable {X : Cx}
theorem bt_sorted : bootBuiltins "sorted" = some (.builtin "sorted") := by decide +kernel
def rEndsS : V → List V → Hp → VK → Prop := fun x vs H Q => ∃ t u : List Nat, x = .str (tx t) ∧ vs = [.str (tx u)] ∧ u.length ≤ t.length ∧ u = t.drop (t.length - u.length) ∧ Q (.bl true) H
def rEqDL (n : Nat) : R2 := fun x y H Q => ∃ p q xs ys, x = .ref p ∧ y = .ref q ∧ H p = some (.lst xs) ∧ H q = some (.lst ys) ∧ ((xs.length = ys.length ∧ (∀ (j : Nat) (u v : V), xs[j]? = some u → ys[j]? = some v → DSame H n u v) ∧ Q (.bl true) H) ∨ (xs.length ≠ ys.length ∧ Q (.bl false) H))
end
end L2
namespace Mr
open PySem L2
end Mr
namespace Mr
open PySem L2
def spElder : Sp := fun vs H Q _ => ∃ o : Option Nat, vs = [optV o, optV o] ∧ Q (.bl true) H
def spEntry : Sp := fun vs H Q _ => ∃ (p q : Addr) (e : Ent), vs = [.ref p, .ref q] ∧ H p = some (entV e) ∧ H q = some (entV e) ∧ Q (.bl true) H
def spIsTree : Sp := fun vs H Q _ => ∃ (p : Addr) (xs : List V) (l : List Nat), vs = [.ref p, .str (tx l)] ∧ rowL l = true ∧ H p = some (.lst xs) ∧
  ((TreeV H xs (treeN l) ∧ ∀ H', Same H H' → Q (.bl true) H') ∨ (xs.length ≠ (treeN l).length ∧ ∀ H', Same H H' → Q (.bl false) H'))
def spEntryR : Sp := fun vs H Q _ => ∃ (p : Addr) (xs : List V) (l : List Nat) (j : Nat), vs = [.ref p, .int (j : Int)] ∧ rowL l = true ∧ H p = some (.lst xs) ∧ TreeV H xs (treeN l) ∧ j < (mirs l l.length).length ∧ ∀ H', Same H H' → Q (.bl true) H'
def spNum1 : Sp := fun vs H Q _ => ∃ (l t : List Nat), vs = [.str (tx l), .str (tx t)] ∧ rowL l = true ∧ mirV (.str (tx t)) = true ∧ t.length ≤ 100000 ∧ ∀ H', Same H H' → Q (optV (idxO (mirs l l.length) t)) H'
def spWay1 : Sp := fun vs H Q _ => ∃ (l : List Nat) (j : Nat) (t : List Nat), vs = [.str (tx l), .int (j : Int)] ∧ rowL l = true ∧ (mirs l l.length)[j]? = some t ∧ ∀ (p : Addr) (H' : Hp), H p = none → H' p = some (.lst (lensV (dueW (mirs l l.length) t))) → Same H H' → Q (.ref p) H'
end Mr
namespace L2
open PySem PySem.Spec PyProof.Rows
section
variable {X : Cx} {x : Str} {p pos : Pos} {e : Expr} {es : List Expr} {kws : List Keyword} {t tk : TA} {id : String} {ks : List Str} {r : List V → List V → Hp → VK → Prop}
def CallKR (X : Cx) (f : Value) (ks : List Str) (r : List V → List V → Hp → VK → Prop) : Prop :=
  ∀ (pins : List (Addr × Obj)) (s : Shared) (σ : St) (H : Hp) (xs zs : List V) (us ws : List Value) (Q : VK), Inv X pins σ H s → Vals xs us → Vals zs ws → r xs zs H Q → wpAny (model X.prog X.w) X.A (call f us (ks.zip ws)) (EP X pins σ Q) X.xe s
def tCBK (r : List V → List V → Hp → VK → Prop) (t tk : TA) : TE := fun σ H Q => t σ H fun vs H1 => tk σ H1 fun zs H2 => r vs zs H2 Q
def setOfI (ns : List Int) : List Int := firstMet (fun i => ns.getD i 0) ns.length
end
end L2
namespace Mr
open PySem L2
def Good : List Int → Prop
  | [] => True
  | a :: r => 0 < a ∧ hd0 r < a ∧ (r ≠ [] → hd0 r - hd0 r.tail ≤ a - hd0 r ∧ (hd0 r - hd0 r.tail < a - hd0 r → hd0 r + hd0 r.tail < a)) ∧ Good r
def castI (l : List Nat) : List Int := l.map fun k : Nat => (k : Int)
def lenG (g : Gp) : List Int := (List.range g.2.2.toNat).map fun k : Nat => g.1 - g.2.1 * (k : Int)
def lensG (gs : List Gp) : List Int := (gs.map lenG).flatten
def HdG (r : List Int) (D : List Gp) : Prop := match D with
  | [] => r = []
  | y :: _ => r ≠ [] ∧ y.1 = hd0 r ∧ y.2.1 = hd0 r - hd0 r.tail ∧ 1 ≤ y.2.2
def stepG (D : List Gp) : List Int := D.map (·.2.1)
def leastI : Nat → Int
  | 0 => 1
  | 1 => 3
  | n + 2 => leastI (n + 1) + leastI n + 1
end Mr
namespace L2
open PySem PySem.Spec PyProof.Rows
section
variable {X : Cx} {scope : Scope} {cl : List (Str × Addr)} {xs ys : List Str} {ix : List Nat}
end
end L2
namespace L2
open PySem PySem.Spec PyProof.Rows
end L2
namespace Mr
open PySem L2
def spLenG : Sp := fun vs H Q _ => ∃ (p : Addr) (xs : List V) (gs : List Gp), vs = [.ref p] ∧ H p = some (.lst xs) ∧ GrpsV H xs gs ∧ (lensG gs).length ≤ 1000 ∧ (∀ g ∈ gs, 1 ≤ g.2.2) ∧
  ∀ (p' : Addr) (H' : Hp), H p' = none → H' p' = some (.lst ((lensG gs).map V.int)) → Same H H' → Q (.ref p') H'
def leasts (k : Nat) : List V := ((List.range k).map leastI).map V.int
def spRight : Sp := fun vs H Q _ => ∃ (p : Addr) (ls : List Int), vs = [.ref p] ∧ H p = some (.lst (ls.map V.int)) ∧ Good ls ∧ ls.length ≤ 60 ∧ ∀ H', Same H H' → Q (.bl true) H'
end Mr
namespace L2
open PySem PySem.Spec PyProof.Rows PySem.SeqAt PySem.MeetsSeq
open PySem.AutoSeq1 (wpAny_loadPart')
theorem sub_int_dict' : isSubtype (.type "int") (.type "dict") = pure false := by rw [isSubtype_type]; kernel_rfl
theorem int_eq_declines_dict (b : Int) (u : Tok) (l : Addr) (es : Array DictEntry) (n : Nat) (dd : Option Addr) (sl : Array (Option Value)) :
    Meets (Builtin.«int.__eq__» ⟨[.int b u, .ref l], []⟩) (fun _ R s => s.heap.get? l = some { cls := .type "dict", dict := dd, data := .dict es n, slots := sl } ∧ R (.ok (.ret .notImplemented)) s) :=
  .of_wp fun prog w A R s h => by obtain ⟨hp, g, d, tk, os⟩ := s; obtain ⟨hl, h⟩ := h; wp_walk using wpAny_loadPart' hl, wpAny_load hl; exact ⟨_, rfl, h⟩
theorem rc_dict_int {A : Around} {s : Shared} {l : Addr} {o : Obj} {es : Array DictEntry} {n : Nat} (b : Int) (u : Tok) (hl : s.heap.get? l = some o) (hc : o.cls = .type "dict") (hd : o.data = .dict es n) (hu : A.units < cLine) : SeqAt.RcAt A s (.ref l) (.int b u) false := fun prog w E Q h => by
  obtain ⟨cls, dd, data, sl⟩ := o
  simp only at hc hd
  subst hc hd
  have tl : s.TypeIs (.ref l) "dict" := ⟨_, hl, rfl⟩
  refine rc_eq_decline_or (k := false) tl (typeIs_int s b u) (by decide) sub_int_dict' F.slot_dict_eq F.slot_int_eq_refl (fun Q' hq => ?_)
    (fun _ hq => call_meets F.slot_int_eq_refl (typeIs_int s b u) F.entry_int_eq (F.args_int_eq_2 _ _) (int_eq_declines_dict b u l es n dd sl) ⟨hl, hq⟩)
    (fun _ hq => wpAny_of_eq (rfl : isSame (.ref l) (.int b u) = pure false) hq) (.inr hu) h
  refine wpAny_call_entry PySem.F.slot_dict_eq tl PySem.F.entry_dict_eq ?_ (PySem.F.args_dict_eq_2 _ _)
  show wpAny _ _ (Builtin.Dict.dictSlotArgs "__eq__" ⟨[.ref l, .int b u], []⟩ >>= _) _ _ s
  refine wpAny_bind ?_
  unfold Builtin.Dict.dictSlotArgs
  refine wpAny_bind (wpAny_notOrdered_dict tl ?_)
  show wpAny _ _ (pure (Value.ref l, Value.int b u)) _ _ s
  refine wpAny_pure ?_
  refine wpAny_bind (wpAny_isInstance (T := "int") (typeIs_int s b u) sub_int_dict' ?_)
  simp only [Bool.not_false, if_true]
  exact wpAny_bind (wpAny_rule (wpAny_pure ⟨_, rfl, hq⟩))
theorem eq_dict_int {A : Around} {s : Shared} {l : Addr} {o : Obj} {es : Array DictEntry} {n : Nat} (b : Int) (u : Tok) (hl : s.heap.get? l = some o) (hc : o.cls = .type "dict") (hd : o.data = .dict es n) (hu : A.units < cLine) : SeqAt.EqAt A s (.ref l) (.int b u) false := fun prog w E Q h => by
  unfold eqBool
  refine wpAny_holding ?_
  refine wpAny_ite_split (fun hab => absurd (eq_of_beq hab) nofun) (fun _ => ?_)
  exact wpAny_bind (rc_dict_int b u hl hc hd hu prog w E _ (wpAny_truthy_bool h))
def eqN : V → Int → Bool
  | .int i, n => i == n
  | .bl b, n => (if b then 1 else 0) == n
  | _, _ => false
def Vs (H : Hp) (x : V) : Prop := match x with
  | .non => True
  | .bl _ => True
  | .int _ => True
  | .str _ => True
  | .ref p => (∃ xs, H p = some (.lst xs)) ∨ (∃ xs, H p = some (.tup xs)) ∨ ∃ kvs, H p = some (.dK kvs)
  | _ => False
section
variable {X : Cx} {pins : List (Addr × Obj)} {σ : St} {H : Hp} {s : Shared}
theorem Vs.at {A : Around} (I : Inv X pins σ H s) (hu : A.units < cLine) {x : V} {n : Int} {v u : Value} (h : Vs H x) (rx : RelV x v) (rn : RelV (.int n) u) : SeqAt.EqAt A s v u (eqN x n) := by
  obtain ⟨t, rfl⟩ := rn
  cases x with
  | non => cases rx; exact SeqAt.EqAt.none_int n t
  | bl b => cases rx; exact SeqAt.EqAt.bool_int b n t
  | int i => obtain ⟨k, rfl⟩ := rx; exact SeqAt.EqAt.int_int i k n t
  | str z => obtain ⟨k, rfl⟩ := rx; exact SeqAt.EqAt.str_int z k n t
  | ref p =>
    cases rx
    rcases h with ⟨xs, hp⟩ | ⟨xs, hp⟩ | ⟨kvs, hp⟩
    · obtain ⟨its, r1, p1, _⟩ := I.list (SqL.of (K := X.K) hp)
      exact SeqAt.EqAt.list_int n t p1.isList hu
    · obtain ⟨its, r1, p1, _⟩ := I.tuple (SqT.of (K := X.K) hp)
      exact SeqAt.EqAt.tuple_int n t (show s.heap.IsTuple p its.toArray from p1) hu
    · obtain ⟨_, _, vs, _, o, es, ep, h1, h2, h3, _⟩ := (show ObjOk X.prog X.w H s.heap p (.dK kvs) from I.hok p _ hp)
      exact eq_dict_int n t h1 h2.1 h3 hu
  | _ => exact h.elim
def eqNs (xs : List V) (ns : List Int) : Bool := decide (xs.length = ns.length) && (List.range xs.length).all fun j => eqN (xs.getD j .non) (ns.getD j 0)
def rEqN : R2 := fun x y H Q => ∃ p q xs ns, x = .ref p ∧ y = .ref q ∧ H p = some (.lst xs) ∧ H q = some (.lst (ns.map V.int)) ∧ (∀ x ∈ xs, Vs H x) ∧ Q (.bl (eqNs xs ns)) H
end
mutual
inductive RdW (H : Hp) : V → PyData → Prop
  | non : RdW H .non .none
  | bl (b : Bool) : RdW H (.bl b) (.bool b)
  | int (i : Int) : RdW H (.int i) (.int i)
  | str (z : Str) : RdW H (.str z) (.str z)
  | lst {p : Addr} {xs : List V} {ds : List PyData} : H p = some (.lst xs) → RdWs H xs ds → RdW H (.ref p) (.list ds)
  | tup {p : Addr} {xs : List V} {ds : List PyData} : H p = some (.tup xs) → RdWs H xs ds → RdW H (.ref p) (.tuple ds)
  | dic {p : Addr} {z : Str} {i : Int} : H p = some (.dK [(Sum.inr z, .int i)]) → RdW H (.ref p) (.dict [(.str z, .int i)])
inductive RdWs (H : Hp) : List V → List PyData → Prop
  | nil : RdWs H [] []
  | cons {x : V} {d : PyData} {xs : List V} {ds : List PyData} : RdW H x d → RdWs H xs ds → RdWs H (x :: xs) (d :: ds)
end
mutual
theorem RdW.mono {H H' : Hp} (s : Same H H') : ∀ {x : V} {d : PyData}, RdW H x d → RdW H' x d
  | _, _, .non => .non
  | _, _, .bl b => .bl b
  | _, _, .int i => .int i
  | _, _, .str z => .str z
  | _, _, .lst h r => .lst (s _ _ h) (RdWs.mono s r)
  | _, _, .tup h r => .tup (s _ _ h) (RdWs.mono s r)
  | _, _, .dic h => .dic (s _ _ h)
theorem RdWs.mono {H H' : Hp} (s : Same H H') : ∀ {xs : List V} {ds : List PyData}, RdWs H xs ds → RdWs H' xs ds
  | _, _, .nil => .nil
  | _, _, .cons a b => .cons (RdW.mono s a) (RdWs.mono s b)
end
section
variable {X : Cx} {pins : List (Addr × Obj)} {σ : St} {H : Hp} {s : Shared}
mutual
theorem RdW.reads (I : Inv X pins σ H s) : ∀ {x : V} {d : PyData} {u : Value}, RdW H x d → RelV x u → ∃ as, Reads s.heap u d as ∧ ∀ a ∈ as, H a ≠ none
  | _, _, _, .non, r => by cases r; exact ⟨_, .none, fun a h => by cases h⟩
  | _, _, _, .bl b, r => by cases r; exact ⟨_, .bool b, fun a h => by cases h⟩
  | _, _, _, .int i, r => by obtain ⟨t, rfl⟩ := r; exact ⟨_, .int i t, fun a h => by cases h⟩
  | _, _, _, .str z, r => by obtain ⟨t, rfl⟩ := r; exact ⟨_, .str z t, fun a h => by cases h⟩
  | _, _, _, .lst (p := p) h q, r => by
    cases r
    obtain ⟨_, its, n, rv, e⟩ := (show ObjOk X.prog X.w H s.heap _ (.lst _) from I.hok _ _ h)
    obtain ⟨as, ra, ha⟩ := RdWs.reads I q rv
    refine ⟨_, .list e rfl rfl (by simpa using ra), fun a hm => ?_⟩
    rcases List.mem_cons.mp hm with rfl | hm
    · rw [h]; simp
    · exact ha a hm
  | _, _, _, .tup h q, r => by
    cases r
    obtain ⟨_, its, rv, o, e, c, n, d⟩ := (show ObjOk X.prog X.w H s.heap _ (.tup _) from I.hok _ _ h)
    obtain ⟨as, ra, ha⟩ := RdWs.reads I q rv
    exact ⟨_, .tuple e c d (by simpa using ra), ha⟩
  | _, _, _, .dic (p := p) (z := z0) (i := i0) h, r => by
    cases r
    obtain ⟨_, _, vs, kv, o, es, ep, h1, h2, h3, _, h5, _⟩ := (show ObjOk X.prog X.w H s.heap _ (.dK _) from I.hok _ _ h)
    cases kv with
    | cons e1 e2 =>
      cases e2
      obtain ⟨e1, rv⟩ := e1
      cases hes : es.toList with
      | nil => rw [hes] at h5; cases h5
      | cons e0 er =>
        rw [hes] at h5
        cases h5 with
        | cons k1 k2 k3 =>
          cases k3
          obtain ⟨t2, e3⟩ := rv
          have k1' : keyIs (Sum.inr z0) e0.key = true := by rw [mixKind_is, ← e1] at k1; exact k1
          rcases keyIs_shape k1' with ⟨i, t, a, b⟩ | ⟨x, t, a, b⟩
          · cases a
          · cases a
            refine ⟨_, .dict (kvs := [(.str _, .int _)]) h1 h2.1 h3 (as := []) (bs := []) ?_ ?_, fun a hm => ?_⟩
            · rw [hes]
              show ReadsAll s.heap [e0.key] [.str _] []
              rw [b]
              exact .cons (as := []) (bs := []) (.str _ _) .nil
            · rw [hes]
              show ReadsAll s.heap [e0.val] [.int _] []
              rw [k2, e3]
              exact .cons (as := []) (bs := []) (.int _ _) .nil
            · have : a = p := by simpa using hm
              rw [this, h]; simp
theorem RdWs.reads (I : Inv X pins σ H s) : ∀ {xs : List V} {ds : List PyData} {us : List Value}, RdWs H xs ds → Vals xs us → ∃ as, ReadsAll s.heap us ds as ∧ ∀ a ∈ as, H a ≠ none
  | _, _, _, .nil, r => by cases r; exact ⟨_, .nil, fun a h => by cases h⟩
  | _, _, _, .cons a b, r => by
    cases r with
    | cons r1 r2 =>
      obtain ⟨as, ra, h1⟩ := RdW.reads I a r1
      obtain ⟨bs, rb, h2⟩ := RdWs.reads I b r2
      refine ⟨_, .cons ra rb, fun a hm => ?_⟩
      rcases List.mem_append.mp hm with hm | hm
      · exact h1 a hm
      · exact h2 a hm
end
theorem call_reprW (hg : X.A.guards = some []) (hu : X.A.units + 64 < cLine) (hm : ∃ o, X.base.get? sysModules = some o) : CallR X (.builtin "repr") (fun xs H Q => ∃ x d, xs = [x] ∧ RdW H x d ∧ d.showable = true ∧ d.depth ≤ 40 ∧ d.shown.length ≤ sizeLine ∧ Q (.str d.shown) H) := by
  intro pins s σ H xs us Q I r h
  obtain ⟨x, d, rfl, hr, hs, hdp, hz, q⟩ := h
  obtain ⟨u, rfl, ru⟩ := vals1 r
  obtain ⟨as, ra, ha⟩ := hr.reads I ru
  obtain ⟨o, ho⟩ := hm
  have hno : sysModules ∉ as := fun z => ha _ z (I.bs _ _ ho).2
  cases hr with
  | non =>
    cases ru
    simp only [PyData.shown] at q
    exact P.repr_of_none ⟨.str _, H, I.tok _, ⟨_, rfl⟩, q⟩
  | bl b =>
    cases ru
    simp only [PyData.shown] at q
    exact P.repr_of_bool ⟨.str _, H, I.tok _, ⟨_, rfl⟩, q⟩
  | int i =>
    obtain ⟨t, rfl⟩ := ru
    simp only [PyData.shown] at q
    exact P.repr_of_int (by simpa [PyData.showable] using hs) ⟨.str _, H, I.tok _, ⟨_, rfl⟩, q⟩
  | str z =>
    obtain ⟨t, rfl⟩ := ru
    simp only [PyData.shown] at q hz
    exact P.repr_of_str ⟨.str _, H, I.tok _, ⟨_, rfl⟩, q⟩ hz
  | lst h1 h2 =>
    cases ru
    exact repr_of_reads' ra hs (fun _ => hno) hg (by omega) (fun _ _ e => e) (fun h' tk t' hk => ⟨.str _, H, I.kept hk, ⟨_, rfl⟩, q⟩) hz
  | tup h1 h2 =>
    cases ru
    exact repr_of_reads' ra hs (fun _ => hno) hg (by omega) (fun _ _ e => e) (fun h' tk t' hk => ⟨.str _, H, I.kept hk, ⟨_, rfl⟩, q⟩) hz
  | dic h1 =>
    cases ru
    exact repr_of_reads' ra hs (fun _ => hno) hg (by omega) (fun _ _ e => e) (fun h' tk t' hk => ⟨.str _, H, I.kept hk, ⟨_, rfl⟩, q⟩) hz
theorem call_strI : CallR X (.type "str") (fun xs H Q => ∃ i : Int, xs = [.int i] ∧ i.natAbs.log2 < 1920 ∧ Q (.str (toString i : String)) H) := by
  intro pins s σ H xs us Q I r h
  obtain ⟨i, rfl, hs, q⟩ := h
  obtain ⟨u, rfl, t, rfl⟩ := vals1 r
  exact P.str_of_int hs ⟨.str _, H, I.tok _, ⟨_, rfl⟩, q⟩
end
theorem pa_cmp {X : Cx} {es : List Expr} {t : TA} {te : TE} {pos : Pos} {a : Expr} {ops : List CmpOp} {cs : List Expr} (e : PE X (.Compare a ops cs pos) te) (h : PA X es t) : PA X (.Compare a ops cs pos :: es) (tCons te t) := pa_cons e h rfl
end L2
namespace L2
open PySem PySem.Spec PyProof.Rows
theorem law_callD {P : Program} {w : World} {K : PySem.W.Frag} {mg mb : Str → Option Value} {CX : CXT} {k : Nat} {fa a : Addr} {fd : FuncData} {x : Str} {sp : Sp} {s₁ : Shared} {vs : List Value} {ns : List Int}
    (KX : K.In s₁.heap) (hns : s₁.heap.Ns mainGlobals mg) (hb : s₁.heap.Ns builtinsNs mb) (hbb : ∀ x : Str, x ≠ "__name__" → mb x = bootBuiltins x) (hlim : s₁.heap.NoLimit) {mm : Str → Option Value} (hsm : s₁.heap.Ns sysModules mm) (hg : s₁.gens = #[])
    (ha : s₁.heap.get? a = some { cls := .type "list", data := .seq vs.toArray }) (hi : IntsAre vs ns) (hl : ns.length ≤ sizeLine) (hr : Room k callerA)
    (F : ∀ base : Heap, K.In base → base.Ns mainGlobals mg → (∃ o, base.get? sysModules = some o) → FnOkC P w K mg base CX k fa fd [x] sp) (hbind : ∀ (s : Shared) (u : Value), BindsTo s fd ⟨[u], []⟩ [(x, u)])
    (hsp : ∀ H : Hp, Only H → SqL K H a (ns.map V.int) → sp [.ref a] H (fun v _ => v = .bl true) fun _ _ _ => False)
    (hCX : ∀ H e s', CX [] H s₁ (fun _ _ _ => False) e s' → False) :
    codeAny (model P w) callerA (.call (.ref fa) ⟨[.ref a], []⟩) (fun r s' => r = .ok (.ret (.bool true)) ∧ OldK s₁.heap s'.heap ∧ s'.os = s₁.os ∧ AllBare s'.gens) s₁ := by
  have rv := vals_ints hi
  have lenV := hi.length
  have core : ∀ H : Hp, Only H → SqL K H a (ns.map V.int) → HOk P w H s₁.heap → (∀ b, H b ≠ none → b = a) → (H a ≠ none → K.lookup a = none) →
      codeAny (model P w) callerA (.call (.ref fa) ⟨[.ref a], []⟩) (fun r s' => r = .ok (.ret (.bool true)) ∧ OldK s₁.heap s'.heap ∧ s'.os = s₁.os ∧ AllBare s'.gens) s₁ := by
    intro H hO hS hok hA hK
    have base_of : ∀ {b : Addr} {o : Obj}, s₁.heap.get? b = some o → H b = none → (hidT s₁.heap H).get? b = some o := fun e n => hidT_get e n
    have noA : ∀ {b : Addr} {o : Obj} {es : Array DictEntry} {ep : Nat}, s₁.heap.get? b = some o → o.data = .dict es ep → H b = none := fun {b o es ep} e d => by
      cases q : H b with
      | none => rfl
      | some u =>
        have e' : b = a := hA b (by rw [q]; simp)
        subst e'
        rw [ha] at e; cases e
        have d' : Data.seq vs.toArray _ = Data.dict es ep := d
        cases d'
    have nsK : ∀ {b : Addr} {m : Str → Option Value}, s₁.heap.Ns b m → (hidT s₁.heap H).Ns b m := fun {b m} ⟨o, es, ep, e, d, r⟩ => ⟨o, es, ep, base_of e (noA e d), d, r⟩
    have hKb : K.In (hidT s₁.heap H) := fun b o e => base_of (KX b o e) (by
      cases q : H b with
      | none => rfl
      | some u =>
        have e' : b = a := hA b (by rw [q]; simp)
        subst e'
        rw [hK (by rw [q]; simp)] at e; cases e)
    have hM : Mod K mg (hidT s₁.heap H) := ⟨hKb, nsK hns, ⟨mb, nsK hb, hbb⟩, let ⟨mc, h1, h2⟩ := hlim; ⟨mc, nsK h1, h2⟩⟩
    have e0 : Env0 P w K mg (hidT s₁.heap H) callerA [] s₁ H := ⟨rfl, hM, fun b o e => of_hidT e, Nat.le_of_eq (hidT_size _ _), trivial, fun b hb => absurd (show b ∈ ([] : List Addr) from hb) (by simp), hok, .of_eq hg⟩
    refine codeAny_mono ((F _ hKb (nsK hns) (let ⟨o, _, _, e, _⟩ := nsK hsm; ⟨o, e⟩)).run [] s₁ H ⟨[.ref a], []⟩ [.ref a] [.ref a] _ _ hr e0 (hbind s₁ (.ref a)) (.cons rfl .nil) (hsp H hO hS)) fun r s' h => ?_
    cases r with
    | error e => exact (hCX H e s' h).elim
    | ok fl =>
      cases fl with
      | next => exact False.elim h
      | brk => exact False.elim h
      | cont => exact False.elim h
      | ret u =>
        obtain ⟨v, H', os, bare, un, hok', r', q⟩ := h
        have q' : v = .bl true := q
        subst q'
        obtain rfl : u = Value.bool true := r'
        refine ⟨rfl, OldK.of_keep fun b o e => ?_, os, bare⟩
        cases q : H b with
        | none => exact un.keep b o e q (by intro z; exact absurd (show b ∈ ([] : List Addr) from z) (by simp)) (by simp)
        | some u =>
          rcases hO b with z | ⟨ob, xs, z⟩
          · rw [q] at z; cases z
          · have z2 := un.frzs b ob _ z
            obtain ⟨e1, _⟩ := hok b _ z
            obtain ⟨e2, _⟩ := hok' b _ z2
            rw [e] at e1; cases e1
            exact e2
  cases hk : K.lookup a with
  | some o =>
    have e := KX a o hk
    rw [ha] at e
    cases e
    refine core (fun _ => none) (fun _ => .inl rfl) (.inr ⟨_, vs.toArray, _, hk, rfl, rfl, rfl, by rw [List.size_toArray, lenV]; exact hl, by simpa using rv⟩) (fun b u z => by have z' : (none : Option HO) = some u := z; cases z') (fun b z => absurd rfl z) fun z => absurd rfl z
  | none =>
    refine core (fun b => if b = a then some (.frz { cls := .type "list", data := .seq vs.toArray } (.lst (ns.map V.int))) else none) (fun b => ?_) (.inl (.inr ⟨{ cls := .type "list", data := .seq vs.toArray }, if_pos rfl⟩)) (fun b u z => ?_) (fun b z => ?_) fun _ => hk
    · by_cases hb : b = a
      · exact .inr ⟨_, _, if_pos hb⟩
      · exact .inl (if_neg hb)
    · by_cases hb : b = a
      · have z' := (if_pos hb).symm.trans z
        cases z'
        subst hb
        exact ⟨ha, by rw [List.length_map]; exact hl, vs, _, rv, ha⟩
      · have z' := (if_neg hb).symm.trans z
        cases z'
    · by_cases hb : b = a
      · exact hb
      · exact absurd (if_neg hb) z
theorem walk_ofD {l : PySem.W.OpenLaw} {n k : Nat} {q : Program} {loose : List Str} {XP : (Str → Option Value) → Heap → Prop} {YP : World → Heap → Prop} {d : DefRec} {K : Params → PySem.W.Frag} {CX : World → CXT} {sp : World → Sp} {x : Str}
    (hn : l.most = some n) (hn2 : n ≤ sizeLine) (hdf : d.params.defaults = []) (hI : importsNone q = true) (hr : Room k callerA)
    (hY : ∀ (w : World) (h : Heap), YP w h → (K w.params).In h)
    (F : ∀ (w : World) (mg : Str → Option Value) (fa : Addr) (h : Heap), (K w.params).In h → h.Ns mainGlobals mg → mg d.name = some (.ref fa) →
      ∃ fd : FuncData, (∀ (s : Shared) (u : Value), BindsTo s fd ⟨[u], []⟩ [(x, u)]) ∧
        ∀ base : Heap, (K w.params).In base → base.Ns mainGlobals mg → (∃ o, base.get? sysModules = some o) → FnOkC l.prog w (K w.params) mg base (CX w) k fa fd [x] (sp w))
    (hsp : ∀ (w : World) (H : Hp) (a : Addr) (ns : List Int), ns.length ≤ n → Only H → SqL (K w.params) H a (ns.map V.int) → sp w [.ref a] H (fun v _ => v = .bl true) fun _ _ _ => False)
    (hCX : ∀ (w : World) (H : Hp) (s : Shared) (e : Value) (s' : Shared), CX w [] H s (fun _ _ _ => False) e s' → False) :
    PySem.W.WalkO q loose XP YP l.row.toRowW d [] (fun f vs => PySem.call f vs) := by
  refine Att.attach_call hn hdf fun w s₀ s₁ mg mb fa o pm cd doc a vs ns G Y ho hd hcd hmg hobj hints hlen hg => ?_
  have KX := hY w _ Y
  obtain ⟨fd, hb, hF⟩ := F w mg fa _ KX G.T.g hmg
  obtain ⟨mm, hsm, _⟩ := (G.T.seer hI).mods
  exact law_callD KX G.T.g G.T.b G.T.builtins G.T.nolimit hsm hg hobj hints (Nat.le_trans hlen hn2) hr hF hb (fun H hO hS => hsp w H a ns hlen hO hS) fun H e s' => hCX w H s₁ e s'
end L2
namespace Mr
open PySem L2
inductive Elt (H : Hp) : V → Prop
  | bl (b : Bool) : Elt H (.bl b)
  | int (i : Int) (h : i.natAbs < 10 ^ 40) : Elt H (.int i)
  | str (z : Str) (h : z.cps.size ≤ 300) (hc : (z.cps.toList.all fun c => decide (c < 16 ^ 8)) = true) : Elt H (.str z)
  | odd (x : V) (h : Odd H x) : Elt H x
inductive Thg (b : Addr) (H : Hp) : V → Prop
  | elt (x : V) (h : Elt H x) : Thg b H x
  | lst (p : Addr) (xs : List V) (hp : H p = some (.lst xs)) (hb : p ≠ b) (hl : xs.length ≤ 60) (he : ∀ x ∈ xs, Elt H x) : Thg b H (.ref p)
  | tup (p : Addr) (xs : List V) (hp : H p = some (.tup xs)) (hl : xs.length ≤ 60) (he : ∀ x ∈ xs, Elt H x) : Thg b H (.ref p)
def Sh2 (d : PyData) (n w : Nat) : Prop := d.showable = true ∧ d.depth ≤ n ∧ d.leavesShort 50 = true ∧ d.weight ≤ w
def Sh2s (ds : List PyData) (n w : Nat) : Prop := PyData.showableAll ds = true ∧ PyData.depthAll ds ≤ n ∧ PyData.leavesShortAll 50 ds = true ∧ PyData.weightAll ds ≤ w
theorem Sh2s.nil (n w : Nat) : Sh2s [] n w := ⟨by simp only [PyData.showableAll], by simp only [PyData.depthAll]; omega, by simp only [PyData.leavesShortAll], by simp only [PyData.weightAll]; omega⟩
theorem Sh2s.cons {d : PyData} {ds : List PyData} {n w v : Nat} (h : Sh2 d n w) (h' : Sh2s ds n v) : Sh2s (d :: ds) n (w + 1 + v) := by
  obtain ⟨a1, a2, a3, a4⟩ := h
  obtain ⟨b1, b2, b3, b4⟩ := h'
  exact ⟨by simp only [PyData.showableAll, a1, b1, Bool.and_self], by simp only [PyData.depthAll]; omega, by simp only [PyData.leavesShortAll, a3, b3, Bool.and_self], by simp only [PyData.weightAll]; omega⟩
theorem Sh2s.tup {ds : List PyData} {n w : Nat} (h : Sh2s ds n w) : Sh2 (.tuple ds) (n + 1) w := by
  obtain ⟨b1, b2, b3, b4⟩ := h
  exact ⟨by simp only [PyData.showable]; exact b1, by simp only [PyData.depth]; omega, by simp only [PyData.leavesShort]; exact b3, by simp only [PyData.weight]; exact b4⟩
theorem Sh2s.lst {ds : List PyData} {n w : Nat} (h : Sh2s ds n w) : Sh2 (.list ds) (n + 1) w := by
  obtain ⟨b1, b2, b3, b4⟩ := h
  exact ⟨by simp only [PyData.showable]; exact b1, by simp only [PyData.depth]; omega, by simp only [PyData.leavesShort]; exact b3, by simp only [PyData.weight]; exact b4⟩
theorem Sh2.size {d : PyData} {n w : Nat} (h : Sh2 d n w) (hw : w ≤ 300000) : d.shown.length ≤ sizeLine := by
  have := PyData.shown_le 50 (by decide) d h.2.2.1
  have := h.2.2.2
  have e : (50 + 2) * d.weight ≤ 52 * 300000 := Nat.mul_le_mul_left 52 (by omega)
  rw [sizeLine_eq]; omega
theorem Sh2.mono {d : PyData} {n w m v : Nat} (h : Sh2 d n w) (h1 : n ≤ m) (h2 : w ≤ v) : Sh2 d m v := ⟨h.1, Nat.le_trans h.2.1 h1, h.2.2.1, Nat.le_trans h.2.2.2 h2⟩
theorem sh_int {i : Int} (h : i.natAbs < 10 ^ 40) : Sh2 (.int i) 0 150 := by
  have h2 : i.natAbs.log2 < 140 := by
    by_cases h0 : i.natAbs = 0
    · rw [h0]; decide
    · exact (Nat.log2_lt h0).mpr (Nat.lt_of_lt_of_le h (by decide))
  refine ⟨by simp only [PyData.showable]; exact decide_eq_true (by omega), by simp only [PyData.depth]; omega, ?_, ?_⟩
  · simp only [PyData.leavesShort]
    apply decide_eq_true
    have e := int_text_length_le10 (k := 40) (by decide) h
    show (Str.ofString (toString i)).length ≤ 50
    rw [ofString_length]; omega
  · simp only [PyData.weight]
    split <;> omega
theorem sh_str {z : Str} (h : z.cps.size ≤ 300) (hc : (z.cps.toList.all fun c => decide (c < 16 ^ 8)) = true) : Sh2 (.str z) 0 300 :=
  ⟨by simp only [PyData.showable], by simp only [PyData.depth]; omega, by simp only [PyData.leavesShort]; exact hc, by simp only [PyData.weight]; exact h⟩
theorem sh_tx {l : List Nat} (h : l.length ≤ 300) (hc : ∀ c ∈ l, c < 1000) : Sh2 (.str (tx l)) 0 300 := sh_str (by simpa using h) (by
  rw [List.all_eq_true]
  intro c hm
  have : c ∈ l := by simpa using hm
  have := hc c this
  exact decide_eq_true (by have : (16 : Nat) ^ 8 = 4294967296 := by decide
                           omega))
theorem Odd.rd {H : Hp} {x : V} (h : Odd H x) : ∃ d, RdW H x d ∧ Sh2 d 1 400 := by
  have one : ∀ {z : Int}, z.natAbs < 10 ^ 40 → Sh2 (.int z) 0 150 := fun h => sh_int h
  have a : Sh2 (.str (tx [97])) 0 300 := sh_tx (by decide) (by decide)
  cases h with
  | non => exact ⟨_, .non, by simp only [PyData.showable], by simp only [PyData.depth]; omega, by simp only [PyData.leavesShort], by simp only [PyData.weight]; omega⟩
  | bl b => exact ⟨_, .bl b, by simp only [PyData.showable], by simp only [PyData.depth]; omega, by simp only [PyData.leavesShort], by simp only [PyData.weight]; omega⟩
  | int i h => exact ⟨_, .int i, (sh_int (by rcases h with rfl | rfl | rfl <;> decide)).mono (by omega) (by omega)⟩
  | str l h => exact ⟨_, .str _, (sh_tx (by rcases h with rfl | rfl | rfl | rfl <;> decide) (by rcases h with rfl | rfl | rfl | rfl <;> decide)).mono (by omega) (by omega)⟩
  | long => exact ⟨_, .str _, (sh_tx (by rw [repL_len]; decide) (by decide +kernel)).mono (by omega) (by omega)⟩
  | la p e => exact ⟨_, .lst e (.cons (.str _) .nil), (Sh2s.lst (Sh2s.cons a (Sh2s.nil 0 0))).mono (by decide) (by decide)⟩
  | ta p e => exact ⟨_, .tup e (.cons (.str _) .nil), (Sh2s.tup (Sh2s.cons a (Sh2s.nil 0 0))).mono (by decide) (by decide)⟩
  | da p e =>
    refine ⟨_, .dic e, ?_, ?_, ?_, ?_⟩
    · simp only [PyData.showable, PyData.showableKv, Bool.true_and, Bool.and_true]; decide
    · simp only [PyData.depth, PyData.depthKv]; decide
    · have := (sh_int (i := 1) (by decide)).2.2.1
      simp only [PyData.leavesShort, PyData.leavesShortKv, Bool.and_true] at this ⊢
      rw [this, Bool.and_true]
      have h2 := a.2.2.1
      simp only [PyData.leavesShort] at h2
      exact h2
    · simp only [PyData.weight, PyData.weightKv]; decide
  | t01 p e => exact ⟨_, .tup e (.cons (.int _) (.cons (.int _) .nil)), (Sh2s.tup (Sh2s.cons (one (z := 0) (by decide)) (Sh2s.cons (one (z := 1) (by decide)) (Sh2s.nil 0 0)))).mono (by decide) (by decide)⟩
  | l0 p e => exact ⟨_, .lst e .nil, (Sh2s.lst (Sh2s.nil 0 0)).mono (by decide) (by decide)⟩
section
variable {K : PySem.W.Frag}
end
def spSameG (K : PySem.W.Frag) : Sp := fun vs H Q _ => ∃ (x : V) (n : Int), vs = [x, .int n] ∧ (Scal x ∨ NoInt K H x) ∧ Q (.bl (decide (x = .int n))) H
def spAreG (K : PySem.W.Frag) : Sp := fun vs H Q _ => ∃ (x : V) (l : List Nat), vs = [x, .str (tx l)] ∧ rowL l = true ∧
  ((∃ (p : Addr) (xs : List V), x = .ref p ∧ H p = some (.lst xs) ∧ (∀ x ∈ xs, Scal x ∨ NoInt K H x) ∧ ∀ H', Same H H' → Q (.bl (decide (xs = lensV (reachesN l)))) H') ∨
   ((∃ t, TyOf K H x t ∧ PySem.W.kitOne K t (.type "list") = some false) ∧ ∀ H', Same H H' → Q (.bl false) H'))
def spBent04 : Sp := fun vs H Q _ => ∃ (b pd : Addr) (n : Int) (ks : List Nat) (x : V), vs = [.ref b, .ref pd, x] ∧ H b = some (.lst [.int n]) ∧ 0 ≤ n ∧ b ≠ pd ∧ H pd = some (.lst (lensV ks)) ∧ ks.length ≤ 29 ∧ (∀ k ∈ ks, k < 100) ∧ Odd H x ∧
  ∀ (y : V) (n' : Int) (H' : Hp), Thg b H' y → (∀ p, y = .ref p → H p = none) → 0 ≤ n' → H' b = some (.lst [.int n']) → But b H H' → Q y H'
end Mr
namespace L2
open PySem PySem.Spec PyProof.Rows PySem.SeqAt PySem.MeetsSeq
open PySem.AutoSeq1 (wpAny_loadPart')
section
variable {X : Cx}
def rNeS : R2 := fun x y H Q => ∃ z : Str, y = .str z ∧ Vs H x ∧ Q (.bl (!decide (x = .str z))) H
end
end L2
namespace Mr
open PySem L2
def cp (z : Str) : List Nat := z.cps.toList
def joinC : List (List Nat) → List Nat
  | [] => []
  | [x] => x
  | x :: y :: r => x ++ 44 :: 32 :: joinC (y :: r)
def shC (d : PyData) : List Nat := cp d.shown
def NiceI (i : Int) : Prop := i = 10 ^ 39 ∨ i = -1 ∨ ∃ n : Nat, n < 40 ∧ i = (n : Int)
def dig (n : Nat) : List Nat := cp ((toString (n : Int) : String) : Str)
def inn (l : List Nat) : List Nat := (l.map (Builtin.Str.reprChar 39)).flatten
def NiceS (l : List Nat) : Prop := Let l ∨ l = [65] ∨ l = [97, 32, 98] ∨ l = [97, 10] ∨ l = [49]
def Leaf (d : PyData) : Prop := match d with
  | .int i => NiceI i
  | .str z => ∃ l, z = tx l ∧ NiceS l
  | _ => True
def dgB (c : Nat) : Bool := decide (48 ≤ c ∧ c ≤ 57)
def FirstC (d : PyData) (c : Nat) : Prop := match d with
  | .none => c = 78
  | .bool _ => c = 84 ∨ c = 70
  | .int _ => dgB c = true ∨ c = 45
  | .str _ => c = 39
  | .list _ => c = 91
  | .tuple _ => c = 40
  | .dict _ => c = 123
def Ent2 (d : PyData) : Prop := Leaf d ∧ ∀ ds, d = .tuple ds → ∀ x ∈ ds, Leaf x
def Top2 (d : PyData) : Prop := Leaf d ∧ ∀ ds, d = .list ds → ∀ x ∈ ds, Ent2 x
def SmallE (e : Ent) : Prop := Let e.1 ∧ (∀ i, e.2.1 = some i → i < 40) ∧ ∀ i, e.2.2 = some i → i < 40
end Mr
namespace Mr
open PySem L2
def NiceV (x : V) : Prop := match x with
  | .int i => NiceI i
  | .str z => ∃ l, z = tx l ∧ NiceS l
  | _ => True
mutual
theorem rdw_one {H : Hp} : ∀ {x : V} {d d' : PyData}, RdW H x d → RdW H x d' → d = d'
  | _, _, _, .non, .non => rfl
  | _, _, _, .bl b, .bl _ => rfl
  | _, _, _, .int i, .int _ => rfl
  | _, _, _, .str z, .str _ => rfl
  | _, _, _, .lst h q, .lst h' q' => by rw [h] at h'; cases h'; rw [rdws_one q q']
  | _, _, _, .lst h q, .tup h' q' => by rw [h] at h'; cases h'
  | _, _, _, .lst h q, .dic h' => by rw [h] at h'; cases h'
  | _, _, _, .tup h q, .tup h' q' => by rw [h] at h'; cases h'; rw [rdws_one q q']
  | _, _, _, .tup h q, .lst h' q' => by rw [h] at h'; cases h'
  | _, _, _, .tup h q, .dic h' => by rw [h] at h'; cases h'
  | _, _, _, .dic h, .dic h' => by rw [h] at h'; cases h'; rfl
  | _, _, _, .dic h, .lst h' q' => by rw [h] at h'; cases h'
  | _, _, _, .dic h, .tup h' q' => by rw [h] at h'; cases h'
theorem rdws_one {H : Hp} : ∀ {xs : List V} {ds ds' : List PyData}, RdWs H xs ds → RdWs H xs ds' → ds = ds'
  | _, _, _, .nil, .nil => rfl
  | _, _, _, .cons a b, .cons a' b' => by rw [rdw_one a a', rdws_one b b']
end
inductive En (b : Addr) (H : Hp) : V → Prop
  | lf (x : V) (h : Elt H x) (n : NiceV x) : En b H x
  | tup (p : Addr) (xs : List V) (hp : H p = some (.tup xs)) (hl : xs.length ≤ 5) (he : ∀ x ∈ xs, Elt H x ∧ NiceV x) : En b H (.ref p)
  | lst (p : Addr) (xs : List V) (hp : H p = some (.lst xs)) (hb : p ≠ b) (hl : xs.length ≤ 3) (he : ∀ x ∈ xs, Elt H x ∧ NiceV x) : En b H (.ref p)
inductive Tg (b : Addr) (H : Hp) : V → Prop
  | en (x : V) (h : En b H x) : Tg b H x
  | lst (p : Addr) (xs : List V) (hp : H p = some (.lst xs)) (hb : p ≠ b) (hl : xs.length ≤ 60) (he : ∀ x ∈ xs, En b H x) : Tg b H (.ref p)
  | tup (p : Addr) (xs : List V) (hp : H p = some (.tup xs)) (hl : xs.length ≤ 60) (he : ∀ x ∈ xs, En b H x) : Tg b H (.ref p)
section
variable {K : PySem.W.Frag}
end
def SmE (e : Ent) : Prop := SmallE e ∧ e.1.length ≤ 100
def spElderG (K : PySem.W.Frag) : Sp := fun vs H Q _ => ∃ (x : V) (o : Option Nat) (d : PyData), vs = [x, optV o] ∧ (Scal x ∨ NoInt K H x) ∧ RdW H x d ∧ ∀ r : Bool, (r = true ↔ d = optD o) → Q (.bl r) H
def spEntryG : Sp := fun vs H Q _ => ∃ (b : Addr) (x : V) (q : Addr) (d : PyData) (e : Ent), vs = [x, .ref q] ∧ En b H x ∧ RdW H x d ∧ H q = some (entV e) ∧ ∀ r : Bool, (r = true ↔ d = entD e) → Q (.bl r) H
def spIsTreeG : Sp := fun vs H Q _ => ∃ (b : Addr) (x : V) (l : List Nat) (d : PyData), vs = [x, .str (tx l)] ∧ rowL l = true ∧ Tg b H x ∧ RdW H x d ∧ ∀ (r : Bool) (H' : Hp), (r = true ↔ d = .list ((treeN l).map entD)) → Same H H' → Q (.bl r) H'
def spBent16 : Sp := fun vs H Q _ => ∃ (b pd : Addr) (n : Int) (xs : List V) (es : List Ent) (x : V), vs = [.ref b, .ref pd, x] ∧ H b = some (.lst [.int n]) ∧ 0 ≤ n ∧ b ≠ pd ∧ H pd = some (.lst xs) ∧ TreeV H xs es ∧ es.length ≤ 20 ∧ (∀ e ∈ es, SmE e) ∧ Odd H x ∧
  ∀ (y : V) (n' : Int) (H' : Hp), Tg b H' y → (∀ p, y = .ref p → H p = none) → 0 ≤ n' → H' b = some (.lst [.int n']) → But b H H' → Q y H'
end Mr
namespace Mr
open PySem L2
def Abcz (l : List Nat) : Prop := ∀ c ∈ l, c = 97 ∨ c = 98 ∨ c = 99 ∨ c = 122
theorem Abcz.app {l m : List Nat} (a : Abcz l) (b : Abcz m) : Abcz (l ++ m) := fun c h => (List.mem_append.mp h).elim (a c) (b c)
theorem Abcz.rev {l : List Nat} (a : Abcz l) : Abcz l.reverse := fun c h => a c (List.mem_reverse.mp h)
theorem Abcz.sub {l m : List Nat} (a : Abcz l) (h : ∀ c ∈ m, c ∈ l) : Abcz m := fun c q => a c (h c q)
theorem Abcz.nil : Abcz [] := fun _ h => absurd h (by simp)
theorem Abcz.take {l : List Nat} (a : Abcz l) (n : Nat) : Abcz (l.take n) := a.sub fun _ h => List.mem_of_mem_take h
theorem Abcz.drop {l : List Nat} (a : Abcz l) (n : Nat) : Abcz (l.drop n) := a.sub fun _ h => List.mem_of_mem_drop h
theorem Abcz.cut {l : List Nat} (a : Abcz l) (lo hi : Option Int) : Abcz (cutL l lo hi) := (a.drop _).take _
theorem Abcz.lets {l : List Nat} (a : Abcz l) : Let l := fun c h => by have := a c h; omega
theorem e_abcz : ("abcz" : Str) = tx [97, 98, 99, 122] := by decide +kernel
section
variable (K : PySem.W.Frag)
def spBoxI : Sp := fun vs H Q _ => ∃ (a : Addr) (ns : List Int) (k : Int), vs = [.ref a, .int k] ∧ SqL K H a (ns.map V.int) ∧ 0 ≤ k ∧ ∀ (b : Addr) (n : Int) (H' : Hp), H b = none → H' b = some (.lst [.int n]) → Same H H' → Q (.ref b) H'
end
def spTakeI : Sp := fun vs H Q _ => ∃ (b : Addr) (n m : Int), vs = [.ref b, .int m] ∧ H b = some (.lst [.int n]) ∧ 0 < m ∧ m < 1000000 ∧
  ∀ (d n' : Int) (H' : Hp), 0 ≤ d → d < m → H' b = some (.lst [.int n']) → But b H H' → Q (.int d) H'
def spRowI : Sp := fun vs H Q _ => ∃ (b : Addr) (n most : Int), vs = [.ref b, .int most] ∧ H b = some (.lst [.int n]) ∧ 0 ≤ most ∧ most ≤ 1000 ∧
  ∀ (m : List Nat) (n' : Int) (H' : Hp), Abcz m → (m.length : Int) ≤ most → H' b = some (.lst [.int n']) → But b H H' → Q (.str (tx m)) H'
def spMirI : Sp := fun vs H Q _ => ∃ l : List Nat, vs = [.str (tx l)] ∧ l.length ≤ sizeLine ∧ Q (.bl (!decide (l = []) && decide (l = l.reverse))) H
def lstV (ls : List Nat) : HO := .lst (lensV ls)
abbrev LenV := ReV lstV
def endsAt (l : List Nat) : List (List Nat) := (List.range (l.length + 1)).map fun b => endsN (l.take b)
def spEBP : Sp := fun vs H Q _ => ∃ l : List Nat, vs = [.str (tx l)] ∧ rowL l = true ∧ ∀ (p : Addr) (xs : List V) (H' : Hp), H p = none → H' p = some (.lst xs) → LenV H' xs (endsAt l) → Same H H' → Q (.ref p) H'
def spLE : Sp := fun vs H Q _ => ∃ (l : List Nat) (pl pn : Addr) (ms : List (List Nat)), vs = [.str (tx l), .ref pl, .ref pn] ∧ 1 ≤ l.length ∧ l.length ≤ 200 ∧ H pl = some (.lst (lensV (endsN l))) ∧ NumD H pn ms ∧
  ∀ (p : Addr) (H' : Hp), H p = none → H' p = some (entV (entT ms (topT l l.length))) → Same H H' → Q (.ref p) H'
end Mr
namespace Mr
open PySem L2
def spNM (K : PySem.W.Frag) (C : Addr) : Sp := fun vs H Q E => ∃ x : V, vs = [x] ∧
  ((∃ t : List Nat, x = .str (tx t) ∧ mirV x = true ∧ t.length ≤ 100000 ∧ ∀ H', Same H H' → Q .non H') ∨ (Thing K H x ∧ mirV x = false ∧ ∀ H', Same H H' → E (.ref C) none H'))
end Mr
namespace L2
open PySem PySem.Spec PyProof.Rows
def Hand (A : Around) (H : Hp) : Prop := ∃ a cls, A.handled = some (.ref a) ∧ H a = some (excO a cls)
structure TurnH (P : Program) (w : World) (K : PySem.W.Frag) (A : Around) (tg : Expr) (J : It) (fp : List Addr) (it : Addr) (tn : Nat → Heap → Prop) : Prop where
  obj : ∀ i h, tn i h → ∀ b ∈ fp, ∃ o, h.get? b = some o ∧ ∀ v, o.data ≠ .cell v
  keep : ∀ i h h', tn i h → (∀ b ∈ fp, ∀ o, h.get? b = some o → h'.get? b = some o) → tn i h'
  item : ∀ (X : Cx), X.prog = P → X.w = w → X.K = K → X.A = A → ∀ (i : Nat) (pins : List (Addr × Obj)) (s : Shared) (σ : St) (H : Hp) (E : Value → Shared → Prop), Inv X pins σ H s → (∀ b ∈ fp, FpOk X pins H b) → tn i s.heap → J.go i H →
    wpAny (model P w) X.A (pyNext (.ref it)) (fun r s1 => ∃ u, r = some u ∧ wpAny (model P w) X.A (letOwnedTupleGo tg (.ref it) u) (fun _ s2 => ∃ x H', Inv X pins σ H' s2 ∧ RelV x u ∧ J.yld i H x H' ∧ tn (i + 1) s2.heap ∧ ∀ b ∈ fp, H' b = none) E s1) E s
  done : ∀ (X : Cx), X.prog = P → X.w = w → X.K = K → X.A = A → ∀ (i : Nat) (pins : List (Addr × Obj)) (s : Shared) (σ : St) (H : Hp) (E : Value → Shared → Prop), Inv X pins σ H s → (∀ b ∈ fp, FpOk X pins H b) → tn i s.heap → J.stop i H →
    wpAny (model P w) X.A (pyNext (.ref it)) (fun r s1 => r = none ∧ Inv X pins σ H s1) E s
  self : ∀ (A : Around) (i : Nat) (s : Shared) (Q : Value → Shared → Prop) (E : Value → Shared → Prop), tn i s.heap → Q (.ref it) s → wpAny (model P w) A (pyIter (.ref it)) Q E s
def ItrH (A : Around) (lo : Int) (n : Nat) : It := ⟨fun i _ => i < n, fun i H x H' => H' = H ∧ x = .int (lo + i), fun i H => n ≤ i ∧ Hand A H⟩
def PIEH (X : Cx) (pins : List (Addr × Obj)) (σ : St) (tg : Expr) (R : It → Hp → Prop) (itv : Value) (s2 : Shared) : Prop :=
  ∃ (it : Addr) (fp : List Addr) (tn : Nat → Heap → Prop) (J : It) (H' : Hp), itv = .ref it ∧ Inv X pins σ H' s2 ∧ TurnH X.prog X.w X.K X.A tg J fp it tn ∧ tn 0 s2.heap ∧ (∀ b ∈ fp, FpOk X pins H' b) ∧ R J H'
def PIH (X : Cx) (tg iter : Expr) (wi : TI) : Prop :=
  ∀ (pins : List (Addr × Obj)) (s : Shared) (σ : St) (H : Hp) (R : It → Hp → Prop), Inv X pins σ H s → wi σ H R →
    wpAny (model X.prog X.w) X.A (eval iter X.env) (fun v s1 => wpAny (model X.prog X.w) X.A (pyIter v) (PIEH X pins σ tg R) X.xe s1) X.xe s
section
variable {X : Cx} {tg : Expr}
def iRngH (A : Around) (ta : TA) : TI := fun σ H R => ta σ H fun vs H1 => ∃ j : Int, vs = [.int j] ∧ -(2 ^ 62) ≤ j ∧ j < 2 ^ 62 ∧ R (ItrH A 0 j.toNat) H1
end
section
variable {X : Cx} {scope : Scope} {cl : List (Str × Addr)} {x : Str} {ys : List Str} {ix : List Nat}
end
structure FnOkH (P : Program) (w : World) (K : PySem.W.Frag) (mg : Str → Option Value) (base : Heap) (k : Nat) (f : Addr) (fd : FuncData) (ps : List Str) (sp : Sp) : Prop where
  len : ∀ vs H Q E, sp vs H Q E → vs.length = ps.length
  run : ∀ (A : Around) (outer : List Env) (s : Shared) (H : Hp) (args : Args) (us : List Value) (vs : List V) (Q : VK) (E : XK), RoomN k A → Hand A H → Env0 P w K mg base A outer s H → BindsTo s fd args (ps.zip us) → Vals vs us → sp vs H Q E →
    codeAny (model P w) A (.call (.ref f) args) (CR CX0 outer P w H s Q E) s
structure DfH (P : Program) (w : World) (K : PySem.W.Frag) (mg : Str → Option Value) (base : Heap) (k : Nat) (x : Str) (ps : List Str) (sp : Sp) : Prop where
  ex : ∃ (f : Addr) (fd : FuncData), FnOkH P w K mg base k f fd ps sp ∧ mg x = some (.ref f) ∧ PySem.W.keepIn K (.ref f) = true ∧ Binds K fd ps []
def tCallH (A : Around) (sp : Sp) (t : TA) : TE := fun σ H Q => t σ H fun vs H1 => Hand A H1 ∧ sp vs H1 Q E0
section
variable {P : Program} {w : World} {K : PySem.W.Frag} {mg : Str → Option Value} {base : Heap}
end
section
variable {X : Cx} {k j : Nat} {x : Str} {ps : List Str} {sp : Sp} {e : Expr} {es : List Expr} {p pos : Pos} {t : TA}
end
section
variable {X : Cx} {pins : List (Addr × Obj)} {σ : St} {H : Hp} {s : Shared}
end
def tTryE (tb : XS → TS) (K : PySem.W.Frag) (R : Value) (i : Nat) (ts : Value → TS) : TS := fun D σ H => ∃ Ex : XS, tb Ex D σ H ∧ ∀ σ' cls H', Ex σ' cls none H' → PySem.W.exmOne K cls R = some true ∧ ∀ a, H' a = none →
  ts (.ref a) { nx := fun σ2 H2 => D.nx (σ2.set i none) H2, rt := D.rt, bk := fun σ2 H2 => D.bk (σ2.set i none) H2, ct := fun σ2 H2 => D.ct (σ2.set i none) H2 } (σ'.set i (some (.ref a))) (upd H' a (excO a cls))
section
variable {X : Cx} {Ex : XS} {pins : List (Addr × Obj)} {tb : XS → TS} {ts : Value → TS} {c n : Str} {i : Nat} {R : Addr} {body suite : List Stmt} {b₀ : Stmt} {np hpos pos : Pos}
end
end L2
namespace L2
open PySem PySem.Spec PyProof.Rows
structure DfU (P : Program) (w : World) (K : PySem.W.Frag) (mg : Str → Option Value) (base : Heap) (k : Nat) (x : Str) (sp : Sp) : Prop where
  ex : ∃ f : Addr, mg x = some (.ref f) ∧ PySem.W.keepIn K (.ref f) = true ∧ ∀ (A : Around) (outer : List Env) (s : Shared) (H : Hp) (us : List Value) (vs : List V) (Q : VK) (E : XK), K.In s.heap → Room k A → Env0 P w K mg base A outer s H → Vals vs us → sp vs H Q E →
    codeAny (model P w) A (.call (.ref f) ⟨us, []⟩) (CR (CX1 P w) outer P w H s Q E) s
section
variable {P : Program} {w : World} {K : PySem.W.Frag} {mg : Str → Option Value} {base : Heap} {k : Nat} {x : Str} {ps : List Str} {sp sp' : Sp}
end
end L2
namespace Mr
open PySem L2
def spNR1 (K : PySem.W.Frag) (C : Addr) : Sp := fun vs H _ E => ∃ x : V, vs = [x] ∧ Thing K H x ∧ rowV x = false ∧ ∀ H', Same H H' → E (.ref C) none H'
def spNRa (K : PySem.W.Frag) (C : Addr) : Sp := fun vs H _ E => ∃ x y : V, vs = [x, y] ∧ Thing K H x ∧ rowV x = false ∧ ∀ H', Same H H' → E (.ref C) none H'
def spNRb (K : PySem.W.Frag) (C : Addr) : Sp := fun vs H _ E => ∃ x y : V, vs = [y, x] ∧ Thing K H x ∧ rowV x = false ∧ ∀ H', Same H H' → E (.ref C) none H'
def spWay07 (K : PySem.W.Frag) (C : Addr) (n : Nat) : Sp := fun vs H _ E => ∃ (x : V) (v : Nat), vs = [.int (v : Int), x] ∧ v < n ∧ Thing K H x ∧ rowV x = false ∧ ∀ H', Same H H' → E (.ref C) none H'
def spTold07 (K : PySem.W.Frag) : Sp := fun vs H Q _ => ∃ (x : V) (h v : Nat), vs = [.int (h : Int), .int (v : Int), x] ∧ ((h = 0 ∧ v < 10) ∨ (h = 1 ∧ v < 9)) ∧ Thing K H x ∧ rowV x = false ∧ ∀ H', Same H H' → Q (.str ("row" : Str)) H'
def spNeedX (K : PySem.W.Frag) (C : Addr) : Sp := fun vs H Q E => ∃ x, vs = [x] ∧ Thing K H x ∧ (rowV x = true → ∀ H', Same H H' → Q .non H') ∧ (rowV x = false → ∀ H', Same H H' → E (.ref C) none H')
end Mr
namespace Mr
open PySem L2
structure Errs12 (K : PySem.W.Frag) (mg : Str → Option Value) (R c0 c1 c2 c3 c4 c5 c6 c7 c8 c9 c10 c11 : Addr) : Prop where
  mR : mg "RowError" = some (.ref R)
  m0 : mg "NoRow" = some (.ref c0)
  m1 : mg "NoCount" = some (.ref c1)
  m2 : mg "TooLong" = some (.ref c2)
  m3 : mg "TooMany" = some (.ref c3)
  m4 : mg "NoReaches" = some (.ref c4)
  m5 : mg "NoLine" = some (.ref c5)
  m6 : mg "Bare" = some (.ref c6)
  m7 : mg "NoLengths" = some (.ref c7)
  m8 : mg "NoMirror" = some (.ref c8)
  m9 : mg "NoNumber" = some (.ref c9)
  m10 : mg "NoSign" = some (.ref c10)
  m11 : mg "NoMiddle" = some (.ref c11)
structure Rsd (K : PySem.W.Frag) (R : Addr) (cs : List Addr) (i : Nat) (c : Addr) : Prop where
  lt : i < 12
  ex : X.ExC K c
  kr : PySem.W.kitOne K (.ref c) (.ref R) = some true
  kv : PySem.W.kitOne K (.ref c) (.type "ValueError") = some true
  kk : ∀ (j : Nat) (d : Addr), cs[j]? = some d → PySem.W.kitOne K (.ref c) (.ref d) = some (decide (i = j))
def cls12 (i : Nat) : List V := (List.range 12).map fun j => V.bl (decide (i = j))
def spClasses (K : PySem.W.Frag) (R : Addr) (cs : List Addr) : Sp := fun vs H Q _ => ∃ (a c : Addr) (i : Nat), vs = [.ref a] ∧ H a = some (excO a (.ref c)) ∧ Rsd K R cs i c ∧ ∀ p H', H p = none → H' p = some (.lst (cls12 i)) → Same H H' → Q (.ref p) H'
def spOnly (K : PySem.W.Frag) (R : Addr) (cs : List Addr) : Sp := fun vs H Q _ => ∃ (a c : Addr) (i j : Nat), vs = [.ref a, .int (j : Int)] ∧ H a = some (excO a (.ref c)) ∧ Rsd K R cs i c ∧ j < 12 ∧ ∀ H', Same H H' → Q (.bl (decide (i = j))) H'
def spNoRow (K : PySem.W.Frag) : Sp := fun vs H Q _ => ∃ (b : Addr) (n : Int), vs = [.ref b] ∧ H b = some (.lst [.int n]) ∧ ∀ (x : V) (n' : Int) (H' : Hp), Thing K H' x → rowV x = false → H' b = some (.lst [.int n']) → But b H H' → Q x H'
end Mr
namespace L2
open PySem PySem.Spec PyProof.Rows PySem.SeqAt PySem.MeetsSeq
section
variable {X : Cx}
def tJoin (t : TS) : TS := fun D σ H => ∃ J : St → Hp → Prop, (∀ σ' H', J σ' H' → D.nx σ' H') ∧ t { D with nx := J } σ H
end
end L2
namespace Mr
def minL : List Nat → Nat
  | [] => 0
  | x :: r => if r = [] then x else min x (minL r)
def knownN (told : List (Option Nat)) (b : Nat) (L : List Nat) : List Nat := L.filterMap fun k => (told[b - k]?).getD none
def nextF (told : List (Option Nat)) (b : Nat) (L : List Nat) : Option Nat := if knownN told b L = [] then none else some (minL (knownN told b L) + 1)
def fewAt (L : Nat → List Nat) : Nat → List (Option Nat)
  | 0 => [some 0]
  | n + 1 => fewAt L n ++ [nextF (fewAt L n) (n + 1) (L (n + 1))]
def few (L : Nat → List Nat) (b : Nat) : Option Nat := ((fewAt L b)[b]?).getD none
def Fits (L : Nat → List Nat) : Prop := ∀ b k, k ∈ L b → 1 ≤ k ∧ k ≤ b
end Mr
namespace Mr
open PySem L2
def lenOf (Ls : List (List Nat)) (b : Nat) : List Nat := (Ls[b]?).getD []
def fewV (os : List (Option Nat)) : List V := os.map optV
def spFBP : Sp := fun vs H Q _ => ∃ (p : Addr) (xs : List V) (Ls : List (List Nat)), vs = [.ref p] ∧ H p = some (.lst xs) ∧ LenV H xs Ls ∧ 1 ≤ Ls.length ∧ Ls.length ≤ 1000 ∧ Fits (lenOf Ls) ∧ (∀ b, (lenOf Ls b).length ≤ 1000) ∧
  ∀ (p' : Addr) (H' : Hp), H p' = none → H' p' = some (.lst (fewV (fewAt (lenOf Ls) (Ls.length - 1)))) → Same H H' → Q (.ref p') H'
def fewI (l : List Nat) (b : Nat) : Nat := (few (lenOf (endsAt l)) b).getD 0
def boundsN (l : List Nat) : List Nat := (List.range (l.length + 1)).map (fewI l)
def begN (l : List Nat) (b : Nat) : List Nat := (endsN (l.take b)).map (b - ·)
def spBeg : Sp := fun vs H Q _ => ∃ (l : List Nat) (b : Nat), vs = [.str (tx l), .int (b : Int)] ∧ b ≤ l.length ∧ l.length ≤ 1000 ∧ ∀ (p : Addr) (H' : Hp), H p = none → H' p = some (.lst (lensV (begN l b))) → Same H H' → Q (.ref p) H'
def keepsB (ns : List Int) (b : Nat) (L : List Nat) : Bool := L.all fun k => decide (ns.getD b 0 ≤ ns.getD (b - k) 0 + 1)
def spKeeps : Sp := fun vs H Q _ => ∃ (p pl : Addr) (ns : List Int) (b : Nat) (L : List Nat), vs = [.ref p, .int (b : Int), .ref pl] ∧ H p = some (.lst (ns.map V.int)) ∧ b < ns.length ∧ H pl = some (.lst (lensV L)) ∧ L.length ≤ 1000 ∧ (∀ k ∈ L, k ≤ b) ∧
  ∀ H', Same H H' → Q (.bl (keepsB ns b L)) H'
def areB (l : List Nat) (ns : List Int) : Bool := decide (ns.length = l.length + 1) && (decide (ns.getD 0 0 = 0) && (List.range (l.length + 1)).all fun b => keepsB ns b (endsN (l.take b)))
def spAreB : Sp := fun vs H Q _ => ∃ (p : Addr) (ns : List Int) (l : List Nat), vs = [.ref p, .str (tx l)] ∧ rowL l = true ∧ H p = some (.lst (ns.map V.int)) ∧ ns.length ≤ 1000 ∧ ∀ H', Same H H' → Q (.bl (areB l ns)) H'
end Mr
namespace Mr
open PySem L2
def kindsN (l : List Nat) : Nat := (mirs l l.length).length
def spKinds : Sp := fun vs H Q _ => ∃ l : List Nat, vs = [.str (tx l)] ∧ rowL l = true ∧ ∀ H', Same H H' → Q (.int (kindsN l : Nat)) H'
def spFull : Sp := fun vs H Q _ => ∃ l : List Nat, vs = [.str (tx l)] ∧ rowL l = true ∧ ∀ H', Same H H' → Q (.bl (decide (kindsN l = l.length))) H'
def SetL (kvs : List (Key × V)) (S : List Nat → Prop) (B : Nat) : Prop := ∃ ts : List (List Nat), ts.Nodup ∧ ts.length ≤ B ∧ kvs.length = ts.length ∧ (∀ x, (valV kvs (Sum.inr (tx x))).isSome = decide (x ∈ ts)) ∧ ∀ t, t ∈ ts ↔ S t
def MirTo (l : List Nat) (i j : Nat) (t : List Nat) : Prop := ∃ f c, f < c ∧ c ≤ l.length ∧ (c ≤ i ∨ (c = i + 1 ∧ f < j)) ∧ t = sub l f c ∧ PalI l f c
end Mr
namespace L2
open PySem PySem.Spec PyProof.Rows PySem.SeqAt PySem.MeetsSeq
section
variable {X : Cx}
def rCountI : V → List V → Hp → VK → Prop := fun x vs H Q => ∃ (l : Addr) (ns : List Int) (n : Int), x = .ref l ∧ vs = [.int n] ∧ H l = some (.lst (ns.map V.int)) ∧ Q (.int (ns.count n : Nat)) H
end
end L2
namespace Mr
open PySem L2
def evF (L : List Nat) : List Nat := L.filter fun k => decide (k % 2 = 0)
def evAt (l : List Nat) : List (List Nat) := (endsAt l).map evF
def evFew (l : List Nat) : List (Option Nat) := fewAt (lenOf (evAt l)) l.length
def evN (l : List Nat) (b : Nat) : Option Nat := few (lenOf (evAt l)) b
def spEv : Sp := fun vs H Q _ => ∃ (p : Addr) (L : List Nat), vs = [.ref p] ∧ H p = some (.lst (lensV L)) ∧ L.length ≤ 1000 ∧ ∀ (p' : Addr) (H' : Hp), H p' = none → H' p' = some (.lst (lensV (evF L))) → Same H H' → Q (.ref p') H'
def spEvFew : Sp := fun vs H Q _ => ∃ l : List Nat, vs = [.str (tx l)] ∧ rowL l = true ∧ ∀ (p : Addr) (H' : Hp), H p = none → H' p = some (.lst (fewV (evFew l))) → Same H H' → Q (.ref p) H'
def evPl (l : List Nat) (n : Nat) : List Nat := (List.range n).filter fun b => (evN l b).isSome
def evPlaces (l : List Nat) : List Nat := evPl l (l.length + 1)
def spFewEven : Sp := fun vs H Q _ => ∃ l : List Nat, vs = [.str (tx l)] ∧ rowL l = true ∧ ∀ H', Same H H' → Q (optV (evN l l.length)) H'
def spEvenRow : Sp := fun vs H Q _ => ∃ (b : Addr) (n : Int), vs = [.ref b] ∧ H b = some (.lst [.int n]) ∧ ∀ (m : List Nat) (n' : Int) (H' : Hp), Abcz m → m.length ≤ 16 → H' b = some (.lst [.int n']) → But b H H' → Q (.str (tx m)) H'
end Mr
namespace Mr
open PySem L2
def off (b : Addr) (H : Hp) : Hp := fun a => if a = b then none else H a
theorem off_at {b a : Addr} {H : Hp} {o : HO} (h : H a = some o) (n : a ≠ b) : off b H a = some o := by unfold off; rw [if_neg n]; exact h
theorem off_in {b : Addr} {H : Hp} : Same (off b H) H := fun a o e => by
  unfold off at e
  split at e
  · cases e
  · exact e
theorem But.off {b : Addr} {H H' : Hp} (k : But b H H') : Same (off b H) (off b H') := fun a o e => by
  unfold Mr.off at e ⊢
  by_cases h : a = b
  · rw [if_pos h] at e; cases e
  · rw [if_neg h] at e ⊢; exact k a o e h
def Gd (H : Hp) (x : V) (n w : Nat) : Prop := ∃ d, RdW H x d ∧ Sh2 d n w
theorem Gd.same {H H' : Hp} {x : V} {n w : Nat} (s : Same H H') (h : Gd H x n w) : Gd H' x n w := let ⟨d, r, z⟩ := h; ⟨d, r.mono s, z⟩
theorem Gd.mono {H : Hp} {x : V} {n w m v : Nat} (h : Gd H x n w) (h1 : n ≤ m) (h2 : w ≤ v) : Gd H x m v := let ⟨d, r, z⟩ := h; ⟨d, r, z.mono h1 h2⟩
theorem gd_non {H : Hp} : Gd H .non 0 1 := ⟨_, .non, by simp only [PyData.showable], by simp only [PyData.depth]; omega, by simp only [PyData.leavesShort], by simp only [PyData.weight]; omega⟩
theorem gd_bl {H : Hp} (b : Bool) : Gd H (.bl b) 0 1 := ⟨_, .bl b, by simp only [PyData.showable], by simp only [PyData.depth]; omega, by simp only [PyData.leavesShort], by simp only [PyData.weight]; omega⟩
theorem gd_int {H : Hp} {i : Int} (h : i.natAbs < 10 ^ 40) : Gd H (.int i) 0 150 := ⟨_, .int i, sh_int h⟩
theorem gd_str {H : Hp} (z : Str) (h : z.cps.size ≤ 300) (hc : (z.cps.toList.all fun c => decide (c < 16 ^ 8)) = true) : Gd H (.str z) 0 300 := ⟨_, .str z, sh_str h hc⟩
theorem gds {H : Hp} {n w : Nat} : ∀ {xs : List V}, (∀ y ∈ xs, Gd H y n w) → ∃ ds, RdWs H xs ds ∧ Sh2s ds n ((w + 1) * xs.length)
  | [], _ => ⟨[], .nil, Sh2s.nil _ _⟩
  | x :: xs, h => by
    obtain ⟨d, r, s⟩ := h x List.mem_cons_self
    obtain ⟨ds, rs, ss⟩ := gds fun y hy => h y (List.mem_cons_of_mem _ hy)
    refine ⟨d :: ds, .cons r rs, ?_⟩
    have := Sh2s.cons s ss
    rw [show w + 1 + (w + 1) * xs.length = (w + 1) * (x :: xs).length by rw [List.length_cons, Nat.mul_succ]; omega] at this
    exact this
theorem gd_lst {H : Hp} {p : Addr} {xs : List V} {n w : Nat} (hp : H p = some (.lst xs)) (h : ∀ y ∈ xs, Gd H y n w) : Gd H (.ref p) (n + 1) ((w + 1) * xs.length) := let ⟨ds, r, s⟩ := gds h; ⟨_, .lst hp r, s.lst⟩
theorem gd_tup {H : Hp} {p : Addr} {xs : List V} {n w : Nat} (hp : H p = some (.tup xs)) (h : ∀ y ∈ xs, Gd H y n w) : Gd H (.ref p) (n + 1) ((w + 1) * xs.length) := let ⟨ds, r, s⟩ := gds h; ⟨_, .tup hp r, s.tup⟩
theorem gd_dic {H : Hp} {p : Addr} (e : H p = some (.dK [(Sum.inr (tx [97]), .int 1)])) : Gd H (.ref p) 1 400 := (Odd.da p e).rd
def El (K : PySem.W.Frag) (H : Hp) (y : V) : Prop := (Scal y ∨ NoInt K H y) ∧ Gd H y 2 700
theorem El.same {K : PySem.W.Frag} {H H' : Hp} {y : V} (s : Same H H') (h : El K H y) : El K H' y := ⟨h.1.imp id (NoInt.same s), h.2.same s⟩
theorem el_int {K : PySem.W.Frag} {H : Hp} {i : Int} (h : i.natAbs < 10 ^ 40) : El K H (.int i) := ⟨.inl trivial, (gd_int h).mono (by decide) (by decide)⟩
theorem el_bl {K : PySem.W.Frag} {H : Hp} (b : Bool) : El K H (.bl b) := ⟨.inl trivial, (gd_bl b).mono (by decide) (by decide)⟩
def NoL (K : PySem.W.Frag) (H : Hp) (x : V) : Prop := ∃ t, TyOf K H x t ∧ PySem.W.kitOne K t (.type "list") = some false
def LstN (K : PySem.W.Frag) (H : Hp) (x : V) : Prop := (∃ p xs, x = .ref p ∧ H p = some (.lst xs) ∧ xs.length ≤ 400 ∧ ∀ y ∈ xs, El K H y) ∨ NoL K H x
def Th (K : PySem.W.Frag) (H : Hp) (x : V) : Prop := Gd H x 3 300000 ∧ LstN K H x
theorem th_lst {K : PySem.W.Frag} {H : Hp} {p : Addr} {xs : List V} (hp : H p = some (.lst xs)) (hl : xs.length ≤ 400) (h : ∀ y ∈ xs, El K H y) : Th K H (.ref p) :=
  ⟨(gd_lst hp fun y hy => (h y hy).2).mono (by decide) (by have := Nat.mul_le_mul_left 701 hl; omega), .inl ⟨p, xs, rfl, hp, hl, h⟩⟩
def spOdd16 (K : PySem.W.Frag) : Sp := fun vs H Q _ => ∃ (b : Addr) (n : Int), vs = [.ref b] ∧ H b = some (.lst [.int n]) ∧ ∀ (x : V) (n' : Int) (H' : Hp), El K (off b H') x → Th K (off b H') x → H' b = some (.lst [.int n']) → But b H H' → Q x H'
def fitsV (x : V) (m n : Int) : Bool := match x with
  | .int i => decide (i % 2 ≠ m % 2) && (decide (0 ≤ i) && (decide (i ≤ m + 1) && decide (i ≤ n - m)))
  | _ => false
def formV (xs : List V) : Bool := decide (xs.length ≤ 119) && (if xs.length % 2 = 0 then decide (xs.length = 0) else (List.range xs.length).all fun i => fitsV (xs.getD i .non) i xs.length)
def spFits (K : PySem.W.Frag) : Sp := fun vs H Q _ => ∃ (x : V) (m n : Int), vs = [x, .int m, .int n] ∧ (Scal x ∨ NoInt K H x) ∧ Q (.bl (fitsV x m n)) H
def spOfList (K : PySem.W.Frag) (f : List V → Bool) : Sp := fun vs H Q _ => ∃ x : V, vs = [x] ∧ ((∃ p xs, x = .ref p ∧ H p = some (.lst xs) ∧ xs.length ≤ 400 ∧ (∀ y ∈ xs, Scal y ∨ NoInt K H y) ∧ ∀ H', Same H H' → Q (.bl (f xs)) H') ∨ (NoL K H x ∧ ∀ H', Same H H' → Q (.bl false) H'))
def Few (ns : List Int) (n : Nat) : Prop := ns.length ≤ n ∧ ∀ i ∈ ns, i.natAbs ≤ 100
def spLReach : Sp := fun vs H Q _ => ∃ l : List Nat, vs = [.str (tx l)] ∧ l.length ≤ 9 ∧ ∀ (p : Addr) (ns : List Int) (H' : Hp), H p = none → H' p = some (.lst (ns.map V.int)) → Few ns 20 → Same H H' → Q (.ref p) H'
def spDrawnF : Sp := fun vs H Q _ => ∃ (b : Addr) (n : Int) (s : Nat), vs = [.ref b, .int (s : Int)] ∧ H b = some (.lst [.int n]) ∧ s ≤ 10 ∧ ∀ (p : Addr) (ns : List Int) (n' : Int) (H' : Hp), H p = none → H' p = some (.lst (ns.map V.int)) → Few ns 20 → H' b = some (.lst [.int n']) → But b H H' → Q (.ref p) H'
def spTurn71 (K : PySem.W.Frag) : Sp := fun vs H Q _ => ∃ (b : Addr) (n : Int) (pt : Addr) (ns : List Int) (x : V), vs = [.ref b, .ref pt, x] ∧ H b = some (.lst [.int n]) ∧ H pt = some (.lst (ns.map V.int)) ∧ pt ≠ b ∧ Few ns 20 ∧ El K (off b H) x ∧
  ∀ (y : V) (n' : Int) (H' : Hp), Th K (off b H') y → H' b = some (.lst [.int n']) → But b H H' → Q y H'
end Mr
namespace L2
open PySem PySem.Spec PyProof.Rows PySem.SeqAt PySem.MeetsSeq
section
variable {prog : Program} {w : World} {A : Around} {I : Addr} {fp wr : List Addr} {n : Nat} {P : Nat → Value → Prop} {St : Nat → Heap → Prop}
abbrev mxC (I S : Addr) (kw : List (Str × Value)) : Code := .builtin "max.loop" ⟨[.ref I, .none, .ref S], kw⟩
abbrev mxS (its : Array Value) (c : Nat) : Obj := { cls := .type "list", dict := none, data := .seq its c, slots := #[] }
abbrev mxK (wr : List Addr) (S : Addr) (h h' : Heap) : Prop := ∀ b o, b ∉ wr → b ≠ S → h.get? b = some o → h'.get? b = some o
end
section
variable {prog : Program} {w : World} {A : Around} {E : Value → Shared → Prop} {s : Shared}
end
section
variable {X : Cx}
end
end L2
namespace Mr
open PySem L2
def behN (l : List Nat) : List Nat := l ++ (l.take (l.length - ((endsN l)[0]?).getD 0)).reverse
def spShort : Sp := fun vs H Q _ => ∃ l : List Nat, vs = [.str (tx l)] ∧ rowL l = true ∧ l.length ≤ 60 ∧ ∀ H', Same H H' → Q .non H'
def spBehN : Sp := fun vs H Q _ => ∃ l : List Nat, vs = [.str (tx l)] ∧ rowL l = true ∧ l.length ≤ 60 ∧ ∀ H', Same H H' → Q (.str (tx (behN l))) H'
def spAheN : Sp := fun vs H Q _ => ∃ l : List Nat, vs = [.str (tx l)] ∧ rowL l = true ∧ l.length ≤ 60 ∧ ∀ H', Same H H' → Q (.str (tx (behN l.reverse))) H'
def spLBeh : Sp := fun vs H Q _ => ∃ l : List Nat, vs = [.str (tx l)] ∧ l.length ≤ 1000 ∧ Q (.str (tx (behN l))) H
def per55 (p : List Nat) (d : Nat) : List Nat := (repL p 200).take (40 + d)
set_option maxHeartbeats 0
end Mr
namespace Mr
open PySem L2
def mendL (l : List Nat) : Nat → Nat → Nat
  | 0, _ => 0
  | 1, _ => 0
  | n + 2, f => if l[f]? = l[f + n + 1]? then mendL l n (f + 1) else min (mendL l (n + 1) (f + 1)) (mendL l (n + 1) f) + 1
theorem mendL_le (l : List Nat) : ∀ n f, mendL l n f ≤ n
  | 0, _ => Nat.le_refl _
  | 1, _ => Nat.zero_le _
  | n + 2, f => by
    unfold mendL
    split
    · exact Nat.le_trans (mendL_le l n (f + 1)) (by omega)
    · have := mendL_le l (n + 1) f
      omega
def ky (a b : Nat) : List Key := [Sum.inl (a : Int), Sum.inl (b : Int)]
theorem ky_inj {a b c d : Nat} (h : ky a b = ky c d) : a = c ∧ b = d := by
  simp only [ky, List.cons.injEq, Sum.inl.injEq, and_true] at h
  omega
def Tab (l : List Nat) (n j : Nat) (kvs : List (List Key × V)) : Prop :=
  ∀ a b : Nat, valV kvs (ky a b) = if a < b ∧ b ≤ l.length ∧ (b - a < n ∨ (b - a = n ∧ a < j)) then some (.int (mendL l (b - a) a : Nat)) else none
theorem Tab.in_ {l : List Nat} {n j : Nat} {kvs : List (List Key × V)} (h : Tab l n j kvs) {a b : Nat} (h1 : a < b) (h2 : b ≤ l.length) (h3 : b - a < n) : valV kvs (ky a b) = some (.int (mendL l (b - a) a : Nat)) := by
  rw [h a b, if_pos ⟨h1, h2, .inl h3⟩]
theorem Tab.nil {l : List Nat} : Tab l 1 0 [] := fun a b => by
  rw [if_neg (by omega)]
  rfl
theorem Tab.put {l : List Nat} {n j : Nat} {kvs : List (List Key × V)} (h : Tab l n j kvs) (hn : 1 ≤ n) (hj : j + n ≤ l.length) : Tab l n (j + 1) (putK kvs (ky j (j + n)) (.int (mendL l n j : Nat))) := fun a b => by
  rw [valV_put, h a b]
  by_cases e : ky a b = ky j (j + n)
  · obtain ⟨rfl, rfl⟩ := ky_inj e
    rw [if_pos rfl, if_pos (by omega), show a + n - a = n by omega]
  · rw [if_neg e]
    by_cases c : a < b ∧ b ≤ l.length ∧ (b - a < n ∨ (b - a = n ∧ a < j))
    · rw [if_pos c, if_pos (by omega)]
    · rw [if_neg c, if_neg]
      rintro ⟨h1, h2, h3⟩
      rcases h3 with h3 | ⟨h3, h4⟩
      · exact c ⟨h1, h2, .inl h3⟩
      · by_cases h5 : a < j
        · exact c ⟨h1, h2, .inr ⟨h3, h5⟩⟩
        · exact e (by rw [show a = j by omega, show b = j + n by omega])
theorem Tab.next {l : List Nat} {n : Nat} {kvs : List (List Key × V)} (h : Tab l n (l.length + 1 - n) kvs) (hn : 1 ≤ n) : Tab l (n + 1) 0 kvs := fun a b => by
  rw [h a b]
  by_cases c : a < b ∧ b ≤ l.length ∧ (b - a < n ∨ (b - a = n ∧ a < l.length + 1 - n))
  · rw [if_pos c, if_pos (by omega)]
  · rw [if_neg c, if_neg (by omega)]
theorem Tab.eqv {l : List Nat} {n j f : Nat} {kvs : List (List Key × V)} (h : Tab l n j kvs) (hn : 1 ≤ n) (hf : f + n ≤ l.length) (e : l[f]? = l[f + n - 1]?) : (valV kvs (ky (f + 1) (f + n - 1))).getD (.int 0) = .int (mendL l n f : Nat) := by
  match n, hn with
  | 1, _ => rw [h, if_neg (by omega)]; rfl
  | 2, _ =>
    rw [h, if_neg (by omega)]
    unfold mendL
    rw [if_pos (by simpa using e)]
    rfl
  | n + 3, _ =>
    rw [h.in_ (by omega) (by omega) (by omega)]
    rw [show f + (n + 3) - 1 - (f + 1) = n + 1 by omega, Option.getD_some]
    conv => rhs; rw [mendL, if_pos (by rw [show f + (n + 1) + 1 = f + (n + 3) - 1 by omega]; exact e)]
theorem mend_ne {l : List Nat} {n f : Nat} (hn : 2 ≤ n) (e : ¬ l[f]? = l[f + n - 1]?) : mendL l n f = min (mendL l (n - 1) (f + 1)) (mendL l (n - 1) f) + 1 := by
  match n, hn with
  | n + 2, _ =>
    rw [mendL, if_neg (by rw [show f + n + 1 = f + (n + 2) - 1 by omega]; exact e)]
    rfl
theorem dg_t {H : Hp} {a b : Addr} {kvs : List (List Key × V)} {k : List Key} {v : V} (e : H a = some (.dT kvs)) (eb : H b = some (.tup (k.map kV))) (hv : valV kvs k = some v) : DGet H a (.ref b) (some v) := hv ▸ DGet.t e eb
theorem min_ii (a b : Nat) : (if (b : Int) < (a : Int) then (b : Int) else (a : Int)) = ((min a b : Nat) : Int) := by split <;> omega
def TabW (l : List Nat) (kvs : List (List Key × V)) : Prop := Tab l (l.length + 1) 0 kvs
def spMoreFor : Sp := fun vs H Q _ => ∃ (l : List Nat) (pt : Addr) (kvs : List (List Key × V)) (n f j : Nat), vs = [.str (tx l), .ref pt, .int (f : Int), .int ((f + n : Nat) : Int)] ∧ l.length ≤ 200 ∧ H pt = some (.dT kvs) ∧ Tab l n j kvs ∧ 1 ≤ n ∧ f + n ≤ l.length ∧
  ∀ H', Same H H' → Q (.int (mendL l n f : Nat)) H'
def spMendT : Sp := fun vs H Q _ => ∃ l : List Nat, vs = [.str (tx l)] ∧ rowL l = true ∧ l.length ≤ 60 ∧ ∀ (p : Addr) (kvs : List (List Key × V)) (H' : Hp), H p = none → H' p = some (.dT kvs) → TabW l kvs → Same H H' → Q (.ref p) H'
def spMore : Sp := fun vs H Q _ => ∃ l : List Nat, vs = [.str (tx l)] ∧ rowL l = true ∧ l.length ≤ 60 ∧ ∀ H', Same H H' → Q (.int (mendL l l.length 0 : Nat)) H'
def Ref2 (K : PySem.W.Frag) (H : Hp) (x : V) (c0 c2 C : Addr) : Prop := (Thing K H x ∧ rowV x = false ∧ C = c0) ∨ (∃ l : List Nat, x = .str (tx l) ∧ rowL l = true ∧ 60 < l.length ∧ C = c2)
def spNS (K : PySem.W.Frag) (c0 c2 : Addr) : Sp := fun vs H _ E => ∃ (x : V) (C : Addr), vs = [x] ∧ Ref2 K H x c0 c2 C ∧ ∀ H', Same H H' → E (.ref C) none H'
def spNSb (K : PySem.W.Frag) (c0 c2 : Addr) : Sp := fun vs H _ E => ∃ (x y : V) (C : Addr), vs = [y, x] ∧ Ref2 K H x c0 c2 C ∧ ∀ H', Same H H' → E (.ref C) none H'
def RefL (K : PySem.W.Frag) (H : Hp) (x y : V) (c0 c2 C : Addr) : Prop :=
  (Thing K H x ∧ rowV x = false ∧ C = c0) ∨ ∃ l : List Nat, x = .str (tx l) ∧ rowL l = true ∧ ((Thing K H y ∧ rowV y = false ∧ C = c0) ∨
    ∃ m : List Nat, y = .str (tx m) ∧ rowL m = true ∧ (60 < l.length ∨ 120 < m.length) ∧ C = c2)
def spLiX (K : PySem.W.Frag) (c0 c2 : Addr) : Sp := fun vs H _ E => ∃ (x y z : V) (C : Addr), vs = [x, y, z] ∧ RefL K H x y c0 c2 C ∧ ∀ H', Same H H' → E (.ref C) none H'
def spLi0 : Sp := fun vs H Q _ => ∃ l m : List Nat, vs = [.str (tx l), .str (tx m), .non] ∧ rowL l = true ∧ l.length ≤ 60 ∧ rowL m = true ∧ m.length ≤ 120 ∧ ∀ H', Same H H' → Q (.bl false) H'
def Ask56 (K : PySem.W.Frag) (H : Hp) (m : Nat) (x g : V) (c0 c2 C : Addr) : Prop := (m ≤ 6 ∧ Ref2 K H x c0 c2 C) ∨ (m = 7 ∧ RefL K H x g c0 c2 C) ∨ (m = 8 ∧ RefL K H g x c0 c2 C)
def AskR (m : Nat) (x g : V) : Prop := ∃ l r : List Nat, rowL l = true ∧ rowL r = true ∧ (((m = 0 ∨ m = 6) ∧ x = .str (tx l) ∧ l.length ≤ 60) ∨ (m = 7 ∧ x = .str (tx l) ∧ g = .str (tx r) ∧ l.length ≤ 60 ∧ r.length ≤ 120) ∨ (m = 8 ∧ g = .str (tx l) ∧ x = .str (tx r) ∧ l.length ≤ 60 ∧ r.length ≤ 120))
def spAskX (K : PySem.W.Frag) (c0 c2 : Addr) : Sp := fun vs H Q E => ∃ (m : Nat) (x g : V), vs = [.int (m : Int), x, g] ∧ ((∃ C, Ask56 K H m x g c0 c2 C ∧ ∀ H', Same H H' → E (.ref C) none H') ∨ (AskR m x g ∧ ∀ H', Same H H' → Q .non H'))
def spTold56 (K : PySem.W.Frag) (c0 c2 : Addr) : Sp := fun vs H Q _ => ∃ (m : Nat) (x g : V) (r : List V), vs = [.int (m : Int), x, g] ∧ ((Ask56 K H m x g c0 c2 c0 ∧ r = [.int 0]) ∨ (Ask56 K H m x g c0 c2 c2 ∧ r = [.int 2]) ∨ (AskR m x g ∧ r = [])) ∧ ∀ p H', H p = none → H' p = some (.lst r) → Same H H' → Q (.ref p) H'
def abN (j : Nat) : List Nat := repL [97, 98] (if j = 8 then 60 else 30)
end Mr
namespace L2
open PySem PySem.Spec PyProof.Rows
theorem list_keys_none : typeLookup (.type "list") "keys" = pure none := by rw [typeLookup_type, builtinLookup_eq_fast]; kernel_rfl
theorem list_getattr_none : typeLookup (.type "list") "__getattr__" = pure none := by rw [typeLookup_type, builtinLookup_eq_fast]; kernel_rfl
theorem list_entry_ga : entryFor table "list.__getattribute__" = some Builtin.«object.__getattribute__» := entryFor_alias (id' := "object.__getattribute__") (by kernel_rfl) (by decide +kernel) (by decide +kernel) (by kernel_rfl)
theorem list_args_ga (a b : Value) : argsOk "list.__getattribute__" ⟨[a, b], []⟩ := by unfold argsOk; kernel_rfl
def NoKeys (a : Addr) : PySem.Spec := fun A R s => (∃ xs n, s.heap.get? a = some { cls := .type "list", data := .seq xs n }) ∧ raisesAttr (.ref a) "keys" A R s
theorem meets_no_keys (a : Addr) (u : Tok) : Meets (Builtin.«object.__getattribute__» ⟨[.ref a, .str "keys" u], []⟩) (NoKeys a) :=
  Meets.of_wp fun prog w A R s hs => by
    obtain ⟨hp, g, d, tk, os⟩ := s
    obtain ⟨⟨xs, n, hl⟩, hs⟩ := hs
    have hT : ∀ tk' : Nat, Shared.TypeIs ⟨hp, g, d, tk', os⟩ (.ref a) "list" := fun _ => ⟨_, hl, rfl⟩
    have hmiss := list_keys_none
    unfold Builtin.«object.__getattribute__»
    (repeat (any_goals (first | assumption | (with_reducible refine wpAny_loadPart_at hl ?_) | wp_step)))
    exact wpAny_raiseAttrError hs.1 hs.2 (attrMsg_fits (by decide +kernel) (by size_fits))
section
variable {prog : Program} {w : World} {A : Around} {E : Value → Shared → Prop} {s : Shared}
theorem ask_keys {a : Addr} {xs : Array Value} {n : Nat} {Q : Option Value → Shared → Prop} (hh : A.handled = none) (hl : s.heap.get? a = some { cls := .type "list", data := .seq xs n }) (h : ∀ h' tk, (∀ b o, s.heap.get? b = some o → h'.get? b = some o) → Q none { s with heap := h', toks := tk }) :
    wpAny (model prog w) A (getAttr? (.ref a) "keys") Q E s := by
  obtain ⟨hp, g, d, tk, os⟩ := s
  have hT : ∀ tk' : Nat, Shared.TypeIs ⟨hp, g, d, tk', os⟩ (.ref a) "list" := fun _ => ⟨_, hl, rfl⟩
  have f1 := sub_AttributeError
  have f3 := PySem.F.slot_list_getattribute.lookup
  have f4 := PySem.F.slot_list_getattribute.bind (.ref a)
  have f5 := list_getattr_none
  unfold getAttr? getAttrBy? getAttrBy
  refine wpAny_bind (wpAny_mkText (wpAny_bind (wpAny_attempt ?_)))
  (repeat (any_goals (first | assumption | ((with_reducible show wpAny _ _ (call (Value.builtin "list.__getattribute__") _ _) _ _ _); refine call_meets PySem.F.slot_list_getattribute (hT _) list_entry_ga (list_args_ga _ _) (meets_no_keys a _) ⟨⟨xs, n, hl⟩, hh, fun h' tk' e hx => ?_⟩) | (with_reducible refine wpAny_loadPart_at hl ?_) | wp_step)))
  obtain ⟨t1, u1, he⟩ := hx.there
  have hE : ∀ tk' : Nat, Shared.TypeIs ⟨h', g, d, tk', os⟩ (.ref e) "AttributeError" := fun _ => ⟨_, he, rfl⟩
  show wpAny _ _ (getattributeRaised _ _ _ _ _ _ _) _ _ _
  unfold getattributeRaised
  (repeat (any_goals (first | assumption | (with_reducible refine wpAny_loadPart_at he ?_) | wp_step)))
  exact h _ _ hx.keeps
end
end L2
namespace L2
open PySem PySem.Spec PyProof.Rows
theorem entry_dul : entryFor table "dict.update.loop" = some Builtin.«dict.update.loop» := entryFor_of_tree (by kernel_rfl)
theorem plain_dul : plainId "dict.update.loop" = true := by decide +kernel
def putAll (kvs : List (Key × V)) : List (Str × V) → List (Key × V)
  | [] => kvs
  | (k, v) :: r => putAll (putK kvs (Sum.inr k) v) r
section
variable {X : Cx} {pins : List (Addr × Obj)} {σ : St} {A : Around}
end
end L2
namespace L2
open PySem PySem.Spec PyProof.Rows
section
variable {X : Cx}
def Itf (d : Addr) (o : Obj) (kvs : List (Key × V)) : It :=
  ⟨fun i H => H d = some (.frz o (.dK kvs)) ∧ i < kvs.length, fun i H x H' => H' = H ∧ ∃ kv, kvs[i]? = some kv ∧ x = kV kv.1, fun i H => H d = some (.frz o (.dK kvs)) ∧ kvs.length ≤ i⟩
theorem rel_kV {P : Program} {w : World} {k : Key} {u : Value} (h : (mixKind P w).is k u = true) : RelV (kV k) u := by
  rcases keyIs_shape h with ⟨i, t, rfl, rfl⟩ | ⟨x, t, rfl, rfl⟩
  · exact ⟨t, rfl⟩
  · exact ⟨t, rfl⟩
def iDict (tl : TE) : TI := fun σ H R => tl σ H fun x H1 => ∃ (d : Addr) (kvs : List (Key × V)), x = .ref d ∧ H1 d = some (.dK kvs) ∧ ∀ o, R (Itf d o kvs) (upd H1 d (.frz o (.dK kvs)))
def tThaw (H₀ : Hp) (t : TE) : TE := fun σ H Q => t σ H fun v H' => ∃ (d : Addr) (o : Obj) (kvs : List (Key × V)), H' d = some (.frz o (.dK kvs)) ∧ H₀ d = none ∧ Q v (upd H' d (.dK kvs))
end
end L2
namespace L2
open PySem PySem.Spec PyProof.Rows
section
variable {X : Cx}
end
end L2
namespace L2
open PySem PySem.Spec PyProof.Rows PySem.W
section
variable {X : Cx}
theorem vals_of : ∀ {xs : List V} {us : List Value}, us.length = xs.length → (∀ (j : Nat) (x : V) (u : Value), xs[j]? = some x → us[j]? = some u → RelV x u) → Vals xs us
  | [], [], _, _ => .nil
  | [], _ :: _, h, _ => by simp at h
  | _ :: _, [], h, _ => by simp at h
  | x :: xs, u :: us, h, hv => .cons (hv 0 x u rfl rfl) (vals_of (by simpa using h) fun j y v a b => hv (j + 1) y v a b)
section
variable {pg : Program} {wd : World} {B : Around} {Fx : Value → Shared → Prop} {t : Shared} {ty : String} {src dd : Addr} {n : Nat} {P : Nat → Value → Prop} {Okk : Heap → Prop}
theorem gathered {R : List Value → Shared → Prop} (S : KdlSrc pg wd ty src dd n P Okk) (hB : B.handled = none) (hO : Okk t.heap) (few : n ≤ sizeLine)
    (go : ∀ (g : Heap) (k : Nat) (got : Array Value), t.heap.objs.size < g.objs.size → (∀ b o, t.heap.get? b = some o → g.get? b = some o) → ItemsOf P got n → R got.toList { t with heap := g, toks := k }) :
    wpAny (model pg wd) B (collect (.ref src)) R Fx t := by
  have th := S.there _ hO
  unfold collect
  refine wpAny_bind ?_
  refine wpAny_runValue ?_
  refine codeAny_builtin entry_proto_collect' ?_
  rw [Around.under_plainId PySem.F.plain_proto_collect _]
  show wpAny _ B.in1 (newList [] >>= fun q => again (.builtin "list.__iadd__" ⟨[q, .ref src], []⟩)) _ _ t
  refine wpAny_bind ?_
  refine wpAny_newObj_type ?_
  refine wpAny_pure ⟨plainId_quiet PySem.F.plain_list_iadd _, ?_⟩
  refine codeAny_builtin entry_list_iadd' ?_
  rw [Around.under_plainId PySem.F.plain_list_iadd _]
  have at0 : (t.heap.push { cls := .type "list", data := .seq ([] : List Value).toArray }).get? t.heap.objs.size = some { cls := .type "list", data := .seq #[] } := Heap.get?_push_size _ rfl
  show wpAny _ B.in1 (Builtin.List.listExtendWith (.ref t.heap.objs.size) (.ref src) (.ref t.heap.objs.size)) _ _ _
  have got := kdl_extend (A := B) (s := { t with heap := t.heap.push { cls := .type "list", data := .seq ([] : List Value).toArray } })
    (R := fun (res : Result) (t' : Shared) => ∃ (g : Heap) (k : Nat) (xs : Array Value) (c : Nat), res = .ok (.ret (.ref t.heap.objs.size)) ∧ t' = { t with heap := g, toks := k } ∧
      (∀ b o, t.heap.get? b = some o → g.get? b = some o) ∧ g.get? t.heap.objs.size = some { cls := .type "list", dict := none, data := .seq xs c, slots := #[] } ∧ ItemsOf P xs n)
    S hB (S.keep _ _ hO fun b _ o e => Heap.get?_push_of_some _ e) t.heap.objs.size (Nat.ne_of_gt th.1) (Nat.ne_of_gt th.2) (.ref t.heap.objs.size) 0 at0
    (fun g k xs c kp e its => ⟨g, k, xs, c, rfl, rfl, fun b o y => kp b o (Nat.ne_of_lt (Heap.lt_size y)) (Heap.get?_push_of_some _ y), e, its⟩) few
  refine wpAny_mono got (fun fin t' z => ?_) (fun e t' z => ?_)
  · cases fin with
    | done f =>
      obtain ⟨g, k, xs, c, y, rfl, kp, e, its⟩ := z
      cases y
      show wpAny _ B (load t.heap.objs.size >>= _) _ _ _
      exact wpAny_bind (wpAny_load e (wpAny_pure (go g k xs (Heap.lt_size e) kp its)))
    | again c₁ =>
      refine ⟨z.1, codeAny_mono z.2 fun res t₂ y => ?_⟩
      obtain ⟨g, k, xs, c, rfl, rfl, kp, e, its⟩ := y
      show wpAny _ B (load t.heap.objs.size >>= _) _ _ _
      exact wpAny_bind (wpAny_load e (wpAny_pure (go g k xs (Heap.lt_size e) kp its)))
  · obtain ⟨_, _, _, _, y, _⟩ := z
    cases y
end
end
end L2
namespace L2
open PySem PySem.Spec PyProof.Rows PySem.W
def RawD (g : Heap) (d : Addr) (es : Array DictEntry) (ep : Nat) : Prop := ∃ o, g.get? d = some o ∧ o.ExactDict ∧ o.data = .dict es ep
theorem RawD.ty {t : Shared} {d : Addr} {es : Array DictEntry} {ep : Nat} (h : RawD t.heap d es ep) : t.TypeIs (.ref d) "dict" := let ⟨o, e, x, _⟩ := h; ⟨o, e, x.1⟩
theorem RawD.lt {g : Heap} {d : Addr} {es : Array DictEntry} {ep : Nat} (h : RawD g d es ep) : d < g.objs.size := let ⟨_, e, _⟩ := h; Heap.lt_size e
theorem RawD.at {g g' : Heap} {d : Addr} {es : Array DictEntry} {ep : Nat} (h : RawD g d es ep) (k : ∀ o, g.get? d = some o → g'.get? d = some o) : RawD g' d es ep := let ⟨o, e, x⟩ := h; ⟨o, k o e, x⟩
section
variable {pg : Program} {wd : World} {B : Around} {Fx : Value → Shared → Prop} {t : Shared} {d it : Addr} {es : Array DictEntry} {ep i : Nat}
theorem raw_iter {R : Value → Shared → Prop} (nd : (d == sysModules) = false) (r : RawD t.heap d es ep)
    (q : R (.ref t.heap.objs.size) { t with heap := t.heap.push { cls := .type "dict_keyiterator", data := .fields #[.ref d, .int 0 0, .int es.size 0, .int ep 0] } }) : wpAny (model pg wd) B (pyIter (.ref d)) R Fx t := by
  have ty := r.ty
  obtain ⟨o, e1, _, e3⟩ := r
  refine wpAny_pyIter_slot ty F.slot_dict_iter (wpAny_call_entry F.slot_dict_iter ty F.entry_dict_iter ?_ (F.args_dict_iter_1 _))
  unfold Builtin.«dict.__iter__» Builtin.Dict.dictSlotNone Builtin.Dict.showsAll
  refine wpAny_bind (wpAny_bind (wpAny_notOrdered_dict ty ?_)); show wpAny _ _ (pure (Value.ref d)) _ _ t; refine wpAny_pure ?_
  show wpAny _ _ ((if (d == sysModules) = true then _ else _) >>= _) _ _ t
  rw [if_neg (by rw [nd]; decide)]; refine wpAny_bind (wpAny_pure (wpAny_bind (wpAny_dictEntries e1 e3 (wpAny_bind (wpAny_dictEpoch e1 e3 ?_)))))
  exact wpAny_bind (wpAny_newObj_type (wpAny_pure ⟨_, rfl, "dict_keyiterator", _, ⟨_, Heap.get?_push_size _ rfl, rfl⟩, F.slot_dict_keyiterator_next.lookup, q⟩))
theorem raw_item {R : Option Value → Shared → Prop} {e : DictEntry} (st : t.heap.IsKeyIter it d i es.size ep) (r : RawD t.heap d es ep) (he : es[i]? = some e)
    (q : ∀ g, g.IsKeyIter it d (i + 1) es.size ep → Heap.SameBut it t.heap g → R (some e.key) { t with heap := g }) : wpAny (model pg wd) B (pyNext (.ref it)) R Fx t := by
  have ty := st.typeIs
  obtain ⟨oi, a1, a2, a3⟩ := id st
  obtain ⟨o, e1, _, e3⟩ := r
  unfold pyNext; refine wpAny_bind (wpAny_attempt (wpAny_callSpecial?_slot (name := Str.ofString "__next__") ty F.slot_dict_keyiterator_next (wpAny_call_entry F.slot_dict_keyiterator_next ty F.entry_dict_keyiterator_next ?_ (F.args_dict_keyiterator_next_1 _))))
  refine wpAny_bind (wpAny_pure (wpAny_bind (wpAny_bind ?_)))
  first | refine wpAny_bind (wpAny_typeNameOfWhole_keyiter ty (wpAny_pure (wpAny_bind (wpAny_fieldsOf a1 a3 ?_)))) | refine wpAny_bind (wpAny_typeNameOf_keyiter ty (wpAny_pure (wpAny_bind (wpAny_fieldsOf a1 a3 ?_))))
  have no : Builtin.Dict_items.ownsTuple "dict_keyiterator" = false := by decide
  simp only [no, Bool.false_eq_true, if_false]
  show wpAny _ _ (if (Value.ref d == Value.none) = true then _ else _) _ _ t
  rw [if_neg (show ¬ (Value.ref d == Value.none) = true by exact Bool.false_ne_true)]; refine wpAny_bind (wpAny_pure (wpAny_bind (wpAny_dictEntries e1 e3 ?_)))
  rw [if_neg (by simp)]; refine wpAny_bind (wpAny_pure (wpAny_bind (wpAny_dictEpoch e1 e3 ?_)))
  rw [if_neg (by simp)]; refine wpAny_pure ?_
  simp only [show ¬ ((i : Int) < 0) from by omega, if_false, Int.toNat_natCast, he]
  refine wpAny_bind ?_
  first | refine wpAny_bind (wpAny_typeNameOfWhole_keyiter ty (wpAny_pure (wpAny_bind (wpAny_isOneOf_keyiter ty ?_)))) | refine wpAny_bind (wpAny_typeNameOf_keyiter ty (wpAny_pure (wpAny_bind (wpAny_isOneOf_keyiter ty ?_))))
  show wpAny _ _ (setField (.ref it) 1 (rawInt ((i : Int) + 1)) >>= _) _ _ t; refine wpAny_bind (wpAny_setField a1 a3 (by simp) ?_)
  have st' : (t.heap.update it (Obj.mapFields (·.setIfInBounds 1 (rawInt ((i : Int) + 1))))).IsKeyIter it d (i + 1) es.size ep :=
    ⟨_, Heap.get?_update_self _ a1 (Obj.isFreed_of_fields (Obj.data_mapFields a3 _)), (Obj.cls_mapFields ..).trans a2, by rw [Obj.data_mapFields a3]; simp [rawInt]⟩
  refine wpAny_bind (wpAny_holding (wpAny_bind (wpAny_isOneOf_keyiter (s := { t with heap := t.heap.update it (Obj.mapFields (·.setIfInBounds 1 (rawInt ((i : Int) + 1)))) }) st'.typeIs ?_)))
  show wpAny _ _ (pure e.key) _ _ _
  exact wpAny_pure (wpAny_pure ⟨_, rfl, wpAny_pure (q _ st' (Heap.SameBut.update ..))⟩)
theorem raw_end {R : Option Value → Shared → Prop} (hB : B.handled = none) (st : t.heap.IsKeyIter it d i es.size ep) (r : RawD t.heap d es ep) (hi : es.size ≤ i)
    (q : ∀ g, Heap.ExtBut it t.heap g → R none { t with heap := g }) : wpAny (model pg wd) B (pyNext (.ref it)) R Fx t := by
  have ty := st.typeIs
  obtain ⟨oi, a1, a2, a3⟩ := id st
  obtain ⟨o, e1, _, e3⟩ := r
  unfold pyNext; refine wpAny_bind (wpAny_attempt (wpAny_callSpecial?_slot (name := Str.ofString "__next__") ty F.slot_dict_keyiterator_next (wpAny_call_entry F.slot_dict_keyiterator_next ty F.entry_dict_keyiterator_next ?_ (F.args_dict_keyiterator_next_1 _))))
  refine wpAny_bind (wpAny_pure (wpAny_bind (wpAny_bind ?_)))
  first | refine wpAny_bind (wpAny_typeNameOfWhole_keyiter ty (wpAny_pure (wpAny_bind (wpAny_fieldsOf a1 a3 ?_)))) | refine wpAny_bind (wpAny_typeNameOf_keyiter ty (wpAny_pure (wpAny_bind (wpAny_fieldsOf a1 a3 ?_))))
  have no : Builtin.Dict_items.ownsTuple "dict_keyiterator" = false := by decide
  simp only [no, Bool.false_eq_true, if_false]
  show wpAny _ _ (if (Value.ref d == Value.none) = true then _ else _) _ _ t
  rw [if_neg (show ¬ (Value.ref d == Value.none) = true by exact Bool.false_ne_true)]; refine wpAny_bind (wpAny_pure (wpAny_bind (wpAny_dictEntries e1 e3 ?_)))
  rw [if_neg (by simp)]; refine wpAny_bind (wpAny_pure (wpAny_bind (wpAny_dictEpoch e1 e3 ?_)))
  rw [if_neg (by simp)]; refine wpAny_pure ?_
  simp only [show ¬ ((i : Int) < 0) from by omega, if_false, Int.toNat_natCast, Array.getElem?_eq_none hi]
  refine wpAny_bind ?_
  first | refine wpAny_bind (wpAny_typeNameOfWhole_keyiter ty (wpAny_pure ?_)) | refine wpAny_bind (wpAny_typeNameOf_keyiter ty (wpAny_pure ?_))
  show wpAny _ _ (setField (.ref it) 0 .none >>= _) _ _ t; refine wpAny_bind (wpAny_setField a1 a3 (by simp) ?_)
  show wpAny _ _ (newExc (.type "StopIteration") [] >>= _) _ _ _; refine wpAny_bind ?_
  simp only [newExc, newTuple]; refine wpAny_bind (wpAny_newObj_type ?_ (by size_fits))
  refine wpAny_bind (m := firstArgMember _ _) (wpAny_of_eq (a := Value.none) (by first | rfl | (simp only [firstArgMember]; rfl)) (wpAny_newObj_type ?_ (by size_fits)))
  simp only [raiseNew]; refine wpAny_bind (wpAny_handled ?_)
  rw [show B.in1.handled = none from hB]; refine wpAny_bind (wpAny_pure (wpAny_throw ?_))
  exact wpAny_bind (wpAny_isInstance (T := "StopIteration") (b := true) ⟨_, Heap.get?_push_size _ rfl, rfl⟩ isSubtype_stop (wpAny_pure (q _ (((Heap.SameBut.update ..).extBut.push _).push _))))
end
theorem paired_at {α β : Type} {F : α → β → Prop} : ∀ {l : List α} {m : List β} {i : Nat} {p : α}, Paired F l m → l[i]? = some p → ∃ q, m[i]? = some q ∧ F p q
  | _, _, 0, _, .cons r _, e => by cases e; exact ⟨_, rfl, r⟩
  | _, _, i + 1, _, .cons _ r, e => paired_at (i := i) r e
  | _, _, _, _, .nil, e => by simp at e
theorem paired_len {α β : Type} {F : α → β → Prop} : ∀ {l : List α} {m : List β}, Paired F l m → l.length = m.length
  | _, _, .nil => rfl
  | _, _, .cons _ r => congrArg (· + 1) (paired_len r)
theorem dT_entry {P : Program} {w : World} {H : Hp} {h : Heap} {d : Addr} {o : Obj} {kvs : List (List Key × V)} {es : Array DictEntry} {ep i : Nat} {kv : List Key × V} (ok : ObjOk P w H h d (.dT kvs)) (ho : h.get? d = some o) (hd : o.data = .dict es ep) (hk : kvs[i]? = some kv) :
    ∃ (b : Addr) (u : Value), es[i]? = some ⟨(tupleKind (mixKind P w)).hash kv.1, .ref b, u⟩ ∧ H b = some (.tup (kv.1.map kV)) ∧ RelV kv.2 u := by
  obtain ⟨_, _, xs, r, o2, es2, ep2, h1, h2, h3, h4, h5⟩ := ok
  have e1 : o2 = o := Option.some.inj (h1.symm.trans ho)
  subst e1
  rw [hd] at h3
  have e2 : es = es2 := by injection h3
  subst e2
  obtain ⟨q, hq, f1, f2, f3⟩ := paired_at r hk
  refine ⟨q.2.1, q.2.2, ?_, f2, f3⟩
  rw [← Array.getElem?_toList, h4, List.getElem?_map, hq, f1]
  rfl
theorem dT_size {P : Program} {w : World} {H : Hp} {h : Heap} {d : Addr} {o : Obj} {kvs : List (List Key × V)} {es : Array DictEntry} {ep : Nat} (ok : ObjOk P w H h d (.dT kvs)) (ho : h.get? d = some o) (hd : o.data = .dict es ep) : es.size = kvs.length := by
  obtain ⟨_, _, xs, r, o2, es2, ep2, h1, h2, h3, h4, h5⟩ := ok
  have e1 : o2 = o := Option.some.inj (h1.symm.trans ho)
  subst e1
  rw [hd] at h3
  have e2 : es = es2 := by injection h3
  subst e2
  rw [← Array.length_toList, h4, List.length_map, paired_len r]
def ItT (d : Addr) (o : Obj) (kvs : List (List Key × V)) : It :=
  ⟨fun i H => H d = some (.frz o (.dT kvs)) ∧ i < kvs.length, fun i H x H' => H' = H ∧ ∃ kv b, kvs[i]? = some kv ∧ x = .ref b ∧ H b = some (.tup (kv.1.map kV)), fun i H => H d = some (.frz o (.dT kvs)) ∧ kvs.length ≤ i⟩
theorem turn_dT {P : Program} {w : World} {K : PySem.W.Frag} {tg : Expr} (d it : Addr) (o : Obj) (kvs : List (List Key × V)) (es : Array DictEntry) (ep : Nat) (hx : o.ExactDict) (hd : o.data = .dict es ep) (hn : es.size = kvs.length) :
    Turn P w K tg (ItT d o kvs) [it] it (fun i h => h.IsKeyIter it d i es.size ep) where
  mem := List.mem_singleton.mpr rfl
  obj := fun i h st b hb => by
    obtain rfl := List.mem_singleton.mp hb
    obtain ⟨o, e, c, dd⟩ := st
    exact ⟨o, e, fun v z => by rw [dd] at z; cases z⟩
  keep := fun i h h' st k => st.at fun o e => k it (List.mem_singleton.mpr rfl) o e
  item := by
    intro X hP hw hK hc i pins s σ H E I hf st hg
    subst hP hw hK
    obtain ⟨hH, hi⟩ := hg
    obtain ⟨ho, ok⟩ := (show ObjOk X.prog X.w H s.heap d (.frz o (.dT kvs)) from I.hok d _ hH)
    obtain ⟨f0, f1, f2, f3, f4, f5⟩ := hf it (List.mem_singleton.mpr rfl)
    obtain ⟨b, u, g1, g2, g3⟩ := dT_entry ok ho hd (List.getElem?_eq_getElem hi)
    refine raw_item st ⟨o, ho, hx, hd⟩ g1 fun h' st' sb => ?_
    have I1 : Inv X pins σ H { s with heap := h' } := I.turned (t' := s.toks) (fun b o hb e => (sb.2 b hb).trans e) f0 f1 f3 f4 f5
    obtain ⟨o', e, c, dd⟩ := id st'
    exact ⟨_, rfl, go_of (s := { s with heap := h' }) e c dd (by decide) ⟨.ref b, H, I1, rfl, ⟨rfl, kvs[i], b, List.getElem?_eq_getElem hi, rfl, g2⟩, st', fun b hb => (hf b hb).1⟩⟩
  done := by
    intro X hP hw hK hc i pins s σ H E I hf st hg
    subst hP hw hK
    obtain ⟨hH, hi⟩ := hg
    obtain ⟨ho, _⟩ := (show ObjOk X.prog X.w H s.heap d (.frz o (.dT kvs)) from I.hok d _ hH)
    obtain ⟨f0, f1, f2, f3, f4, f5⟩ := hf it (List.mem_singleton.mpr rfl)
    exact raw_end (I.ok.hd hc) st ⟨o, ho, hx, hd⟩ (by omega) fun h' eb => ⟨rfl, I.turned (t' := s.toks) (fun b o hb e => eb b o hb e) f0 f1 f3 f4 f5⟩
  self := fun _ _ _ _ _ st h => wpAny_pyIter_keyiter st h
section
variable {X : Cx}
def iDictT (tl : TE) : TI := fun σ H R => tl σ H fun x H1 => ∃ (d : Addr) (kvs : List (List Key × V)), x = .ref d ∧ H1 d = some (.dT kvs) ∧ ∀ o, R (ItT d o kvs) (upd H1 d (.frz o (.dT kvs)))
theorem pi_dictT {tg l : Expr} {tl : TE} (hl : PE X l tl) : PI X tg l (iDictT tl) := by
  intro pins s σ H R I h
  refine thn (hl pins s σ H _ I h) fun v s1 h1 => ?_
  obtain ⟨x, H1, I1, r1, d, kvs, e, hq, q⟩ := h1
  subst e
  cases r1
  have ok := (show ObjOk X.prog X.w H1 s1.heap d (.dT kvs) from I1.hok d _ hq)
  obtain ⟨z, nd, xs, r, o, es, ep, ho, hx, hd, h4, h5⟩ := id ok
  have hn := dT_size ok ho hd
  have I2 : Inv X pins σ (upd H1 d (.frz o (.dT kvs))) s1 := I1.write (x := d) (e := d) (o := .frz o (.dT kvs)) (t' := s1.toks) (by rw [hq]; exact True.intro) (.inl rfl) (fun b u _ e => e) ⟨o, ho⟩ ⟨ho, ok.stay (fun b u _ e => e) (fun b e => by rw [upd_ne (fun z => by rw [z, hq] at e; cases e)]; exact e) (fun b ys e => by rw [upd_ne (fun z => by rw [z, hq] at e; cases e)]; exact e)⟩
  refine raw_iter nd ⟨o, ho, hx, hd⟩ ?_
  refine ⟨s1.heap.objs.size, [s1.heap.objs.size], _, _, upd H1 d (.frz o (.dT kvs)), rfl, I2.kept (t' := s1.toks) fun b o e => Heap.get?_push_of_some _ e, turn_dT d _ o kvs es ep hx hd hn, ⟨_, Heap.get?_push_size _ rfl, rfl, rfl⟩, fun b hb => ?_, q o⟩
  obtain rfl := List.mem_singleton.mp hb
  exact I2.fpOk (Nat.le_refl _) (I2.hok.fresh (Nat.le_refl _))
theorem Inv.thawU {pins : List (Addr × Obj)} {σ : St} {H : Hp} {s : Shared} {d : Addr} {o : Obj} {u : HO} (I : Inv X pins σ H s) (h : H d = some (.frz o u)) (hu : ∀ x, u ≠ .own x) (h0 : ∀ ob v, X.H₀ d ≠ some (.frz ob v)) : Inv X pins σ (upd H d u) s := by
  have no : ∀ b, H b = none → upd H d u b = none := fun b e => by rw [upd_ne (fun z => by rw [z, h] at e; cases e)]; exact e
  refine ⟨I.ok, I.os, I.bare, ⟨I.base.keep, I.base.slot, fun b ob e n hx => no b (I.base.free b ob e n hx), I.base.there, fun b xs e => ?_, fun b ob v e => ?_, fun b ps e => ?_⟩,
    I.loc, I.cell, no _ I.free, fun x c e => no _ (I.freeC x c e), fun p hp => ⟨(I.pin p hp).1, no _ (I.pin p hp).2.1, (I.pin p hp).2.2⟩, fun b v e => ?_, I.len⟩
  · have := I.base.tups b xs e
    rw [upd_ne (fun z => by rw [z, h] at this; cases this)]
    exact this
  · rw [upd_ne (fun z => h0 ob v (by rw [← z]; exact e))]
    exact I.base.frzs b ob v e
  · obtain ⟨ps', this⟩ := I.base.tbls b ps e
    refine ⟨ps', ?_⟩
    rw [upd_ne (fun z => by rw [z, h] at this; cases this)]
    exact this
  have st : ∀ {b : Addr} {v : HO}, ObjOk X.prog X.w H s.heap b v → ObjOk X.prog X.w (upd H d u) s.heap b v := fun x => x.stay (fun c w hc qq => qq) (fun c qq => by rw [upd_ne (fun z => by rw [z, h] at qq; cases qq)]; exact qq) fun c xs qq => by rw [upd_ne (fun z => by rw [z, h] at qq; cases qq)]; exact qq
  by_cases hb : b = d
  · subst hb
    rw [upd_same] at e
    cases e
    exact st (show ObjOk X.prog X.w H s.heap b (.frz o u) from I.hok b _ h).2
  · rw [upd_ne hb] at e
    exact st (I.hok b v e)
def tThawT (H₀ : Hp) (t : TE) : TE := fun σ H Q => t σ H fun v H' => ∃ (d : Addr) (o : Obj) (u : HO), H' d = some (.frz o u) ∧ (∀ x, u ≠ .own x) ∧ (∀ ob v, H₀ d ≠ some (.frz ob v)) ∧ Q v (upd H' d u)
theorem pe_thawT {e : Expr} {t : TE} (he : PE X e t) : PE X e (tThawT X.H₀ t) := by
  intro pins s σ H Q I h
  refine thn (he pins s σ H _ I h) fun v s1 h1 => ?_
  obtain ⟨x, H1, I1, r1, d, o, u, e1, e2, e3, q⟩ := h1
  exact ⟨x, _, I1.thawU e1 e2 e3, r1, q⟩
theorem comp_dictT {d : Addr} {o : Obj} {kvs : List (List Key × V)} {σ : St} {ix : List Nat} {tt : TT} {te : TE} {H : Hp} {Z : List V → Hp → Prop} (hl : kvs.length ≤ sizeLine) (Pv : Nat → List V → Hp → Prop) (h0 : Pv 0 [] H) (hk : ∀ i ys H, Pv i ys H → H d = some (.frz o (.dT kvs)))
    (hs : ∀ i kv b ys H (N : List V → Hp → Prop), kvs[i]? = some kv → H b = some (.tup (kv.1.map kV)) → ys.length ≤ i → Pv i ys H → (∀ ys' H', ys'.length ≤ i + 1 → Pv (i + 1) ys' H' → N ys' H') →
      tt ((cst ix σ).set 0 (some (.ref b))) H fun c H4 => if c = true then te ((cst ix σ).set 0 (some (.ref b))) H4 fun v H5 => N (ys ++ [v]) H5 else N ys H4)
    (hd : ∀ ys H, ys.length ≤ kvs.length → Pv kvs.length ys H → Z ys H) :
    ∃ W : Nat → Nat → List V → Hp → Prop, (∃ m, W 0 m [] H) ∧ ∀ i m ys H2, W i m ys H2 →
      ((ItT d o kvs).stop i H2 ∧ ys.length ≤ sizeLine ∧ Z ys H2) ∨
      ((ItT d o kvs).go i H2 ∧ ys.length ≤ sizeLine ∧ ∀ x H3, (ItT d o kvs).yld i H2 x H3 → tt ((cst ix σ).set 0 (some x)) H3 fun b H4 =>
        if b = true then te ((cst ix σ).set 0 (some x)) H4 fun v H5 => ∃ m', m' < m ∧ W (i + 1) m' (ys ++ [v]) H5 else ∃ m', m' < m ∧ W (i + 1) m' ys H4) := by
  refine ⟨fun i m ys H => m = kvs.length - i ∧ i ≤ kvs.length ∧ ys.length ≤ i ∧ Pv i ys H, ⟨kvs.length, by simp, Nat.zero_le _, Nat.le_refl _, h0⟩, ?_⟩
  rintro i m ys H ⟨rfl, hi, hy, p⟩
  have q := hk i ys H p
  by_cases hlt : i < kvs.length
  · refine .inr ⟨⟨q, hlt⟩, by omega, fun x H' y => ?_⟩
    obtain ⟨e, kv, b, y1, y2, y3⟩ := y
    subst e y2
    exact hs i kv b ys _ (fun ys' H5 => ∃ m', m' < kvs.length - i ∧ m' = kvs.length - (i + 1) ∧ i + 1 ≤ kvs.length ∧ ys'.length ≤ i + 1 ∧ Pv (i + 1) ys' H5) y1 y3 hy p fun ys' H' h1 h2 => ⟨kvs.length - (i + 1), by omega, rfl, hlt, h1, h2⟩
  · have e : i = kvs.length := by omega
    subst e
    exact .inl ⟨⟨q, Nat.le_refl _⟩, by omega, hd ys H hy p⟩
end
end L2
namespace L2
open PySem PySem.W PyProof.Rows
def KW {α : Type} (lt : Nat → Nat → Bool) (n : Nat) : KasT α → (α → Prop) → Prop
  | .ret a, Q => Q a
  | .ask i j k, Q => i < n ∧ j < n ∧ KW lt n (k (lt i j)) Q
section
variable {lt : Nat → Nat → Bool} {n : Nat}
structure OrdN (lt : Nat → Nat → Bool) (n : Nat) : Prop where
  tr : ∀ i j k, i < n → j < n → k < n → lt i j = true → lt j k = true → lt i k = true
  tot : ∀ i j, i < n → j < n → i ≠ j → lt i j = false → lt j i = true
def gN (p : Array Nat) (i : Nat) : Nat := p.getD i 0
structure PermN (p : Array Nat) (n : Nat) : Prop where
  pm : p.Perm (List.range n).toArray
def UpN (lt : Nat → Nat → Bool) (p : Array Nat) (m : Nat) : Prop := ∀ i j, i < j → j < m → lt (gN p i) (gN p j) = true
def DownN (lt : Nat → Nat → Bool) (p : Array Nat) (m : Nat) : Prop := ∀ i j, i < j → j < m → lt (gN p j) (gN p i) = true
end
end L2
namespace L2
open PySem PySem.W PySem.Spec PyProof.Rows
def lexB (a b : Int × Int) : Bool := decide (a.1 < b.1) || (decide (a.1 = b.1) && decide (a.2 < b.2))
theorem lexB_iff {a b : Int × Int} : lexB a b = true ↔ a.1 < b.1 ∨ (a.1 = b.1 ∧ a.2 < b.2) := by
  unfold lexB
  rw [Bool.or_eq_true, Bool.and_eq_true, decide_eq_true_iff, decide_eq_true_iff, decide_eq_true_iff]
def prAt (ps : List (Int × Int)) (i : Nat) : Int × Int := ps.getD i (0, 0)
theorem pr_get {ps : List (Int × Int)} {i : Nat} (h : i < ps.length) : ps[i]? = some (prAt ps i) := by
  unfold prAt
  rw [List.getD_eq_getElem?_getD, List.getElem?_eq_getElem h]
  rfl
theorem lex_ord {ps : List (Int × Int)} (nd : ps.Nodup) : OrdN (fun i j => lexB (prAt ps i) (prAt ps j)) ps.length where
  tr i j k _ _ _ h1 h2 := by
    rw [lexB_iff] at h1 h2 ⊢
    omega
  tot i j hi hj e h := by
    rw [lexB_iff]
    have h1 : ¬ ((prAt ps i).1 < (prAt ps j).1 ∨ ((prAt ps i).1 = (prAt ps j).1 ∧ (prAt ps i).2 < (prAt ps j).2)) := fun z => by
      have := lexB_iff.mpr z
      rw [h] at this
      cases this
    have ne : prAt ps i ≠ prAt ps j := fun z => by
      have a1 := pr_get hi
      have a2 := pr_get hj
      rw [z] at a1
      rw [List.getElem?_eq_getElem hi] at a1
      rw [List.getElem?_eq_getElem hj] at a2
      rcases Nat.lt_or_gt_of_ne e with h | h
      · exact (List.pairwise_iff_getElem.mp nd i j hi hj h) ((Option.some.inj a1).trans (Option.some.inj a2).symm)
      · exact (List.pairwise_iff_getElem.mp nd j i hj hi h) ((Option.some.inj a2).trans (Option.some.inj a1).symm)
    have ne2 : ¬ ((prAt ps i).1 = (prAt ps j).1 ∧ (prAt ps i).2 = (prAt ps j).2) := fun z => ne (Prod.ext z.1 z.2)
    omega
inductive TupsI (h : Heap) : List Value → List (Int × Int) → Prop
  | nil : TupsI h [] []
  | cons {a : Addr} {o : Obj} {t u : Tok} {n : Nat} {p : Int × Int} {vs : List Value} {ps : List (Int × Int)} (ho : h.get? a = some o) (hc : o.cls = .type "tuple") (hd : o.data = .seq #[.int p.1 t, .int p.2 u] n) (r : TupsI h vs ps) : TupsI h (.ref a :: vs) (p :: ps)
theorem TupsI.keep {h h' : Heap} (k : ∀ b o, h.get? b = some o → o.cls = .type "tuple" → h'.get? b = some o) {vs : List Value} {ps : List (Int × Int)} (T : TupsI h vs ps) : TupsI h' vs ps := by
  induction T with
  | nil => exact .nil
  | cons ho hc hd _ ih => exact .cons (k _ _ ho hc) hc hd ih
theorem TupsI.len {h : Heap} {vs : List Value} {ps : List (Int × Int)} (T : TupsI h vs ps) : vs.length = ps.length := by
  induction T with
  | nil => rfl
  | cons _ _ _ _ ih => rw [List.length_cons, List.length_cons, ih]
theorem TupsI.at {h : Heap} {vs : List Value} {ps : List (Int × Int)} (T : TupsI h vs ps) : ∀ {i : Nat}, i < ps.length → ∃ (a : Addr) (o : Obj) (t u : Tok) (n : Nat), vs.getD i Value.none = .ref a ∧ h.get? a = some o ∧ o.data = .seq #[.int (prAt ps i).1 t, .int (prAt ps i).2 u] n := by
  induction T with
  | nil => intro i hi; exact absurd hi (Nat.not_lt_zero _)
  | cons ho hc hd _ ih =>
    intro i hi
    cases i with
    | zero => exact ⟨_, _, _, _, _, rfl, ho, hd⟩
    | succ i =>
      obtain ⟨a, o, t, u, n, h1, h2, h3⟩ := ih (i := i) (Nat.lt_of_succ_lt_succ hi)
      exact ⟨a, o, t, u, n, h1, h2, h3⟩
theorem TupsI.firsts {h : Heap} {vs : List Value} {ps : List (Int × Int)} (T : TupsI h vs ps) : ∃ fs, KatTups h vs fs ∧ fs.length = ps.length ∧ ∀ v ∈ fs, ∃ i t, v = Value.int i t := by
  induction T with
  | nil => exact ⟨[], KatTups.nil, rfl, fun v hv => by cases hv⟩
  | @cons a o t u n p vs ps ho hc hd _ ih =>
    obtain ⟨fs, h1, h2, h3⟩ := ih
    refine ⟨Value.int p.1 t :: fs, KatTups.cons ho hc hd rfl h1, by rw [List.length_cons, List.length_cons, h2], fun v hv => ?_⟩
    rcases List.mem_cons.mp hv with rfl | hv
    · exact ⟨_, _, rfl⟩
    · exact h3 v hv
section
variable {prog : Program} {w : World} {A : Around} {E : Value → Shared → Prop} {s : Shared}
theorem tups_lt {vs : List Value} {ps : List (Int × Int)} (T : TupsI s.heap vs ps) {i j : Nat} (hi : i < ps.length) (hj : j < ps.length) {C : Bool → Shared → Prop} (h : C (lexB (prAt ps i) (prAt ps j)) s) : kas_ask prog w A (tuples' true) vs i j C s := by
  unfold kas_ask
  obtain ⟨a, o, t, u, n, e1, e2, e3⟩ := T.at hi
  obtain ⟨a', o', t', u', n', f1, f2, f3⟩ := T.at hj
  rw [e1, f1]
  generalize prAt ps i = p at e3 h
  generalize prAt ps j = q at f3 h
  refine kat_lt e2 e3 f2 f3 ?_
  refine kat_cons (wpAny_eqBool_int ?_)
  cases c1 : p.1 == q.1 with
  | false =>
    have n1 : p.1 ≠ q.1 := fun z => by rw [z, beq_self_eq_true] at c1; cases c1
    refine kat_no (oneLt_int ?_)
    have e : lexB p q = decide (p.1 < q.1) := by
      unfold lexB
      rw [decide_eq_false n1, Bool.false_and, Bool.or_false]
    rw [e] at h
    exact h
  | true =>
    have n1 : p.1 = q.1 := eq_of_beq c1
    refine kat_yes (kat_cons (wpAny_eqBool_int ?_))
    have e : lexB p q = decide (p.2 < q.2) := by
      unfold lexB
      rw [decide_eq_false (show ¬ p.1 < q.1 by omega), decide_eq_true n1, Bool.false_or, Bool.true_and]
    rw [e] at h
    cases c2 : p.2 == q.2 with
    | false => exact kat_no (kat_one _ _ (PyProof.Rows.lt_int h))
    | true =>
      have n2 : p.2 = q.2 := eq_of_beq c2
      rw [decide_eq_false (show ¬ p.2 < q.2 by omega)] at h
      exact kat_yes (kat_nil h)
theorem range_getD (vs : List Value) : (List.range vs.length).map (fun i => vs.getD i Value.none) = vs := by
  refine List.ext_getElem? fun i => ?_
  rw [List.getElem?_map]
  by_cases h : i < vs.length
  · rw [List.getElem?_range h, List.getElem?_eq_getElem h]
    show some (vs.getD i Value.none) = _
    rw [List.getD_eq_getElem?_getD, List.getElem?_eq_getElem h]
    rfl
  · rw [List.getElem?_eq_none (by rw [List.length_range]; omega), List.getElem?_eq_none (by omega)]
    rfl
end
def PrsV (H : Hp) (zs : List V) (ps : List (Int × Int)) : Prop := zs.length = ps.length ∧ ∀ i, i < ps.length → ∃ p : Addr, zs[i]? = some (.ref p) ∧ H p = some (.tup [.int (prAt ps i).1, .int (prAt ps i).2])
theorem PrsV.same {H H' : Hp} {zs : List V} {ps : List (Int × Int)} (s : ∀ a o, H a = some o → H' a = some o) (h : PrsV H zs ps) : PrsV H' zs ps := ⟨h.1, fun i hi => let ⟨p, e, q⟩ := h.2 i hi; ⟨p, e, s _ _ q⟩⟩
theorem PrsV.order {H : Hp} {zs : List V} {ps : List (Int × Int)} (h : PrsV H zs ps) {π : List Nat} (hπ : ∀ i ∈ π, i < ps.length) : PrsV H (π.map fun i => zs.getD i .non) (π.map (prAt ps)) := by
  refine ⟨by rw [List.length_map, List.length_map], fun i hi => ?_⟩
  rw [List.length_map] at hi
  obtain ⟨p, e1, e2⟩ := h.2 π[i] (hπ _ (List.getElem_mem hi))
  refine ⟨p, ?_, ?_⟩
  · rw [List.getElem?_map, List.getElem?_eq_getElem hi]
    show some (zs.getD π[i] .non) = _
    rw [List.getD_eq_getElem?_getD, e1]
    rfl
  · have : prAt (π.map (prAt ps)) i = prAt ps π[i] := by
      show (π.map (prAt ps)).getD i (0, 0) = _
      rw [List.getD_eq_getElem?_getD, List.getElem?_map, List.getElem?_eq_getElem hi]
      rfl
    rw [this]
    exact e2
section
variable {X : Cx}
theorem vals_getD {xs : List V} {us : List Value} (r : Vals xs us) : ∀ (π : List Nat), (∀ i ∈ π, i < xs.length) → Vals (π.map fun i => xs.getD i .non) (π.map fun i => us.getD i Value.none)
  | [], _ => .nil
  | i :: π, h => by
    have hi := h i List.mem_cons_self
    obtain ⟨u, hu, ru⟩ := r.get (List.getElem?_eq_getElem hi)
    refine .cons ?_ (vals_getD r π fun j hj => h j (List.mem_cons_of_mem _ hj))
    show RelV (xs.getD i .non) (us.getD i Value.none)
    rw [List.getD_eq_getElem?_getD, List.getD_eq_getElem?_getD, List.getElem?_eq_getElem hi, hu]
    exact ru
theorem tups_of {pins : List (Addr × Obj)} {σ : St} {H : Hp} {s : Shared} (I : Inv X pins σ H s) : ∀ {zs : List V} {us : List Value} {ps : List (Int × Int)}, Vals zs us → PrsV H zs ps → TupsI s.heap us ps
  | [], [], [], _, _ => .nil
  | [], [], _ :: _, _, h => by have := h.1; cases this
  | z :: zs, u :: us, [], _, h => by have := h.1; cases this
  | z :: zs, u :: us, p :: ps, .cons rz r, h => by
    obtain ⟨a, e1, e2⟩ := h.2 0 (Nat.succ_pos _)
    have ez : z = .ref a := Option.some.inj e1
    subst ez
    cases rz
    obtain ⟨its, r', ⟨o, ho, hc, n, hd⟩, _⟩ := I.tuple (SqT.of (K := X.K) e2)
    obtain ⟨u1, u2, rfl, ⟨t1, rfl⟩, ⟨t2, rfl⟩⟩ := Vals.two r'
    refine .cons (p := p) (t := t1) (u := t2) ho hc hd (tups_of I r ⟨Nat.succ.inj h.1, fun i hi => ?_⟩)
    obtain ⟨p', f1, f2⟩ := h.2 (i + 1) (Nat.succ_lt_succ hi)
    exact ⟨p', f1, f2⟩
end
end L2
namespace L2
open PySem PySem.W PyProof.Rows
def gallopX : Bool → Keyed → Array Keyed → Nat → Nat → Nat → StateT SortSt Sem (Option Nat) := sortPriv% PySem.Builtin.gallop
section
variable {prog : Program} {w : World} {A : Around} {E : Value → Shared → Prop} {s : Shared}
structure CmpU (prog : Program) (w : World) (A : Around) (s : Shared) (κ : SortKind) (U : Keyed → Prop) (lt : Keyed → Keyed → Bool) : Prop where
  ask : ∀ x y, U x → U y → ∀ C : Bool → Shared → Prop, C (lt x y) s → wpAny (model prog w) A (keyLt' κ x.1 y.1) C (fun _ _ => False) s
theorem wpS_ltU {κ : SortKind} {U : Keyed → Prop} {lt : Keyed → Keyed → Bool} (hc : CmpU prog w A s κ U lt) {st : SortSt} (hk : kindOf st = κ) {x y : Keyed} (hx : U x) (hy : U y) {Q : Option Bool → SortSt → Prop} (h : Q (some (lt x y)) st) : wpS (model prog w) A E s (lt' x y) Q st := by
  rw [lt'_eq]
  refine wpS_bind (wpS_get ?_)
  rw [hk]
  refine wpS_bind (wpS_lift (wpAny_attempt (wpAny_mono (hc.ask x y hx hy (fun b s' => s' = s ∧ b = lt x y) ⟨rfl, rfl⟩) (fun b s' hb => ?_) fun _ _ z => z.elim)))
  obtain ⟨rfl, rfl⟩ := hb
  exact ⟨rfl, wpS_pure h⟩
theorem wpS_gallop {κ : SortKind} {U : Keyed → Prop} {lt : Keyed → Keyed → Bool} (hc : CmpU prog w A s κ U lt) {st : SortSt} (hk : kindOf st = κ) {left : Bool} {key : Keyed} {arr : Array Keyed} {base n hint K : Nat} (hkey : U key) (hint_lt : hint < n) (hK : K ≤ n)
    (hit : ∀ i, i < n → ∃ x, arr[base + i]? = some x ∧ U x ∧ (left = true → lt x key = decide (i < K)) ∧ (left = false → lt key x = decide (K ≤ i))) {Q : Option Nat → SortSt → Prop} (h : Q (some K) st) : wpS (model prog w) A E s (gallopX left key arr base n hint) Q st := by
  have beyond : ∀ i, i < n → ∀ {R : Option Bool → SortSt → Prop}, R (some (decide (i < K))) st → wpS (model prog w) A E s (do
      let x ← elem' arr (base + i)
      if left = true then lt' x key else do
        let b ← lt' key x
        pure (b.map (!·))) R st := fun i hi R hR => by
    obtain ⟨x, hx, hU, h1, h2⟩ := hit i hi
    rw [elem'_eq, hx]
    refine wpS_bind (wpS_pure ?_)
    cases left with
    | true =>
      rw [if_pos rfl]
      refine wpS_ltU hc hk hU hkey ?_
      rw [h1 rfl]
      exact hR
    | false =>
      rw [if_neg (by decide)]
      refine wpS_bind (wpS_ltU hc hk hkey hU (wpS_pure ?_))
      rw [h2 rfl]
      have e : (!decide (K ≤ i)) = decide (i < K) := by
        by_cases z : i < K
        · rw [decide_eq_true z, decide_eq_false (by omega)]; rfl
        · rw [decide_eq_false z, decide_eq_true (by omega)]; rfl
      show R (some (!decide (K ≤ i))) st
      rw [e]
      exact hR
  have bin : ∀ lo hi : Nat, lo ≤ K → K ≤ hi → hi ≤ n → ∀ (f : Nat → Option (Option Nat) × Nat × Nat → StateT SortSt Sem (ForInStep (Option (Option Nat) × Nat × Nat))), (∀ i lo hi R, (lo ≥ hi → R (.done (none, lo, hi)) st) → (lo < hi → hi ≤ n → R (.yield (if lo + (hi - lo) / 2 < K then (none, lo + (hi - lo) / 2 + 1, hi) else (none, lo, lo + (hi - lo) / 2))) st) → hi ≤ n → wpS (model prog w) A E s (f i (none, lo, hi)) R st) →
      wpS (model prog w) A E s (forIn [0:n] (none, lo, hi) f) (fun c st' => st' = st ∧ c.1 = none ∧ c.2.2 = K) st := fun lo hi h1 h2 h3 f hf => by
    refine wpS_forRange (I := fun i c st' => st' = st ∧ c.1 = none ∧ c.2.1 ≤ K ∧ K ≤ c.2.2 ∧ c.2.2 ≤ n ∧ c.2.2 - c.2.1 + i ≤ n) ?_ ?_ ⟨rfl, rfl, h1, h2, h3, by show hi - lo + 0 ≤ n; omega⟩
    · rintro i ⟨r, lo', hi'⟩ st' _ hi2 ⟨rfl, hr, g1, g2, g3, g4⟩
      have hr' : r = none := hr
      subst hr'
      have g1 : lo' ≤ K := g1
      have g2 : K ≤ hi' := g2
      have g3 : hi' ≤ n := g3
      have g4 : hi' - lo' + i ≤ n := g4
      refine hf i lo' hi' _ (fun z => ⟨rfl, rfl, ?_⟩) (fun z _ => ?_) g3
      · show hi' = K
        omega
      · by_cases c : lo' + (hi' - lo') / 2 < K
        · rw [if_pos c]
          exact ⟨rfl, rfl, by show lo' + (hi' - lo') / 2 + 1 ≤ K; omega, g2, g3, by show hi' - (lo' + (hi' - lo') / 2 + 1) + (i + 1) ≤ n; omega⟩
        · rw [if_neg c]
          exact ⟨rfl, rfl, g1, by show K ≤ lo' + (hi' - lo') / 2; omega, by show lo' + (hi' - lo') / 2 ≤ n; omega, by show lo' + (hi' - lo') / 2 - lo' + (i + 1) ≤ n; omega⟩
    · rintro ⟨r, lo', hi'⟩ st' ⟨rfl, hr, g1, g2, g3, g4⟩
      have g1 : lo' ≤ K := g1
      have g2 : K ≤ hi' := g2
      have g4 : hi' - lo' + max 0 n ≤ n := g4
      refine ⟨rfl, hr, ?_⟩
      show hi' = K
      omega
  refine wpS_bind (beyond hint hint_lt ?_)
  by_cases c : hint < K
  · rw [decide_eq_true c]
    dsimp only
    rw [if_pos rfl]
    refine wpS_bind (wpS_mono (wpS_forRange (I := fun i c st' => st' = st ∧ c.1 = none ∧ c.2.1 < c.2.2 ∧ hint + c.2.1 < K ∧ i + 1 ≤ c.2.2) (Q := fun c st' => st' = st ∧ c.1 = none ∧ hint + c.2.1 < K ∧ K ≤ hint + min c.2.2 (n - hint)) ?_ ?_ ⟨rfl, rfl, Nat.lt_succ_self 0, c, Nat.le_refl _⟩) ?_)
    · rintro i ⟨r, la, ofs⟩ st' _ hi2 ⟨rfl, hr, g1, g2, g3⟩
      have hr' : r = none := hr
      subst hr'
      have g1 : la < ofs := g1
      have g2 : hint + la < K := g2
      have g3 : i + 1 ≤ ofs := g3
      dsimp only
      by_cases z : ofs ≥ n - hint
      · rw [if_pos z]
        exact wpS_pure ⟨rfl, rfl, g2, by show K ≤ hint + min ofs (n - hint); omega⟩
      · rw [if_neg z]
        refine wpS_bind (beyond (hint + ofs) (by omega) ?_)
        dsimp only
        by_cases y : hint + ofs < K
        · rw [decide_eq_true y, if_neg (show ¬ (!true) = true by decide)]
          exact wpS_pure ⟨rfl, rfl, by show ofs < 2 * ofs + 1; omega, y, by show i + 1 + 1 ≤ 2 * ofs + 1; omega⟩
        · rw [decide_eq_false y, if_pos (show (!false) = true from rfl)]
          exact wpS_pure ⟨rfl, rfl, g2, by show K ≤ hint + min ofs (n - hint); omega⟩
    · rintro ⟨r, la, ofs⟩ st' ⟨rfl, hr, g1, g2, g3⟩
      have g3 : max 0 n + 1 ≤ ofs := g3
      exact ⟨rfl, hr, g2, by show K ≤ hint + min ofs (n - hint); omega⟩
    · rintro ⟨r, la, ofs⟩ st' ⟨rfl, hr, g1, g2⟩
      have hr' : r = none := hr
      subst hr'
      have g1 : hint + la < K := g1
      have g2 : K ≤ hint + min ofs (n - hint) := g2
      dsimp only
      refine wpS_bind (wpS_mono (bin (hint + la + 1) (hint + min ofs (n - hint)) (by omega) g2 (by omega) _ fun i lo hi R r1 r2 hn => ?_) fun c st' hcc => ?_)
      · dsimp only
        by_cases z : lo ≥ hi
        · rw [if_pos z]
          exact wpS_pure (r1 z)
        · rw [if_neg z]
          refine wpS_bind (beyond (lo + (hi - lo) / 2) (by omega) ?_)
          have r3 := r2 (by omega) hn
          dsimp only
          by_cases y : lo + (hi - lo) / 2 < K
          · rw [if_pos y] at r3
            rw [decide_eq_true y, if_pos rfl]
            exact wpS_pure r3
          · rw [if_neg y] at r3
            rw [decide_eq_false y, if_neg (by decide)]
            exact wpS_pure r3
      · obtain ⟨rfl, c1, c2⟩ := hcc
        obtain ⟨r, lo', hi'⟩ := c
        have c1 : r = none := c1
        have c2 : hi' = K := c2
        subst c1 c2
        exact wpS_pure h
  · rw [decide_eq_false c]
    dsimp only
    rw [if_neg (by decide)]
    refine wpS_bind (wpS_mono (wpS_forRange (I := fun i c st' => st' = st ∧ c.1 = none ∧ c.2.1 < c.2.2 ∧ c.2.1 ≤ hint ∧ K ≤ hint - c.2.1 ∧ i + 1 ≤ c.2.2) (Q := fun c st' => st' = st ∧ c.1 = none ∧ c.2.1 ≤ hint ∧ K ≤ hint - c.2.1 ∧ hint + 1 - min c.2.2 (hint + 1) ≤ K) ?_ ?_ ⟨rfl, rfl, Nat.lt_succ_self 0, Nat.zero_le _, by show K ≤ hint - 0; omega, Nat.le_refl _⟩) ?_)
    · rintro i ⟨r, la, ofs⟩ st' _ hi2 ⟨rfl, hr, g1, g0, g2, g3⟩
      have hr' : r = none := hr
      subst hr'
      have g1 : la < ofs := g1
      have g0 : la ≤ hint := g0
      have g2 : K ≤ hint - la := g2
      have g3 : i + 1 ≤ ofs := g3
      dsimp only
      by_cases z : ofs ≥ hint + 1
      · rw [if_pos z]
        exact wpS_pure ⟨rfl, rfl, g0, g2, by show hint + 1 - min ofs (hint + 1) ≤ K; omega⟩
      · rw [if_neg z]
        refine wpS_bind (beyond (hint - ofs) (by omega) ?_)
        dsimp only
        by_cases y : hint - ofs < K
        · rw [decide_eq_true y, if_pos rfl]
          exact wpS_pure ⟨rfl, rfl, g0, g2, by show hint + 1 - min ofs (hint + 1) ≤ K; omega⟩
        · rw [decide_eq_false y, if_neg (by decide)]
          exact wpS_pure ⟨rfl, rfl, by show ofs < 2 * ofs + 1; omega, by show ofs ≤ hint; omega, by show K ≤ hint - ofs; omega, by show i + 1 + 1 ≤ 2 * ofs + 1; omega⟩
    · rintro ⟨r, la, ofs⟩ st' ⟨rfl, hr, g1, g0, g2, g3⟩
      have g3 : max 0 n + 1 ≤ ofs := g3
      exact ⟨rfl, hr, g0, g2, by show hint + 1 - min ofs (hint + 1) ≤ K; omega⟩
    · rintro ⟨r, la, ofs⟩ st' ⟨rfl, hr, g0, g1, g2⟩
      have hr' : r = none := hr
      subst hr'
      have g0 : la ≤ hint := g0
      have g1 : K ≤ hint - la := g1
      have g2 : hint + 1 - min ofs (hint + 1) ≤ K := g2
      dsimp only
      refine wpS_bind (wpS_mono (bin (hint + 1 - min ofs (hint + 1)) (hint - la) g2 g1 (by omega) _ fun i lo hi R r1 r2 hn => ?_) fun c st' hcc => ?_)
      · dsimp only
        by_cases z : lo ≥ hi
        · rw [if_pos z]
          exact wpS_pure (r1 z)
        · rw [if_neg z]
          refine wpS_bind (beyond (lo + (hi - lo) / 2) (by omega) ?_)
          have r3 := r2 (by omega) hn
          dsimp only
          by_cases y : lo + (hi - lo) / 2 < K
          · rw [if_pos y] at r3
            rw [decide_eq_true y, if_pos rfl]
            exact wpS_pure r3
          · rw [if_neg y] at r3
            rw [decide_eq_false y, if_neg (by decide)]
            exact wpS_pure r3
      · obtain ⟨rfl, c1, c2⟩ := hcc
        obtain ⟨r, lo', hi'⟩ := c
        have c1 : r = none := c1
        have c2 : hi' = K := c2
        subst c1 c2
        exact wpS_pure h
end
end L2
namespace L2
open PySem PySem.W PyProof.Rows
def mergeLoX : Array Keyed → Array Keyed → StateT SortSt Sem (Array Keyed) := sortPriv% PySem.Builtin.mergeLo
structure OrdU (U : Keyed → Prop) (lt : Keyed → Keyed → Bool) : Prop where
  tr : ∀ x y z, U x → U y → U z → lt x y = true → lt y z = true → lt x z = true
  tot : ∀ x y, U x → U y → x ≠ y → lt x y = false → lt y x = true
  ir : ∀ x, U x → lt x x = false
def Eqv (st st' : SortSt) : Prop := kindOf st' = kindOf st ∧ arrOf st' = arrOf st ∧ pendingOf st' = pendingOf st ∧ failedOf st' = failedOf st
theorem Eqv.refl (st : SortSt) : Eqv st st := ⟨rfl, rfl, rfl, rfl⟩
theorem Eqv.trans {a b c : SortSt} (h : Eqv a b) (k : Eqv b c) : Eqv a c := ⟨k.1.trans h.1, k.2.1.trans h.2.1, k.2.2.1.trans h.2.2.1, k.2.2.2.trans h.2.2.2⟩
section
variable {prog : Program} {w : World} {A : Around} {E : Value → Shared → Prop} {s : Shared} {κ : SortKind} {U : Keyed → Prop} {lt : Keyed → Keyed → Bool}
def UpU (lt : Keyed → Keyed → Bool) (l : List Keyed) : Prop := l.Pairwise fun x y => lt x y = true
structure MrgS (lt : Keyed → Keyed → Bool) (a b : List Keyed) (o : List Keyed) (ia ib : Nat) : Prop where
  perm : o.Perm (a.take ia ++ b.take ib)
  up : UpU lt o
  la : ∀ x ∈ o, ∀ y ∈ a.drop ia, lt x y = true
  lb : ∀ x ∈ o, ∀ y ∈ b.drop ib, lt x y = true
theorem MrgS.nextA {a b o : List Keyed} {ia ib k : Nat} (h : MrgS lt a b o ia ib) (ha : UpU lt a) (hk : ∀ x ∈ (a.drop ia).take k, ∀ y ∈ b.drop ib, lt x y = true) : MrgS lt a b (o ++ (a.drop ia).take k) (ia + k) ib := by
  have hd : UpU lt (a.drop ia) := List.Pairwise.sublist (List.drop_sublist _ _) ha
  have hsp : a.drop ia = (a.drop ia).take k ++ a.drop (ia + k) := by rw [← List.drop_drop, List.take_append_drop]
  refine ⟨?_, ?_, ?_, ?_⟩
  · have e : a.take (ia + k) = a.take ia ++ (a.drop ia).take k := by rw [List.take_add]
    rw [e]
    refine (h.perm.append_right _).trans ?_
    rw [List.append_assoc, List.append_assoc]
    exact List.Perm.append_left _ List.perm_append_comm
  · refine List.pairwise_append.mpr ⟨h.up, List.Pairwise.sublist (List.take_sublist _ _) hd, fun x hx y hy => h.la x hx y (List.mem_of_mem_take hy)⟩
  · intro x hx y hy
    rcases List.mem_append.mp hx with hx | hx
    · exact h.la x hx y (by rw [hsp]; exact List.mem_append_right _ hy)
    · have hd' := hd
      rw [hsp] at hd'
      exact (List.pairwise_append.mp hd').2.2 x hx y hy
  · intro x hx y hy
    rcases List.mem_append.mp hx with hx | hx
    · exact h.lb x hx y hy
    · exact hk x hx y hy
theorem MrgS.nextB {a b o : List Keyed} {ia ib k : Nat} (h : MrgS lt a b o ia ib) (hb : UpU lt b) (hk : ∀ x ∈ (b.drop ib).take k, ∀ y ∈ a.drop ia, lt x y = true) : MrgS lt a b (o ++ (b.drop ib).take k) ia (ib + k) := by
  have hd : UpU lt (b.drop ib) := List.Pairwise.sublist (List.drop_sublist _ _) hb
  have hsp : b.drop ib = (b.drop ib).take k ++ b.drop (ib + k) := by rw [← List.drop_drop, List.take_append_drop]
  refine ⟨?_, ?_, ?_, ?_⟩
  · have e : b.take (ib + k) = b.take ib ++ (b.drop ib).take k := by rw [List.take_add]
    rw [e, ← List.append_assoc]
    exact h.perm.append_right _
  · refine List.pairwise_append.mpr ⟨h.up, List.Pairwise.sublist (List.take_sublist _ _) hd, fun x hx y hy => h.lb x hx y (List.mem_of_mem_take hy)⟩
  · intro x hx y hy
    rcases List.mem_append.mp hx with hx | hx
    · exact h.la x hx y hy
    · exact hk x hx y hy
  · intro x hx y hy
    rcases List.mem_append.mp hx with hx | hx
    · exact h.lb x hx y (by rw [hsp]; exact List.mem_append_right _ hy)
    · have hd' := hd
      rw [hsp] at hd'
      exact (List.pairwise_append.mp hd').2.2 x hx y hy
theorem MrgS.endA {a b o : List Keyed} {ia ib : Nat} (h : MrgS lt a b o ia ib) (ha : UpU lt a) (hb : b.length ≤ ib) : (o ++ a.drop ia).Perm (a ++ b) ∧ UpU lt (o ++ a.drop ia) := by
  refine ⟨?_, List.pairwise_append.mpr ⟨h.up, List.Pairwise.sublist (List.drop_sublist _ _) ha, h.la⟩⟩
  have p := h.perm
  rw [List.take_of_length_le hb] at p
  refine (p.append_right _).trans ?_
  rw [List.append_assoc]
  refine (List.Perm.append_left _ List.perm_append_comm).trans ?_
  rw [← List.append_assoc, List.take_append_drop]
theorem MrgS.endB {a b o : List Keyed} {ia ib : Nat} (h : MrgS lt a b o ia ib) (ha : UpU lt a) (hb : UpU lt b) (hg : ∀ x ∈ b, ∀ y ∈ a.drop ia, lt x y = true) : (o ++ b.drop ib ++ a.drop ia).Perm (a ++ b) ∧ UpU lt (o ++ b.drop ib ++ a.drop ia) := by
  refine ⟨?_, List.pairwise_append.mpr ⟨List.pairwise_append.mpr ⟨h.up, List.Pairwise.sublist (List.drop_sublist _ _) hb, h.lb⟩, List.Pairwise.sublist (List.drop_sublist _ _) ha, fun x hx y hy => ?_⟩⟩
  · refine ((h.perm.append_right _).append_right _).trans ?_
    rw [List.append_assoc (List.take ia a), List.take_append_drop, List.append_assoc]
    refine (List.Perm.append_left _ List.perm_append_comm).trans ?_
    rw [← List.append_assoc, List.take_append_drop]
  · rcases List.mem_append.mp hx with hx | hx
    · exact h.la x hx y hy
    · exact hg x (List.mem_of_mem_drop hx) y hy
theorem ext_all (a : Array Keyed) (i : Nat) : (a.extract i).toList = a.toList.drop i := by
  rw [Array.toList_extract]
  show (a.toList.drop i).take (a.size - i) = _
  rw [List.take_of_length_le (by rw [List.length_drop, Array.length_toList]; exact Nat.le_refl _)]
theorem ext_k (a : Array Keyed) (i k : Nat) : (a.extract i (i + k)).toList = (a.toList.drop i).take k := by
  rw [Array.toList_extract]
  show (a.toList.drop i).take (i + k - i) = _
  rw [Nat.add_sub_cancel_left]
theorem arr_at {a : Array Keyed} {i : Nat} (h : i < a.size) : ∃ x, a[i]? = some x ∧ a.toList[i]? = some x ∧ x ∈ a.toList := by
  refine ⟨a[i], Array.getElem?_eq_getElem h, ?_, Array.mem_toList_iff.mpr (Array.getElem_mem h)⟩
  rw [Array.getElem?_toList]
  exact Array.getElem?_eq_getElem h
theorem drop_one {l : List Keyed} {i : Nat} {x : Keyed} (h : l[i]? = some x) : l.drop i = x :: l.drop (i + 1) := by
  obtain ⟨h1, rfl⟩ := List.getElem?_eq_some_iff.mp h
  exact List.drop_eq_getElem_cons h1
theorem take_one {l : List Keyed} {i : Nat} {x : Keyed} (h : l[i]? = some x) : (l.drop i).take 1 = [x] := by
  rw [drop_one h]
  rfl
theorem head_all (O : OrdU U lt) {l : List Keyed} (hl : UpU lt l) (ul : ∀ z ∈ l, U z) {x y : Keyed} {i : Nat} (hx : U x) (hy : l[i]? = some y) (h : lt x y = true) : ∀ z ∈ l.drop i, lt x z = true := fun z hz => by
  have hd : UpU lt (l.drop i) := List.Pairwise.sublist (List.drop_sublist _ _) hl
  have hz' : z ∈ l := List.mem_of_mem_drop hz
  rw [drop_one hy] at hz hd
  rcases List.mem_cons.mp hz with rfl | hz
  · exact h
  · exact O.tr x y z hx (ul y (List.mem_of_getElem? hy)) (ul z hz') h ((List.pairwise_cons.mp hd).1 z hz)
theorem OrdU.asym (O : OrdU U lt) {x y : Keyed} (hx : U x) (hy : U y) (h : lt x y = true) : lt y x = false := by
  cases e : lt y x with
  | false => rfl
  | true =>
    have := O.tr x y x hx hy hx h e
    rw [O.ir x hx] at this
    cases this
theorem stands (O : OrdU U lt) {key : Keyed} (hkey : U key) : ∀ {l : List Keyed}, UpU lt l → (∀ z ∈ l, U z) → (∀ z ∈ l, z ≠ key) → ∃ K, K ≤ l.length ∧ (∀ x ∈ l.take K, lt x key = true) ∧ ∀ x ∈ l.drop K, lt key x = true
  | [], _, _, _ => ⟨0, Nat.le_refl _, (fun x hx => by cases hx), (fun x hx => by cases hx)⟩
  | y :: l, h, hu, hn => by
    obtain ⟨h1, h2⟩ := List.pairwise_cons.mp h
    cases c : lt y key with
    | true =>
      obtain ⟨K, k1, k2, k3⟩ := stands O hkey h2 (fun z hz => hu z (List.mem_cons_of_mem _ hz)) fun z hz => hn z (List.mem_cons_of_mem _ hz)
      refine ⟨K + 1, Nat.succ_le_succ k1, fun x hx => ?_, k3⟩
      rw [List.take_succ_cons] at hx
      rcases List.mem_cons.mp hx with rfl | hx
      · exact c
      · exact k2 x hx
    | false =>
      have c2 := O.tot y key (hu y List.mem_cons_self) hkey (hn y List.mem_cons_self) c
      refine ⟨0, Nat.zero_le _, (fun x hx => by cases hx), fun x hx => ?_⟩
      rcases List.mem_cons.mp hx with rfl | hx
      · exact c2
      · exact O.tr key y x hkey (hu y List.mem_cons_self) (hu x (List.mem_cons_of_mem _ hx)) c2 (h1 x hx)
theorem wpS_elem {arr : Array Keyed} {i : Nat} {x : Keyed} {st : SortSt} {Q : Keyed → SortSt → Prop} (h : arr[i]? = some x) (hq : Q x st) : wpS (model prog w) A E s (elem' arr i) Q st := by
  rw [elem'_eq, h]
  exact wpS_pure hq
theorem wpS_gal (hc : CmpU prog w A s κ U lt) (O : OrdU U lt) {st : SortSt} (hk : kindOf st = κ) {left : Bool} {key : Keyed} {arr : Array Keyed} {base hint : Nat} (hkey : U key) (hb : base + hint < arr.size) (hu : ∀ z ∈ arr.toList, U z) (hup : UpU lt arr.toList) (hne : ∀ z ∈ arr.toList, z ≠ key)
    {Q : Option Nat → SortSt → Prop} (h : ∀ K, K ≤ arr.size - base → (∀ x ∈ (arr.toList.drop base).take K, lt x key = true) → (∀ x ∈ arr.toList.drop (base + K), lt key x = true) → Q (some K) st) : wpS (model prog w) A E s (gallopX left key arr base (arr.size - base) hint) Q st := by
  have hd : UpU lt (arr.toList.drop base) := List.Pairwise.sublist (List.drop_sublist _ _) hup
  obtain ⟨K, k1, k2, k3⟩ := stands O hkey hd (fun z hz => hu z (List.mem_of_mem_drop hz)) fun z hz => hne z (List.mem_of_mem_drop hz)
  rw [List.length_drop, Array.length_toList] at k1
  rw [List.drop_drop] at k3
  refine wpS_gallop hc hk hkey (by omega) k1 (fun i hi => ?_) (h K k1 k2 k3)
  obtain ⟨x, hx, hx2, hxm⟩ := arr_at (a := arr) (i := base + i) (by omega)
  have hxu := hu x hxm
  refine ⟨x, hx, hxu, fun _ => ?_, fun _ => ?_⟩
  · by_cases z : i < K
    · rw [decide_eq_true z]
      exact k2 x (List.mem_of_getElem? (i := i) (by rw [List.getElem?_take_of_lt z, List.getElem?_drop]; exact hx2))
    · rw [decide_eq_false z]
      exact O.asym hkey hxu (k3 x (List.mem_of_getElem? (i := i - K) (by rw [List.getElem?_drop, show base + K + (i - K) = base + i by omega]; exact hx2)))
  · by_cases z : K ≤ i
    · rw [decide_eq_true z]
      exact k3 x (List.mem_of_getElem? (i := i - K) (by rw [List.getElem?_drop, show base + K + (i - K) = base + i by omega]; exact hx2))
    · rw [decide_eq_false z]
      exact O.asym hxu hkey (k2 x (List.mem_of_getElem? (i := i) (by rw [List.getElem?_take_of_lt (by omega), List.getElem?_drop]; exact hx2)))
def GoodM (lt : Keyed → Keyed → Bool) (a b : Array Keyed) (st : SortSt) (r : Array Keyed) (st' : SortSt) : Prop := Eqv st st' ∧ r.toList.Perm (a.toList ++ b.toList) ∧ UpU lt r.toList
def StM (lt : Keyed → Keyed → Bool) (a b out : Array Keyed) (ia ib : Nat) : Prop := MrgS lt a.toList b.toList out.toList ia ib ∧ ia + 1 < a.size ∧ ib < b.size
end
end L2
namespace L2
open PySem PySem.W PyProof.Rows
section
variable {prog : Program} {w : World} {A : Around} {E : Value → Shared → Prop} {s : Shared} {κ : SortKind} {U : Keyed → Prop} {lt : Keyed → Keyed → Bool}
def setMGX : Nat → StateT SortSt Sem PUnit := sortPriv% PySem.Builtin.setMinGallop
theorem wpS_mg {g : Nat} {st : SortSt} {Q : PUnit → SortSt → Prop} (h : ∀ st', Eqv st st' → Q ⟨⟩ st') : wpS (model prog w) A E s (setMGX g) Q st := wpS_modify (h _ ⟨rfl, rfl, rfl, rfl⟩)
set_option maxHeartbeats 8000000 in
theorem wpS_mergeLo (hc : CmpU prog w A s κ U lt) (O : OrdU U lt) {st : SortSt} (hk : kindOf st = κ) {a b : Array Keyed} (ha : 1 ≤ a.size) (hb : 1 ≤ b.size) (ua : ∀ x ∈ a.toList, U x) (ub : ∀ x ∈ b.toList, U x) (sa : UpU lt a.toList) (sb : UpU lt b.toList) (ne : ∀ x ∈ a.toList, ∀ y ∈ b.toList, x ≠ y)
    (h0 : ∀ x ∈ a.toList, lt (b[0]'(by omega)) x = true) (hl : ∀ x ∈ b.toList, lt x (a[a.size - 1]'(by omega)) = true)
    {Q : Array Keyed → SortSt → Prop} (h : ∀ (r : Array Keyed) (st' : SortSt), Eqv st st' → r.toList.Perm (a.toList ++ b.toList) → UpU lt r.toList → Q r st') : wpS (model prog w) A E s (mergeLoX a b) Q st := by
  have lenA : a.toList.length = a.size := Array.length_toList
  have lenB : b.toList.length = b.size := Array.length_toList
  have lastA : ∀ ia, ia + 1 = a.size → ∀ x ∈ b.toList, ∀ y ∈ a.toList.drop ia, lt x y = true := fun ia e x hx y hy => by
    have h1 : a.toList[ia]? = some (a[a.size - 1]'(by omega)) := by
      rw [Array.getElem?_toList, Array.getElem?_eq_getElem (show ia < a.size by omega)]
      congr 2
      omega
    rw [drop_one h1, List.drop_of_length_le (by omega)] at hy
    rw [List.mem_singleton.mp hy]
    exact hl x hx
  have done : ∀ {out : Array Keyed} {ia ib : Nat} {st' : SortSt}, MrgS lt a.toList b.toList out.toList ia ib → ib = b.size → Eqv st st' → GoodM lt a b st (out ++ a.extract ia ++ b.extract ib) st' := fun {out ia ib st'} m e ev => by
    obtain ⟨p1, p2⟩ := m.endA sa (by omega)
    have el : (out ++ a.extract ia ++ b.extract ib).toList = out.toList ++ a.toList.drop ia := by
      rw [Array.toList_append, Array.toList_append, ext_all, ext_all, List.drop_of_length_le (by omega : b.toList.length ≤ ib), List.append_nil]
    exact ⟨ev, by rw [el]; exact p1, by rw [el]; exact p2⟩
  have last : ∀ {out : Array Keyed} {ia ib : Nat} {st' : SortSt}, MrgS lt a.toList b.toList out.toList ia ib → ia + 1 = a.size → Eqv st st' → GoodM lt a b st (out ++ b.extract ib ++ a.extract ia) st' := fun {out ia ib st'} m e ev => by
    obtain ⟨p1, p2⟩ := m.endB sa sb (lastA ia e)
    have el : (out ++ b.extract ib ++ a.extract ia).toList = out.toList ++ b.toList.drop ib ++ a.toList.drop ia := by
      rw [Array.toList_append, Array.toList_append, ext_all, ext_all]
    exact ⟨ev, by rw [el]; exact p1, by rw [el]; exact p2⟩
  have pushB : ∀ {out : Array Keyed} {ia ib : Nat} {x : Keyed}, MrgS lt a.toList b.toList out.toList ia ib → b.toList[ib]? = some x → (∀ y ∈ a.toList.drop ia, lt x y = true) → MrgS lt a.toList b.toList (out.push x).toList ia (ib + 1) := fun {out ia ib x} m hx hy => by
    have := m.nextB (k := 1) sb (by rw [take_one hx]; intro z hz; rw [List.mem_singleton.mp hz]; exact hy)
    rw [take_one hx] at this
    rw [Array.toList_push]
    exact this
  have pushA : ∀ {out : Array Keyed} {ia ib : Nat} {x : Keyed}, MrgS lt a.toList b.toList out.toList ia ib → a.toList[ia]? = some x → (∀ y ∈ b.toList.drop ib, lt x y = true) → MrgS lt a.toList b.toList (out.push x).toList (ia + 1) ib := fun {out ia ib x} m hx hy => by
    have := m.nextA (k := 1) sa (by rw [take_one hx]; intro z hz; rw [List.mem_singleton.mp hz]; exact hy)
    rw [take_one hx] at this
    rw [Array.toList_push]
    exact this
  have runA : ∀ {out : Array Keyed} {ia ib k : Nat}, MrgS lt a.toList b.toList out.toList ia ib → (∀ x ∈ (a.toList.drop ia).take k, ∀ y ∈ b.toList.drop ib, lt x y = true) → MrgS lt a.toList b.toList (out ++ a.extract ia (ia + k)).toList (ia + k) ib := fun m hk => by
    rw [Array.toList_append, ext_k]
    exact m.nextA sa hk
  have runB : ∀ {out : Array Keyed} {ia ib k : Nat}, MrgS lt a.toList b.toList out.toList ia ib → (∀ x ∈ (b.toList.drop ib).take k, ∀ y ∈ a.toList.drop ia, lt x y = true) → MrgS lt a.toList b.toList (out ++ b.extract ib (ib + k)).toList ia (ib + k) := fun m hk => by
    rw [Array.toList_append, ext_k]
    exact m.nextB sb hk
  have lastK : ∀ {ia K : Nat} {x : Keyed}, x ∈ b.toList → (∀ y ∈ (a.toList.drop ia).take K, lt y x = true) → ia + 1 < a.size → ia + K < a.size := fun {ia K x} hx h1 h2 => by
    refine Nat.lt_of_not_le fun z => ?_
    have h3 : a.toList[a.size - 1]? = some (a[a.size - 1]'(by omega)) := by
      rw [Array.getElem?_toList, Array.getElem?_eq_getElem (show a.size - 1 < a.size by omega)]
    have h4 := h1 _ (List.mem_of_getElem? (i := a.size - 1 - ia) (by rw [List.getElem?_take_of_lt (by omega), List.getElem?_drop, show ia + (a.size - 1 - ia) = a.size - 1 by omega]; exact h3))
    rw [O.asym (ub x hx) (ua _ (List.mem_of_getElem? h3)) (hl x hx)] at h4
    cases h4
  refine wpS_bind (wpS_lift (wpAny_rule ⟨rfl, ?_⟩))
  dsimp only
  have hb0 : b[0]? = some (b[0]'(by omega)) := Array.getElem?_eq_getElem (by omega)
  refine wpS_bind (wpS_elem hb0 ?_)
  have m0 : MrgS lt a.toList b.toList (#[b[0]'(by omega)] : Array Keyed).toList 0 1 := by
    have hx : b.toList[0]? = some (b[0]'(by omega)) := by rw [Array.getElem?_toList]; exact hb0
    have := pushB (out := #[]) (ia := 0) (ib := 0) ⟨List.Perm.refl _, .nil, (fun x hx => by cases hx), (fun x hx => by cases hx)⟩ hx (fun y hy => h0 y (by simpa using hy))
    exact this
  generalize (#[b[0]'(by omega)] : Array Keyed) = out0 at m0
  by_cases e1 : 1 = b.size
  · rw [if_pos (by rw [← e1]; rfl)]
    obtain ⟨g1, g2, g3⟩ := done m0 e1 (Eqv.refl st)
    exact wpS_pure (h _ _ g1 g2 g3)
  rw [if_neg (fun z => e1 (eq_of_beq z))]
  by_cases e2 : 0 + 1 = a.size
  · rw [if_pos (by rw [← e2]; rfl)]
    obtain ⟨g1, g2, g3⟩ := last m0 e2 (Eqv.refl st)
    exact wpS_pure (h _ _ g1 g2 g3)
  rw [if_neg (fun z => e2 (eq_of_beq z))]
  refine wpS_bind (wpS_get ?_)
  refine wpS_bind (wpS_mono (wpS_forRange (I := fun i c st' => c.1 = none ∧ Eqv st st' ∧ StM lt a b c.2.1 c.2.2.1 c.2.2.2.1 ∧ (a.size - c.2.2.1) + (b.size - c.2.2.2.1) + i ≤ a.size + b.size) (Q := fun c st' => ∃ r, c.1 = some r ∧ GoodM lt a b st r st') ?_ ?_ ⟨rfl, Eqv.refl st, ⟨m0, by show 0 + 1 < a.size; omega, by show 1 < b.size; omega⟩, by show (a.size - 0) + (b.size - 1) + 0 ≤ _; omega⟩) ?_)
  rotate_left
  · rintro ⟨r, out, ia, ib, mg⟩ st' ⟨_, _, hS, hm⟩
    have h1 : ia + 1 < a.size := hS.2.1
    have h2 : (a.size - ia) + (b.size - ib) + max 0 (a.size + b.size) ≤ a.size + b.size := hm
    omega
  · rintro ⟨r, out, ia, ib, mg⟩ st' ⟨r', hr, hg⟩
    have hr' : r = some r' := hr
    subst hr'
    exact wpS_pure (h _ _ hg.1 hg.2.1 hg.2.2)
  rintro i ⟨r, out, ia, ib, mg⟩ st1 _ hi ⟨hr, ev1, hS, hm⟩
  have hr' : r = none := hr
  subst hr'
  have hS : StM lt a b out ia ib := hS
  have hm : (a.size - ia) + (b.size - ib) + i ≤ a.size + b.size := hm
  dsimp only
  refine wpS_bind (wpS_mono (wpS_forRange (I := fun j c st' => c.1 = none ∧ Eqv st st' ∧ StM lt a b c.2.1 c.2.2.1 c.2.2.2.1 ∧ (a.size - c.2.2.1) + (b.size - c.2.2.2.1) + j ≤ (a.size - ia) + (b.size - ib)) (Q := fun c st' => (∃ r, c.1 = some r ∧ GoodM lt a b st r st') ∨ (c.1 = none ∧ Eqv st st' ∧ StM lt a b c.2.1 c.2.2.1 c.2.2.2.1 ∧ (a.size - c.2.2.1) + (b.size - c.2.2.2.1) + 1 ≤ (a.size - ia) + (b.size - ib))) ?_ ?_ ⟨rfl, ev1, hS, Nat.le_refl _⟩) ?_)
  rotate_left
  · rintro ⟨r, out2, ia2, ib2, ac, bc⟩ st' ⟨_, _, hS2, hm2⟩
    have h1 : ia2 + 1 < a.size := hS2.2.1
    have h2 : (a.size - ia2) + (b.size - ib2) + max 0 (a.size + b.size) ≤ (a.size - ia) + (b.size - ib) := hm2
    omega
  rotate_left
  · rintro j ⟨r, o2, ia2, ib2, ac, bc⟩ st2 _ hj ⟨hr2, ev2, hS2, hm2⟩
    have hr2' : r = none := hr2
    subst hr2'
    obtain ⟨m2, b1, b2⟩ : StM lt a b o2 ia2 ib2 := hS2
    have hm2 : (a.size - ia2) + (b.size - ib2) + j ≤ (a.size - ia) + (b.size - ib) := hm2
    obtain ⟨x, hx, hx2, hxm⟩ := arr_at (a := b) (i := ib2) b2
    obtain ⟨y, hy, hy2, hym⟩ := arr_at (a := a) (i := ia2) (by omega)
    dsimp only
    refine wpS_bind (wpS_elem hx (wpS_bind (wpS_elem hy (wpS_bind (wpS_ltU hc (ev2.1.trans hk) (ub x hxm) (ua y hym) ?_)))))
    dsimp only
    cases c : lt x y with
    | true =>
      rw [if_pos rfl]
      refine wpS_bind (wpS_elem hx ?_)
      have m3 := pushB m2 hx2 (head_all O sa ua (ub x hxm) hy2 c)
      by_cases e : ib2 + 1 = b.size
      · rw [if_pos (by rw [e]; exact beq_self_eq_true _)]
        exact wpS_pure (.inl ⟨_, rfl, done m3 e ev2⟩)
      · rw [if_neg (fun z => e (eq_of_beq z))]
        by_cases z : bc + 1 ≥ mg
        · rw [if_pos z]
          exact wpS_pure (.inr ⟨rfl, ev2, ⟨m3, b1, by show ib2 + 1 < b.size; omega⟩, by show (a.size - ia2) + (b.size - (ib2 + 1)) + 1 ≤ _; omega⟩)
        · rw [if_neg z]
          exact wpS_pure ⟨rfl, ev2, ⟨m3, b1, by show ib2 + 1 < b.size; omega⟩, by show (a.size - ia2) + (b.size - (ib2 + 1)) + (j + 1) ≤ _; omega⟩
    | false =>
      rw [if_neg (by decide)]
      refine wpS_bind (wpS_elem hy ?_)
      have c2 := O.tot x y (ub x hxm) (ua y hym) (fun z => ne y hym x hxm z.symm) c
      have m3 := pushA m2 hy2 (head_all O sb ub (ua y hym) hx2 c2)
      by_cases e : ia2 + 1 + 1 = a.size
      · rw [if_pos (by rw [e]; exact beq_self_eq_true _)]
        exact wpS_pure (.inl ⟨_, rfl, last m3 e ev2⟩)
      · rw [if_neg (fun z => e (eq_of_beq z))]
        by_cases z : ac + 1 ≥ mg
        · rw [if_pos z]
          exact wpS_pure (.inr ⟨rfl, ev2, ⟨m3, by show ia2 + 1 + 1 < a.size; omega, b2⟩, by show (a.size - (ia2 + 1)) + (b.size - ib2) + 1 ≤ _; omega⟩)
        · rw [if_neg z]
          exact wpS_pure ⟨rfl, ev2, ⟨m3, by show ia2 + 1 + 1 < a.size; omega, b2⟩, by show (a.size - (ia2 + 1)) + (b.size - ib2) + (j + 1) ≤ _; omega⟩
  rintro ⟨r, o3, ia3, ib3, ac, bc⟩ st3 hQ3
  rcases hQ3 with ⟨r', hr3, hg⟩ | ⟨hr3, ev3, hS3, hm3⟩
  · have hr3' : r = some r' := hr3
    subst hr3'
    exact wpS_pure ⟨r', rfl, hg⟩
  have hr3' : r = none := hr3
  subst hr3'
  have hS3 : StM lt a b o3 ia3 ib3 := hS3
  have hm3 : (a.size - ia3) + (b.size - ib3) + 1 ≤ (a.size - ia) + (b.size - ib) := hm3
  dsimp only
  refine wpS_bind (wpS_lift (wpAny_rule ⟨rfl, ?_⟩))
  refine wpS_bind (wpS_mono (wpS_forRange (I := fun j c st' => c.1 = none ∧ Eqv st st' ∧ StM lt a b c.2.1 c.2.2.1 c.2.2.2.1 ∧ (a.size - c.2.2.1) + (b.size - c.2.2.2.1) + j ≤ (a.size - ia3) + (b.size - ib3)) (Q := fun c st' => (∃ r, c.1 = some r ∧ GoodM lt a b st r st') ∨ (c.1 = none ∧ Eqv st st' ∧ StM lt a b c.2.1 c.2.2.1 c.2.2.2.1 ∧ (a.size - c.2.2.1) + (b.size - c.2.2.2.1) ≤ (a.size - ia3) + (b.size - ib3))) ?_ ?_ ⟨rfl, ev3, hS3, Nat.le_refl _⟩) ?_)
  rotate_left
  · rintro ⟨r, o4, ia4, ib4, mg4, ac4, bc4⟩ st4 ⟨hr4, ev4, hS4, hm4⟩
    have hm4 : (a.size - ia4) + (b.size - ib4) + max 0 (a.size + b.size) ≤ (a.size - ia3) + (b.size - ib3) := hm4
    exact .inr ⟨hr4, ev4, hS4, by show (a.size - ia4) + (b.size - ib4) ≤ _; omega⟩
  · rintro ⟨r, o4, ia4, ib4, mg4, ac4, bc4⟩ st4 hQ4
    rcases hQ4 with ⟨r', hr4, hg⟩ | ⟨hr4, ev4, hS4, hm4⟩
    · have hr4' : r = some r' := hr4
      subst hr4'
      exact wpS_pure ⟨r', rfl, hg⟩
    have hr4' : r = none := hr4
    subst hr4'
    have hm4 : (a.size - ia4) + (b.size - ib4) ≤ (a.size - ia3) + (b.size - ib3) := hm4
    dsimp only
    refine wpS_bind (wpS_mg fun st5 ev5 => ?_)
    exact wpS_pure ⟨rfl, ev4.trans ev5, hS4, by show (a.size - ia4) + (b.size - ib4) + (i + 1) ≤ _; omega⟩
  rintro j ⟨r, o4, ia4, ib4, mg4, ac4, bc4⟩ st4 _ hj ⟨hr4, ev4, hS4, hm4⟩
  have hr4' : r = none := hr4
  subst hr4'
  obtain ⟨m4, b1, b2⟩ : StM lt a b o4 ia4 ib4 := hS4
  have hm4 : (a.size - ia4) + (b.size - ib4) + j ≤ (a.size - ia3) + (b.size - ib3) := hm4
  obtain ⟨x, hx, hx2, hxm⟩ := arr_at (a := b) (i := ib4) b2
  dsimp only
  by_cases z : mg4 > 1
  · rw [if_pos z]
    refine wpS_bind (wpS_mg fun st5 ev45 => ?_)
    have ev5 := ev4.trans ev45
    refine wpS_bind (wpS_elem hx ?_)
    refine wpS_bind (wpS_gal hc O (ev5.1.trans hk) (ub x hxm) (by omega) ua sa (fun z hz => ne z hz x hxm) fun K k1 k2 k3 => ?_)
    have kl := lastK hxm k2 b1
    dsimp only
    by_cases zk : K > 0
    · rw [if_pos zk]
      have m5 := runA (k := K) m4 (fun x' hx' => head_all O sb ub (ua x' (List.mem_of_mem_drop (List.mem_of_mem_take hx'))) hx2 (k2 x' hx'))
      have h5 := k3
      by_cases e5 : ia4 + K + 1 = a.size
      · rw [if_pos (by rw [e5]; exact beq_self_eq_true _)]
        exact wpS_pure (.inl ⟨_, rfl, last m5 e5 ev5⟩)
      rw [if_neg (fun z => e5 (eq_of_beq z)), if_neg (fun z => Nat.ne_of_lt kl (eq_of_beq z))]
      refine wpS_bind (wpS_elem hx ?_)
      have m6 := pushB m5 hx2 h5
      by_cases e6 : ib4 + 1 = b.size
      · rw [if_pos (by rw [e6]; exact beq_self_eq_true _)]
        exact wpS_pure (.inl ⟨_, rfl, done m6 e6 ev5⟩)
      rw [if_neg (fun z => e6 (eq_of_beq z))]
      obtain ⟨y, hy, hy2, hym⟩ := arr_at (a := a) (i := (ia4 + K)) (by omega)
      refine wpS_bind (wpS_elem hy ?_)
      refine wpS_bind (wpS_gal hc O (ev5.1.trans hk) (ua y hym) (by omega) ub sb (fun z hz => (ne y hym z hz).symm) fun K2 q1 q2 q3 => ?_)
      dsimp only
      by_cases zk2 : K2 > 0
      · rw [if_pos zk2]
        have m7 := runB (k := K2) m6 (fun x' hx' => head_all O sa ua (ub x' (List.mem_of_mem_drop (List.mem_of_mem_take hx'))) hy2 (q2 x' hx'))
        have h7 := q3
        by_cases e7 : ib4 + 1 + K2 = b.size
        · rw [if_pos (by rw [e7]; exact beq_self_eq_true _)]
          exact wpS_pure (.inl ⟨_, rfl, done m7 e7 ev5⟩)
        rw [if_neg (fun z => e7 (eq_of_beq z))]
        refine wpS_bind (wpS_elem hy ?_)
        have m8 := pushA m7 hy2 h7
        by_cases e8 : (ia4 + K) + 1 + 1 = a.size
        · rw [if_pos (by rw [e8]; exact beq_self_eq_true _)]
          exact wpS_pure (.inl ⟨_, rfl, last m8 e8 ev5⟩)
        rw [if_neg (fun z => e8 (eq_of_beq z))]
        split
        · exact wpS_pure (.inr ⟨rfl, ev5, ⟨m8, by show (ia4 + K) + 1 + 1 < a.size; omega, by show (ib4 + 1 + K2) < b.size; omega⟩, by show (a.size - ((ia4 + K) + 1)) + (b.size - (ib4 + 1 + K2)) ≤ _; omega⟩)
        · exact wpS_pure ⟨rfl, ev5, ⟨m8, by show (ia4 + K) + 1 + 1 < a.size; omega, by show (ib4 + 1 + K2) < b.size; omega⟩, by show (a.size - ((ia4 + K) + 1)) + (b.size - (ib4 + 1 + K2)) + (j + 1) ≤ _; omega⟩
      · rw [if_neg zk2]
        have m7 := m6
        have h7 : ∀ x' ∈ b.toList.drop (ib4 + 1), lt y x' = true := by
          have h7' := q3
          rw [show ib4 + 1 + K2 = ib4 + 1 by omega] at h7'
          exact h7'
        refine wpS_bind (wpS_elem hy ?_)
        have m8 := pushA m7 hy2 h7
        by_cases e8 : (ia4 + K) + 1 + 1 = a.size
        · rw [if_pos (by rw [e8]; exact beq_self_eq_true _)]
          exact wpS_pure (.inl ⟨_, rfl, last m8 e8 ev5⟩)
        rw [if_neg (fun z => e8 (eq_of_beq z))]
        split
        · exact wpS_pure (.inr ⟨rfl, ev5, ⟨m8, by show (ia4 + K) + 1 + 1 < a.size; omega, by show (ib4 + 1) < b.size; omega⟩, by show (a.size - ((ia4 + K) + 1)) + (b.size - (ib4 + 1)) ≤ _; omega⟩)
        · exact wpS_pure ⟨rfl, ev5, ⟨m8, by show (ia4 + K) + 1 + 1 < a.size; omega, by show (ib4 + 1) < b.size; omega⟩, by show (a.size - ((ia4 + K) + 1)) + (b.size - (ib4 + 1)) + (j + 1) ≤ _; omega⟩
    · rw [if_neg zk]
      have m5 := m4
      have h5 : ∀ y ∈ a.toList.drop ia4, lt x y = true := by
        have h5' := k3
        rw [show ia4 + K = ia4 by omega] at h5'
        exact h5'
      refine wpS_bind (wpS_elem hx ?_)
      have m6 := pushB m5 hx2 h5
      by_cases e6 : ib4 + 1 = b.size
      · rw [if_pos (by rw [e6]; exact beq_self_eq_true _)]
        exact wpS_pure (.inl ⟨_, rfl, done m6 e6 ev5⟩)
      rw [if_neg (fun z => e6 (eq_of_beq z))]
      obtain ⟨y, hy, hy2, hym⟩ := arr_at (a := a) (i := ia4) (by omega)
      refine wpS_bind (wpS_elem hy ?_)
      refine wpS_bind (wpS_gal hc O (ev5.1.trans hk) (ua y hym) (by omega) ub sb (fun z hz => (ne y hym z hz).symm) fun K2 q1 q2 q3 => ?_)
      dsimp only
      by_cases zk2 : K2 > 0
      · rw [if_pos zk2]
        have m7 := runB (k := K2) m6 (fun x' hx' => head_all O sa ua (ub x' (List.mem_of_mem_drop (List.mem_of_mem_take hx'))) hy2 (q2 x' hx'))
        have h7 := q3
        by_cases e7 : ib4 + 1 + K2 = b.size
        · rw [if_pos (by rw [e7]; exact beq_self_eq_true _)]
          exact wpS_pure (.inl ⟨_, rfl, done m7 e7 ev5⟩)
        rw [if_neg (fun z => e7 (eq_of_beq z))]
        refine wpS_bind (wpS_elem hy ?_)
        have m8 := pushA m7 hy2 h7
        by_cases e8 : ia4 + 1 + 1 = a.size
        · rw [if_pos (by rw [e8]; exact beq_self_eq_true _)]
          exact wpS_pure (.inl ⟨_, rfl, last m8 e8 ev5⟩)
        rw [if_neg (fun z => e8 (eq_of_beq z))]
        split
        · exact wpS_pure (.inr ⟨rfl, ev5, ⟨m8, by show ia4 + 1 + 1 < a.size; omega, by show (ib4 + 1 + K2) < b.size; omega⟩, by show (a.size - (ia4 + 1)) + (b.size - (ib4 + 1 + K2)) ≤ _; omega⟩)
        · exact wpS_pure ⟨rfl, ev5, ⟨m8, by show ia4 + 1 + 1 < a.size; omega, by show (ib4 + 1 + K2) < b.size; omega⟩, by show (a.size - (ia4 + 1)) + (b.size - (ib4 + 1 + K2)) + (j + 1) ≤ _; omega⟩
      · rw [if_neg zk2]
        have m7 := m6
        have h7 : ∀ x' ∈ b.toList.drop (ib4 + 1), lt y x' = true := by
          have h7' := q3
          rw [show ib4 + 1 + K2 = ib4 + 1 by omega] at h7'
          exact h7'
        refine wpS_bind (wpS_elem hy ?_)
        have m8 := pushA m7 hy2 h7
        by_cases e8 : ia4 + 1 + 1 = a.size
        · rw [if_pos (by rw [e8]; exact beq_self_eq_true _)]
          exact wpS_pure (.inl ⟨_, rfl, last m8 e8 ev5⟩)
        rw [if_neg (fun z => e8 (eq_of_beq z))]
        split
        · exact wpS_pure (.inr ⟨rfl, ev5, ⟨m8, by show ia4 + 1 + 1 < a.size; omega, by show (ib4 + 1) < b.size; omega⟩, by show (a.size - (ia4 + 1)) + (b.size - (ib4 + 1)) ≤ _; omega⟩)
        · exact wpS_pure ⟨rfl, ev5, ⟨m8, by show ia4 + 1 + 1 < a.size; omega, by show (ib4 + 1) < b.size; omega⟩, by show (a.size - (ia4 + 1)) + (b.size - (ib4 + 1)) + (j + 1) ≤ _; omega⟩
  · rw [if_neg z]
    refine wpS_bind (wpS_mg fun st5 ev45 => ?_)
    have ev5 := ev4.trans ev45
    refine wpS_bind (wpS_elem hx ?_)
    refine wpS_bind (wpS_gal hc O (ev5.1.trans hk) (ub x hxm) (by omega) ua sa (fun z hz => ne z hz x hxm) fun K k1 k2 k3 => ?_)
    have kl := lastK hxm k2 b1
    dsimp only
    by_cases zk : K > 0
    · rw [if_pos zk]
      have m5 := runA (k := K) m4 (fun x' hx' => head_all O sb ub (ua x' (List.mem_of_mem_drop (List.mem_of_mem_take hx'))) hx2 (k2 x' hx'))
      have h5 := k3
      by_cases e5 : ia4 + K + 1 = a.size
      · rw [if_pos (by rw [e5]; exact beq_self_eq_true _)]
        exact wpS_pure (.inl ⟨_, rfl, last m5 e5 ev5⟩)
      rw [if_neg (fun z => e5 (eq_of_beq z)), if_neg (fun z => Nat.ne_of_lt kl (eq_of_beq z))]
      refine wpS_bind (wpS_elem hx ?_)
      have m6 := pushB m5 hx2 h5
      by_cases e6 : ib4 + 1 = b.size
      · rw [if_pos (by rw [e6]; exact beq_self_eq_true _)]
        exact wpS_pure (.inl ⟨_, rfl, done m6 e6 ev5⟩)
      rw [if_neg (fun z => e6 (eq_of_beq z))]
      obtain ⟨y, hy, hy2, hym⟩ := arr_at (a := a) (i := (ia4 + K)) (by omega)
      refine wpS_bind (wpS_elem hy ?_)
      refine wpS_bind (wpS_gal hc O (ev5.1.trans hk) (ua y hym) (by omega) ub sb (fun z hz => (ne y hym z hz).symm) fun K2 q1 q2 q3 => ?_)
      dsimp only
      by_cases zk2 : K2 > 0
      · rw [if_pos zk2]
        have m7 := runB (k := K2) m6 (fun x' hx' => head_all O sa ua (ub x' (List.mem_of_mem_drop (List.mem_of_mem_take hx'))) hy2 (q2 x' hx'))
        have h7 := q3
        by_cases e7 : ib4 + 1 + K2 = b.size
        · rw [if_pos (by rw [e7]; exact beq_self_eq_true _)]
          exact wpS_pure (.inl ⟨_, rfl, done m7 e7 ev5⟩)
        rw [if_neg (fun z => e7 (eq_of_beq z))]
        refine wpS_bind (wpS_elem hy ?_)
        have m8 := pushA m7 hy2 h7
        by_cases e8 : (ia4 + K) + 1 + 1 = a.size
        · rw [if_pos (by rw [e8]; exact beq_self_eq_true _)]
          exact wpS_pure (.inl ⟨_, rfl, last m8 e8 ev5⟩)
        rw [if_neg (fun z => e8 (eq_of_beq z))]
        split
        · exact wpS_pure (.inr ⟨rfl, ev5, ⟨m8, by show (ia4 + K) + 1 + 1 < a.size; omega, by show (ib4 + 1 + K2) < b.size; omega⟩, by show (a.size - ((ia4 + K) + 1)) + (b.size - (ib4 + 1 + K2)) ≤ _; omega⟩)
        · exact wpS_pure ⟨rfl, ev5, ⟨m8, by show (ia4 + K) + 1 + 1 < a.size; omega, by show (ib4 + 1 + K2) < b.size; omega⟩, by show (a.size - ((ia4 + K) + 1)) + (b.size - (ib4 + 1 + K2)) + (j + 1) ≤ _; omega⟩
      · rw [if_neg zk2]
        have m7 := m6
        have h7 : ∀ x' ∈ b.toList.drop (ib4 + 1), lt y x' = true := by
          have h7' := q3
          rw [show ib4 + 1 + K2 = ib4 + 1 by omega] at h7'
          exact h7'
        refine wpS_bind (wpS_elem hy ?_)
        have m8 := pushA m7 hy2 h7
        by_cases e8 : (ia4 + K) + 1 + 1 = a.size
        · rw [if_pos (by rw [e8]; exact beq_self_eq_true _)]
          exact wpS_pure (.inl ⟨_, rfl, last m8 e8 ev5⟩)
        rw [if_neg (fun z => e8 (eq_of_beq z))]
        split
        · exact wpS_pure (.inr ⟨rfl, ev5, ⟨m8, by show (ia4 + K) + 1 + 1 < a.size; omega, by show (ib4 + 1) < b.size; omega⟩, by show (a.size - ((ia4 + K) + 1)) + (b.size - (ib4 + 1)) ≤ _; omega⟩)
        · exact wpS_pure ⟨rfl, ev5, ⟨m8, by show (ia4 + K) + 1 + 1 < a.size; omega, by show (ib4 + 1) < b.size; omega⟩, by show (a.size - ((ia4 + K) + 1)) + (b.size - (ib4 + 1)) + (j + 1) ≤ _; omega⟩
    · rw [if_neg zk]
      have m5 := m4
      have h5 : ∀ y ∈ a.toList.drop ia4, lt x y = true := by
        have h5' := k3
        rw [show ia4 + K = ia4 by omega] at h5'
        exact h5'
      refine wpS_bind (wpS_elem hx ?_)
      have m6 := pushB m5 hx2 h5
      by_cases e6 : ib4 + 1 = b.size
      · rw [if_pos (by rw [e6]; exact beq_self_eq_true _)]
        exact wpS_pure (.inl ⟨_, rfl, done m6 e6 ev5⟩)
      rw [if_neg (fun z => e6 (eq_of_beq z))]
      obtain ⟨y, hy, hy2, hym⟩ := arr_at (a := a) (i := ia4) (by omega)
      refine wpS_bind (wpS_elem hy ?_)
      refine wpS_bind (wpS_gal hc O (ev5.1.trans hk) (ua y hym) (by omega) ub sb (fun z hz => (ne y hym z hz).symm) fun K2 q1 q2 q3 => ?_)
      dsimp only
      by_cases zk2 : K2 > 0
      · rw [if_pos zk2]
        have m7 := runB (k := K2) m6 (fun x' hx' => head_all O sa ua (ub x' (List.mem_of_mem_drop (List.mem_of_mem_take hx'))) hy2 (q2 x' hx'))
        have h7 := q3
        by_cases e7 : ib4 + 1 + K2 = b.size
        · rw [if_pos (by rw [e7]; exact beq_self_eq_true _)]
          exact wpS_pure (.inl ⟨_, rfl, done m7 e7 ev5⟩)
        rw [if_neg (fun z => e7 (eq_of_beq z))]
        refine wpS_bind (wpS_elem hy ?_)
        have m8 := pushA m7 hy2 h7
        by_cases e8 : ia4 + 1 + 1 = a.size
        · rw [if_pos (by rw [e8]; exact beq_self_eq_true _)]
          exact wpS_pure (.inl ⟨_, rfl, last m8 e8 ev5⟩)
        rw [if_neg (fun z => e8 (eq_of_beq z))]
        split
        · exact wpS_pure (.inr ⟨rfl, ev5, ⟨m8, by show ia4 + 1 + 1 < a.size; omega, by show (ib4 + 1 + K2) < b.size; omega⟩, by show (a.size - (ia4 + 1)) + (b.size - (ib4 + 1 + K2)) ≤ _; omega⟩)
        · exact wpS_pure ⟨rfl, ev5, ⟨m8, by show ia4 + 1 + 1 < a.size; omega, by show (ib4 + 1 + K2) < b.size; omega⟩, by show (a.size - (ia4 + 1)) + (b.size - (ib4 + 1 + K2)) + (j + 1) ≤ _; omega⟩
      · rw [if_neg zk2]
        have m7 := m6
        have h7 : ∀ x' ∈ b.toList.drop (ib4 + 1), lt y x' = true := by
          have h7' := q3
          rw [show ib4 + 1 + K2 = ib4 + 1 by omega] at h7'
          exact h7'
        refine wpS_bind (wpS_elem hy ?_)
        have m8 := pushA m7 hy2 h7
        by_cases e8 : ia4 + 1 + 1 = a.size
        · rw [if_pos (by rw [e8]; exact beq_self_eq_true _)]
          exact wpS_pure (.inl ⟨_, rfl, last m8 e8 ev5⟩)
        rw [if_neg (fun z => e8 (eq_of_beq z))]
        split
        · exact wpS_pure (.inr ⟨rfl, ev5, ⟨m8, by show ia4 + 1 + 1 < a.size; omega, by show (ib4 + 1) < b.size; omega⟩, by show (a.size - (ia4 + 1)) + (b.size - (ib4 + 1)) ≤ _; omega⟩)
        · exact wpS_pure ⟨rfl, ev5, ⟨m8, by show ia4 + 1 + 1 < a.size; omega, by show (ib4 + 1) < b.size; omega⟩, by show (a.size - (ia4 + 1)) + (b.size - (ib4 + 1)) + (j + 1) ≤ _; omega⟩
end
end L2
namespace L2
open PySem PySem.W PyProof.Rows
def mergeHiX : Array Keyed → Array Keyed → StateT SortSt Sem (Array Keyed) := sortPriv% PySem.Builtin.mergeHi
section
variable {prog : Program} {w : World} {A : Around} {E : Value → Shared → Prop} {s : Shared} {κ : SortKind} {U : Keyed → Prop} {lt : Keyed → Keyed → Bool}
structure MrgH (lt : Keyed → Keyed → Bool) (a b : List Keyed) (o : List Keyed) (na nb : Nat) : Prop where
  perm : o.Perm (a.drop na ++ b.drop nb)
  up : UpU lt o.reverse
  la : ∀ x ∈ o, ∀ y ∈ a.take na, lt y x = true
  lb : ∀ x ∈ o, ∀ y ∈ b.take nb, lt y x = true
theorem cutK (a : List Keyed) {k n : Nat} (hk : k ≤ n) : a.take n = a.take k ++ (a.take n).drop k := by
  have h := (List.take_append_drop k (a.take n)).symm
  rwa [List.take_take, Nat.min_eq_left hk] at h
theorem cutD (a : List Keyed) {k n : Nat} (hk : k ≤ n) (hn : n ≤ a.length) : a.drop k = (a.take n).drop k ++ a.drop n := by
  have h := congrArg (List.drop k) (List.take_append_drop n a).symm
  rwa [List.drop_append_of_le_length (by rw [List.length_take]; omega)] at h
theorem MrgH.nextA {a b o : List Keyed} {na nb k : Nat} (h : MrgH lt a b o na nb) (ha : UpU lt a) (hn : na ≤ a.length) (hkn : k ≤ na) (hk : ∀ x ∈ (a.take na).drop k, ∀ y ∈ b.take nb, lt y x = true) : MrgH lt a b (o ++ ((a.take na).drop k).reverse) k nb := by
  have hd : UpU lt (a.take na) := List.Pairwise.sublist (List.take_sublist _ _) ha
  have hc := cutK a hkn
  refine ⟨?_, ?_, ?_, ?_⟩
  · rw [cutD a hkn hn]
    refine (List.Perm.append h.perm (List.reverse_perm _)).trans ?_
    refine List.perm_append_comm.trans ?_
    rw [List.append_assoc]
  · rw [List.reverse_append, List.reverse_reverse]
    exact List.pairwise_append.mpr ⟨List.Pairwise.sublist (List.drop_sublist _ _) hd, h.up, fun x hx y hy => h.la y (List.mem_reverse.mp hy) x (List.mem_of_mem_drop hx)⟩
  · intro x hx y hy
    rcases List.mem_append.mp hx with hx | hx
    · exact h.la x hx y (by rw [hc]; exact List.mem_append_left _ hy)
    · have hd' := hd
      rw [hc] at hd'
      exact (List.pairwise_append.mp hd').2.2 y hy x (List.mem_reverse.mp hx)
  · intro x hx y hy
    rcases List.mem_append.mp hx with hx | hx
    · exact h.lb x hx y hy
    · exact hk x (List.mem_reverse.mp hx) y hy
theorem MrgH.swap {a b o : List Keyed} {na nb : Nat} (h : MrgH lt a b o na nb) : MrgH lt b a o nb na := ⟨h.perm.trans List.perm_append_comm, h.up, h.lb, h.la⟩
theorem MrgH.nextB {a b o : List Keyed} {na nb k : Nat} (h : MrgH lt a b o na nb) (hb : UpU lt b) (hn : nb ≤ b.length) (hkn : k ≤ nb) (hk : ∀ x ∈ (b.take nb).drop k, ∀ y ∈ a.take na, lt y x = true) : MrgH lt a b (o ++ ((b.take nb).drop k).reverse) na k := (h.swap.nextA hb hn hkn hk).swap
theorem MrgH.endA {a b o : List Keyed} {nb : Nat} (h : MrgH lt a b o 0 nb) (hb : UpU lt b) : (b.take nb ++ o.reverse).Perm (a ++ b) ∧ UpU lt (b.take nb ++ o.reverse) := by
  refine ⟨?_, List.pairwise_append.mpr ⟨List.Pairwise.sublist (List.take_sublist _ _) hb, h.up, fun x hx y hy => h.lb y (List.mem_reverse.mp hy) x hx⟩⟩
  refine (List.Perm.append_left _ ((List.reverse_perm _).trans h.perm)).trans ?_
  refine (List.perm_append_comm_assoc _ _ _).trans ?_
  rw [List.take_append_drop]
  exact List.Perm.refl _
theorem MrgH.endB {a b o : List Keyed} {na nb : Nat} (h : MrgH lt a b o na nb) (ha : UpU lt a) (hb : UpU lt b) (hg : ∀ x ∈ b.take nb, ∀ y ∈ a, lt x y = true) : (b.take nb ++ a.take na ++ o.reverse).Perm (a ++ b) ∧ UpU lt (b.take nb ++ a.take na ++ o.reverse) := by
  refine ⟨?_, List.pairwise_append.mpr ⟨List.pairwise_append.mpr ⟨List.Pairwise.sublist (List.take_sublist _ _) hb, List.Pairwise.sublist (List.take_sublist _ _) ha, fun x hx y hy => hg x hx y (List.mem_of_mem_take hy)⟩, h.up, fun x hx y hy => ?_⟩⟩
  · refine (List.Perm.append_left _ ((List.reverse_perm _).trans h.perm)).trans ?_
    rw [List.append_assoc, ← List.append_assoc (List.take na a), List.take_append_drop]
    refine (List.perm_append_comm_assoc _ _ _).trans ?_
    rw [List.take_append_drop]
  · rcases List.mem_append.mp hx with hx | hx
    · exact h.lb y (List.mem_reverse.mp hy) x hx
    · exact h.la y (List.mem_reverse.mp hy) x hx
theorem ext_0 (a : Array Keyed) (k : Nat) : (a.extract 0 k).toList = a.toList.take k := by
  rw [Array.toList_extract]
  rfl
theorem ext_r (a : Array Keyed) (k n : Nat) : (a.extract k n).reverse.toList = ((a.toList.take n).drop k).reverse := by
  rw [Array.toList_reverse, Array.toList_extract, List.drop_take]
theorem top_one {l : List Keyed} {n : Nat} {x : Keyed} (hn : 1 ≤ n) (h : l[n - 1]? = some x) : (l.take n).drop (n - 1) = [x] := by
  rw [List.drop_take, show n - (n - 1) = 1 by omega]
  exact take_one h
theorem tail_all (O : OrdU U lt) {l : List Keyed} (hl : UpU lt l) (ul : ∀ z ∈ l, U z) {x y : Keyed} {n : Nat} (hx : U x) (hn : 1 ≤ n) (hy : l[n - 1]? = some y) (h : lt y x = true) : ∀ z ∈ l.take n, lt z x = true := fun z hz => by
  have hd : UpU lt (l.take n) := List.Pairwise.sublist (List.take_sublist _ _) hl
  have hz' : z ∈ l := List.mem_of_mem_take hz
  rw [cutK l (Nat.sub_le n 1), top_one hn hy] at hz hd
  rcases List.mem_append.mp hz with hz | hz
  · exact O.tr z y x (ul z hz') (ul y (List.mem_of_getElem? hy)) hx ((List.pairwise_append.mp hd).2.2 z hz y List.mem_cons_self) h
  · rw [List.mem_singleton.mp hz]
    exact h
theorem wpS_galG (hc : CmpU prog w A s κ U lt) (O : OrdU U lt) {st : SortSt} (hk : kindOf st = κ) {left : Bool} {key : Keyed} {arr : Array Keyed} {base n hint : Nat} (hkey : U key) (hb : base + n ≤ arr.size) (hh : hint < n) (hu : ∀ z ∈ (arr.toList.drop base).take n, U z) (hup : UpU lt ((arr.toList.drop base).take n)) (hne : ∀ z ∈ (arr.toList.drop base).take n, z ≠ key)
    {Q : Option Nat → SortSt → Prop} (h : ∀ K, K ≤ n → (∀ x ∈ (arr.toList.drop base).take K, lt x key = true) → (∀ x ∈ ((arr.toList.drop base).take n).drop K, lt key x = true) → Q (some K) st) : wpS (model prog w) A E s (gallopX left key arr base n hint) Q st := by
  obtain ⟨K, k1, k2, k3⟩ := stands O hkey hup hu hne
  rw [List.length_take, List.length_drop, Array.length_toList] at k1
  have k1' : K ≤ n := by omega
  rw [List.take_take, Nat.min_eq_left k1'] at k2
  refine wpS_gallop hc hk hkey hh k1' (fun i hi => ?_) (h K k1' k2 k3)
  obtain ⟨x, hx, hx2, hxm⟩ := arr_at (a := arr) (i := base + i) (by omega)
  have hx3 : ((arr.toList.drop base).take n)[i]? = some x := by rw [List.getElem?_take_of_lt hi, List.getElem?_drop]; exact hx2
  have hxu := hu x (List.mem_of_getElem? hx3)
  refine ⟨x, hx, hxu, fun _ => ?_, fun _ => ?_⟩
  · by_cases z : i < K
    · rw [decide_eq_true z]
      exact k2 x (List.mem_of_getElem? (i := i) (by rw [List.getElem?_take_of_lt z, List.getElem?_drop]; exact hx2))
    · rw [decide_eq_false z]
      exact O.asym hkey hxu (k3 x (List.mem_of_getElem? (i := i - K) (by rw [List.getElem?_drop, show K + (i - K) = i by omega]; exact hx3)))
  · by_cases z : K ≤ i
    · rw [decide_eq_true z]
      exact k3 x (List.mem_of_getElem? (i := i - K) (by rw [List.getElem?_drop, show K + (i - K) = i by omega]; exact hx3))
    · rw [decide_eq_false z]
      exact O.asym hxu hkey (k2 x (List.mem_of_getElem? (i := i) (by rw [List.getElem?_take_of_lt (by omega), List.getElem?_drop]; exact hx2)))
def StH (lt : Keyed → Keyed → Bool) (a b out : Array Keyed) (na nb : Nat) : Prop := MrgH lt a.toList b.toList out.toList na nb ∧ (1 ≤ na ∧ na ≤ a.size) ∧ 2 ≤ nb ∧ nb ≤ b.size
end
end L2
namespace L2
open PySem PySem.W PyProof.Rows
section
variable {prog : Program} {w : World} {A : Around} {E : Value → Shared → Prop} {s : Shared} {κ : SortKind} {U : Keyed → Prop} {lt : Keyed → Keyed → Bool}
set_option maxHeartbeats 8000000 in
theorem wpS_mergeHi (hc : CmpU prog w A s κ U lt) (O : OrdU U lt) {st : SortSt} (hk : kindOf st = κ) {a b : Array Keyed} (ha : 1 ≤ a.size) (hb : 1 ≤ b.size) (ua : ∀ x ∈ a.toList, U x) (ub : ∀ x ∈ b.toList, U x) (sa : UpU lt a.toList) (sb : UpU lt b.toList) (ne : ∀ x ∈ a.toList, ∀ y ∈ b.toList, x ≠ y)
    (h0 : ∀ x ∈ a.toList, lt (b[0]'(by omega)) x = true) (hl : ∀ x ∈ b.toList, lt x (a[a.size - 1]'(by omega)) = true)
    {Q : Array Keyed → SortSt → Prop} (h : ∀ (r : Array Keyed) (st' : SortSt), Eqv st st' → r.toList.Perm (a.toList ++ b.toList) → UpU lt r.toList → Q r st') : wpS (model prog w) A E s (mergeHiX a b) Q st := by
  have lenA : a.toList.length = a.size := Array.length_toList
  have lenB : b.toList.length = b.size := Array.length_toList
  have b0 : b.toList[0]? = some (b[0]'(by omega)) := by
    rw [Array.getElem?_toList, Array.getElem?_eq_getElem (show 0 < b.size by omega)]
  have firstB : ∀ x ∈ b.toList.take 1, ∀ y ∈ a.toList, lt x y = true := fun x hx y hy => by
    have h1 : b.toList.take 1 = [b[0]'(by omega)] := take_one (i := 0) b0
    rw [h1] at hx
    rw [List.mem_singleton.mp hx]
    exact h0 y hy
  have done : ∀ {out : Array Keyed} {na nb : Nat} {st' : SortSt}, MrgH lt a.toList b.toList out.toList na nb → na = 0 → Eqv st st' → GoodM lt a b st (a.extract 0 na ++ b.extract 0 nb ++ out.reverse) st' := fun {out na nb st'} m e ev => by
    subst e
    obtain ⟨p1, p2⟩ := m.endA sb
    have el : (a.extract 0 0 ++ b.extract 0 nb ++ out.reverse).toList = b.toList.take nb ++ out.toList.reverse := by
      rw [Array.toList_append, Array.toList_append, ext_0, ext_0, Array.toList_reverse]
      rfl
    exact ⟨ev, by rw [el]; exact p1, by rw [el]; exact p2⟩
  have last : ∀ {out : Array Keyed} {na nb : Nat} {st' : SortSt}, MrgH lt a.toList b.toList out.toList na nb → nb = 1 → Eqv st st' → GoodM lt a b st (b.extract 0 nb ++ a.extract 0 na ++ out.reverse) st' := fun {out na nb st'} m e ev => by
    subst e
    obtain ⟨p1, p2⟩ := m.endB sa sb firstB
    have el : (b.extract 0 1 ++ a.extract 0 na ++ out.reverse).toList = b.toList.take 1 ++ a.toList.take na ++ out.toList.reverse := by
      rw [Array.toList_append, Array.toList_append, ext_0, ext_0, Array.toList_reverse]
    exact ⟨ev, by rw [el]; exact p1, by rw [el]; exact p2⟩
  have pushA : ∀ {out : Array Keyed} {na nb : Nat} {x : Keyed}, MrgH lt a.toList b.toList out.toList na nb → 1 ≤ na → na ≤ a.size → a.toList[na - 1]? = some x → (∀ y ∈ b.toList.take nb, lt y x = true) → MrgH lt a.toList b.toList (out.push x).toList (na - 1) nb := fun {out na nb x} m h1 h2 hx hy => by
    have := m.nextA (k := na - 1) sa (by omega) (by omega) (by rw [top_one h1 hx]; intro z hz; rw [List.mem_singleton.mp hz]; exact hy)
    rw [top_one h1 hx] at this
    rw [Array.toList_push]
    exact this
  have pushB : ∀ {out : Array Keyed} {na nb : Nat} {x : Keyed}, MrgH lt a.toList b.toList out.toList na nb → 1 ≤ nb → nb ≤ b.size → b.toList[nb - 1]? = some x → (∀ y ∈ a.toList.take na, lt y x = true) → MrgH lt a.toList b.toList (out.push x).toList na (nb - 1) := fun {out na nb x} m h1 h2 hx hy => by
    have := m.nextB (k := nb - 1) sb (by omega) (by omega) (by rw [top_one h1 hx]; intro z hz; rw [List.mem_singleton.mp hz]; exact hy)
    rw [top_one h1 hx] at this
    rw [Array.toList_push]
    exact this
  have runA : ∀ {out : Array Keyed} {na nb k : Nat}, MrgH lt a.toList b.toList out.toList na nb → na ≤ a.size → k ≤ na → (∀ x ∈ (a.toList.take na).drop k, ∀ y ∈ b.toList.take nb, lt y x = true) → MrgH lt a.toList b.toList (out ++ (a.extract k na).reverse).toList k nb := fun m h1 h2 hk => by
    rw [Array.toList_append, ext_r]
    exact m.nextA sa (by omega) h2 hk
  have runB : ∀ {out : Array Keyed} {na nb k : Nat}, MrgH lt a.toList b.toList out.toList na nb → nb ≤ b.size → k ≤ nb → (∀ x ∈ (b.toList.take nb).drop k, ∀ y ∈ a.toList.take na, lt y x = true) → MrgH lt a.toList b.toList (out ++ (b.extract k nb).reverse).toList na k := fun m h1 h2 hk => by
    rw [Array.toList_append, ext_r]
    exact m.nextB sb (by omega) h2 hk
  have firstK : ∀ {n K : Nat} {y : Keyed}, y ∈ a.toList → K ≤ n → 1 ≤ n → (∀ x ∈ (b.toList.take n).drop K, lt y x = true) → 0 < K := fun {n K y} hy h1 h2 h3 => by
    refine Nat.pos_of_ne_zero fun z => ?_
    subst z
    have h4 := h3 (b[0]'(by omega)) (List.mem_of_getElem? (i := 0) (by rw [List.drop_zero, List.getElem?_take_of_lt (by omega)]; exact b0))
    rw [O.asym (ub _ (List.mem_of_getElem? b0)) (ua y hy) (h0 y hy)] at h4
    cases h4
  refine wpS_bind (wpS_lift (wpAny_rule ⟨rfl, ?_⟩))
  dsimp only
  have ha0 : a[a.size - 1]? = some (a[a.size - 1]'(by omega)) := Array.getElem?_eq_getElem (by omega)
  refine wpS_bind (wpS_elem ha0 ?_)
  have m0 : MrgH lt a.toList b.toList (#[a[a.size - 1]'(by omega)] : Array Keyed).toList (a.size - 1) b.size := by
    have hx : a.toList[a.size - 1]? = some (a[a.size - 1]'(by omega)) := by rw [Array.getElem?_toList]; exact ha0
    have := pushA (out := #[]) (na := a.size) (nb := b.size) ⟨by rw [List.drop_of_length_le (by omega), List.drop_of_length_le (by omega)]; exact List.Perm.refl _, .nil, (fun x hx => by cases hx), (fun x hx => by cases hx)⟩ ha (Nat.le_refl _) hx (fun y hy => hl y (List.mem_of_mem_take hy))
    exact this
  generalize (#[a[a.size - 1]'(by omega)] : Array Keyed) = out0 at m0
  by_cases e1 : a.size - 1 = 0
  · rw [if_pos (by rw [e1]; rfl)]
    obtain ⟨g1, g2, g3⟩ := done m0 e1 (Eqv.refl st)
    exact wpS_pure (h _ _ g1 g2 g3)
  rw [if_neg (fun z => e1 (eq_of_beq z))]
  by_cases e2 : b.size = 1
  · rw [if_pos (by rw [e2]; rfl)]
    obtain ⟨g1, g2, g3⟩ := last m0 e2 (Eqv.refl st)
    exact wpS_pure (h _ _ g1 g2 g3)
  rw [if_neg (fun z => e2 (eq_of_beq z))]
  refine wpS_bind (wpS_get ?_)
  refine wpS_bind (wpS_mono (wpS_forRange (I := fun i c st' => c.1 = none ∧ Eqv st st' ∧ StH lt a b c.2.2.2.1 c.2.1 c.2.2.1 ∧ c.2.1 + c.2.2.1 + i ≤ a.size + b.size) (Q := fun c st' => ∃ r, c.1 = some r ∧ GoodM lt a b st r st') ?_ ?_ ⟨rfl, Eqv.refl st, ⟨m0, by show 1 ≤ a.size - 1 ∧ a.size - 1 ≤ a.size; omega, by show 2 ≤ b.size ∧ b.size ≤ b.size; omega⟩, by show (a.size - 1) + b.size + 0 ≤ _; omega⟩) ?_)
  rotate_left
  · rintro ⟨r, na, nb, out, mg⟩ st' ⟨_, _, hS, hm⟩
    have h1 : 1 ≤ na := hS.2.1.1
    have h2 : na + nb + max 0 (a.size + b.size) ≤ a.size + b.size := hm
    omega
  · rintro ⟨r, na, nb, out, mg⟩ st' ⟨r', hr, hg⟩
    have hr' : r = some r' := hr
    subst hr'
    exact wpS_pure (h _ _ hg.1 hg.2.1 hg.2.2)
  rintro i ⟨r, na, nb, out, mg⟩ st1 _ hi ⟨hr, ev1, hS, hm⟩
  have hr' : r = none := hr
  subst hr'
  have hS : StH lt a b out na nb := hS
  have hm : na + nb + i ≤ a.size + b.size := hm
  dsimp only
  refine wpS_bind (wpS_mono (wpS_forRange (I := fun j c st' => c.1 = none ∧ Eqv st st' ∧ StH lt a b c.2.2.2.1 c.2.1 c.2.2.1 ∧ c.2.1 + c.2.2.1 + j ≤ na + nb) (Q := fun c st' => (∃ r, c.1 = some r ∧ GoodM lt a b st r st') ∨ (c.1 = none ∧ Eqv st st' ∧ StH lt a b c.2.2.2.1 c.2.1 c.2.2.1 ∧ c.2.1 + c.2.2.1 + 1 ≤ na + nb)) ?_ ?_ ⟨rfl, ev1, hS, Nat.le_refl _⟩) ?_)
  rotate_left
  · rintro ⟨r, na2, nb2, out2, ac, bc⟩ st' ⟨_, _, hS2, hm2⟩
    have h1 : 1 ≤ na2 := hS2.2.1.1
    have h2 : na2 + nb2 + max 0 (a.size + b.size) ≤ na + nb := hm2
    omega
  rotate_left
  · rintro j ⟨r, na2, nb2, o2, ac, bc⟩ st2 _ hj ⟨hr2, ev2, hS2, hm2⟩
    have hr2' : r = none := hr2
    subst hr2'
    obtain ⟨m2, b1, b2⟩ : StH lt a b o2 na2 nb2 := hS2
    have hm2 : na2 + nb2 + j ≤ na + nb := hm2
    obtain ⟨x, hx, hx2, hxm⟩ := arr_at (a := b) (i := nb2 - 1) (by omega)
    obtain ⟨y, hy, hy2, hym⟩ := arr_at (a := a) (i := na2 - 1) (by omega)
    dsimp only
    refine wpS_bind (wpS_elem hx (wpS_bind (wpS_elem hy (wpS_bind (wpS_ltU hc (ev2.1.trans hk) (ub x hxm) (ua y hym) ?_)))))
    dsimp only
    cases c : lt x y with
    | true =>
      rw [if_pos rfl]
      refine wpS_bind (wpS_elem hy ?_)
      have m3 := pushA m2 b1.1 b1.2 hy2 (tail_all O sb ub (ua y hym) (by omega) hx2 c)
      by_cases e : na2 - 1 = 0
      · rw [if_pos (by rw [e]; rfl)]
        exact wpS_pure (.inl ⟨_, rfl, done m3 e ev2⟩)
      · rw [if_neg (fun z => e (eq_of_beq z))]
        by_cases z : ac + 1 ≥ mg
        · rw [if_pos z]
          exact wpS_pure (.inr ⟨rfl, ev2, ⟨m3, by show 1 ≤ na2 - 1 ∧ na2 - 1 ≤ a.size; omega, b2⟩, by show (na2 - 1) + nb2 + 1 ≤ _; omega⟩)
        · rw [if_neg z]
          exact wpS_pure ⟨rfl, ev2, ⟨m3, by show 1 ≤ na2 - 1 ∧ na2 - 1 ≤ a.size; omega, b2⟩, by show (na2 - 1) + nb2 + (j + 1) ≤ _; omega⟩
    | false =>
      rw [if_neg (by decide)]
      refine wpS_bind (wpS_elem hx ?_)
      have c2 := O.tot x y (ub x hxm) (ua y hym) (fun z => ne y hym x hxm z.symm) c
      have m3 := pushB m2 (by omega) b2.2 hx2 (tail_all O sa ua (ub x hxm) b1.1 hy2 c2)
      by_cases e : nb2 - 1 = 1
      · rw [if_pos (by rw [e]; rfl)]
        exact wpS_pure (.inl ⟨_, rfl, last m3 e ev2⟩)
      · rw [if_neg (fun z => e (eq_of_beq z))]
        by_cases z : bc + 1 ≥ mg
        · rw [if_pos z]
          exact wpS_pure (.inr ⟨rfl, ev2, ⟨m3, b1, by show 2 ≤ nb2 - 1 ∧ nb2 - 1 ≤ b.size; omega⟩, by show na2 + (nb2 - 1) + 1 ≤ _; omega⟩)
        · rw [if_neg z]
          exact wpS_pure ⟨rfl, ev2, ⟨m3, b1, by show 2 ≤ nb2 - 1 ∧ nb2 - 1 ≤ b.size; omega⟩, by show na2 + (nb2 - 1) + (j + 1) ≤ _; omega⟩
  rintro ⟨r, na3, nb3, o3, ac, bc⟩ st3 hQ3
  rcases hQ3 with ⟨r', hr3, hg⟩ | ⟨hr3, ev3, hS3, hm3⟩
  · have hr3' : r = some r' := hr3
    subst hr3'
    exact wpS_pure ⟨r', rfl, hg⟩
  have hr3' : r = none := hr3
  subst hr3'
  have hS3 : StH lt a b o3 na3 nb3 := hS3
  have hm3 : na3 + nb3 + 1 ≤ na + nb := hm3
  dsimp only
  refine wpS_bind (wpS_lift (wpAny_rule ⟨rfl, ?_⟩))
  refine wpS_bind (wpS_mono (wpS_forRange (I := fun j c st' => c.1 = none ∧ Eqv st st' ∧ StH lt a b c.2.2.2.1 c.2.1 c.2.2.1 ∧ c.2.1 + c.2.2.1 + j ≤ na3 + nb3) (Q := fun c st' => (∃ r, c.1 = some r ∧ GoodM lt a b st r st') ∨ (c.1 = none ∧ Eqv st st' ∧ StH lt a b c.2.2.2.1 c.2.1 c.2.2.1 ∧ c.2.1 + c.2.2.1 ≤ na3 + nb3)) ?_ ?_ ⟨rfl, ev3, hS3, Nat.le_refl _⟩) ?_)
  rotate_left
  · rintro ⟨r, na4, nb4, o4, mg4, ac4, bc4⟩ st4 ⟨hr4, ev4, hS4, hm4⟩
    have hm4 : na4 + nb4 + max 0 (a.size + b.size) ≤ na3 + nb3 := hm4
    exact .inr ⟨hr4, ev4, hS4, by show na4 + nb4 ≤ _; omega⟩
  · rintro ⟨r, na4, nb4, o4, mg4, ac4, bc4⟩ st4 hQ4
    rcases hQ4 with ⟨r', hr4, hg⟩ | ⟨hr4, ev4, hS4, hm4⟩
    · have hr4' : r = some r' := hr4
      subst hr4'
      exact wpS_pure ⟨r', rfl, hg⟩
    have hr4' : r = none := hr4
    subst hr4'
    have hm4 : na4 + nb4 ≤ na3 + nb3 := hm4
    dsimp only
    refine wpS_bind (wpS_mg fun st5 ev5 => ?_)
    exact wpS_pure ⟨rfl, ev4.trans ev5, hS4, by show na4 + nb4 + (i + 1) ≤ _; omega⟩
  rintro j ⟨r, na4, nb4, o4, mg4, ac4, bc4⟩ st4 _ hj ⟨hr4, ev4, hS4, hm4⟩
  have hr4' : r = none := hr4
  subst hr4'
  obtain ⟨m4, b1, b2⟩ : StH lt a b o4 na4 nb4 := hS4
  have hm4 : na4 + nb4 + j ≤ na3 + nb3 := hm4
  obtain ⟨x, hx, hx2, hxm⟩ := arr_at (a := b) (i := nb4 - 1) (by omega)
  dsimp only
  by_cases z : mg4 > 1
  · rw [if_pos z]
    refine wpS_bind (wpS_mg fun st5 ev45 => ?_)
    have ev5 := ev4.trans ev45
    refine wpS_bind (wpS_elem hx ?_)
    refine wpS_bind (wpS_galG (arr := a) (base := 0) hc O (ev5.1.trans hk) (ub x hxm) (by omega) (by omega) (fun z hz => ua z (List.mem_of_mem_take hz)) (List.Pairwise.sublist (List.take_sublist _ _) sa) (fun z hz => ne z (List.mem_of_mem_take hz) x hxm) fun K k1 k2 k3 => ?_)
    dsimp only
    by_cases zk : na4 - K > 0
    · rw [if_pos zk]
      have m5 := runA (k := K) m4 (by omega) k1 (fun x' hx' => tail_all O sb ub (ua x' (List.mem_of_mem_take (List.mem_of_mem_drop hx'))) (by omega) hx2 (k3 x' hx'))
      have h5 : ∀ z ∈ a.toList.take K, lt z x = true := k2
      by_cases e5 : K = 0
      · rw [if_pos (by rw [e5]; rfl)]
        exact wpS_pure (.inl ⟨_, rfl, done m5 e5 ev5⟩)
      rw [if_neg (fun z => e5 (eq_of_beq z))]
      refine wpS_bind (wpS_elem hx ?_)
      have m6 := pushB m5 (by omega) (by omega) hx2 h5
      by_cases e6 : nb4 - 1 = 1
      · rw [if_pos (by rw [e6]; rfl)]
        exact wpS_pure (.inl ⟨_, rfl, last m6 e6 ev5⟩)
      rw [if_neg (fun z => e6 (eq_of_beq z))]
      obtain ⟨y, hy, hy2, hym⟩ := arr_at (a := a) (i := K - 1) (by omega)
      refine wpS_bind (wpS_elem hy ?_)
      refine wpS_bind (wpS_galG (arr := b) (base := 0) hc O (ev5.1.trans hk) (ua y hym) (by omega) (by omega) (fun z hz => ub z (List.mem_of_mem_take hz)) (List.Pairwise.sublist (List.take_sublist _ _) sb) (fun z hz => (ne y hym z (List.mem_of_mem_take hz)).symm) fun K2 q1 q2 q3 => ?_)
      have kl := firstK hym q1 (by omega) q3
      dsimp only
      by_cases zk2 : nb4 - 1 - K2 > 0
      · rw [if_pos zk2]
        have m7 := runB (k := K2) m6 (by omega) q1 (fun x' hx' => tail_all O sa ua (ub x' (List.mem_of_mem_take (List.mem_of_mem_drop hx'))) (by omega) hy2 (q3 x' hx'))
        have h7 : ∀ z ∈ b.toList.take K2, lt z y = true := q2
        by_cases e7 : K2 = 1
        · rw [if_pos (by rw [e7]; rfl)]
          exact wpS_pure (.inl ⟨_, rfl, last m7 e7 ev5⟩)
        rw [if_neg (fun z => e7 (eq_of_beq z)), if_neg (fun z => Nat.ne_of_gt kl (eq_of_beq z))]
        refine wpS_bind (wpS_elem hy ?_)
        have m8 := pushA m7 (by omega) (by omega) hy2 h7
        by_cases e8 : K - 1 = 0
        · rw [if_pos (by rw [e8]; rfl)]
          exact wpS_pure (.inl ⟨_, rfl, done m8 e8 ev5⟩)
        rw [if_neg (fun z => e8 (eq_of_beq z))]
        split
        · exact wpS_pure (.inr ⟨rfl, ev5, ⟨m8, by show 1 ≤ K - 1 ∧ K - 1 ≤ a.size; omega, by show 2 ≤ K2 ∧ K2 ≤ b.size; omega⟩, by show (K - 1) + K2 ≤ _; omega⟩)
        · exact wpS_pure ⟨rfl, ev5, ⟨m8, by show 1 ≤ K - 1 ∧ K - 1 ≤ a.size; omega, by show 2 ≤ K2 ∧ K2 ≤ b.size; omega⟩, by show (K - 1) + K2 + (j + 1) ≤ _; omega⟩
      · rw [if_neg zk2]
        have m7 := m6
        have h7 : ∀ z ∈ b.toList.take (nb4 - 1), lt z y = true := by
          have h7' : ∀ z ∈ b.toList.take K2, lt z y = true := q2
          rw [show K2 = nb4 - 1 by omega] at h7'
          exact h7'
        refine wpS_bind (wpS_elem hy ?_)
        have m8 := pushA m7 (by omega) (by omega) hy2 h7
        by_cases e8 : K - 1 = 0
        · rw [if_pos (by rw [e8]; rfl)]
          exact wpS_pure (.inl ⟨_, rfl, done m8 e8 ev5⟩)
        rw [if_neg (fun z => e8 (eq_of_beq z))]
        split
        · exact wpS_pure (.inr ⟨rfl, ev5, ⟨m8, by show 1 ≤ K - 1 ∧ K - 1 ≤ a.size; omega, by show 2 ≤ (nb4 - 1) ∧ (nb4 - 1) ≤ b.size; omega⟩, by show (K - 1) + (nb4 - 1) ≤ _; omega⟩)
        · exact wpS_pure ⟨rfl, ev5, ⟨m8, by show 1 ≤ K - 1 ∧ K - 1 ≤ a.size; omega, by show 2 ≤ (nb4 - 1) ∧ (nb4 - 1) ≤ b.size; omega⟩, by show (K - 1) + (nb4 - 1) + (j + 1) ≤ _; omega⟩
    · rw [if_neg zk]
      have m5 := m4
      have h5 : ∀ z ∈ a.toList.take na4, lt z x = true := by
        have h5' : ∀ z ∈ a.toList.take K, lt z x = true := k2
        rw [show K = na4 by omega] at h5'
        exact h5'
      refine wpS_bind (wpS_elem hx ?_)
      have m6 := pushB m5 (by omega) (by omega) hx2 h5
      by_cases e6 : nb4 - 1 = 1
      · rw [if_pos (by rw [e6]; rfl)]
        exact wpS_pure (.inl ⟨_, rfl, last m6 e6 ev5⟩)
      rw [if_neg (fun z => e6 (eq_of_beq z))]
      obtain ⟨y, hy, hy2, hym⟩ := arr_at (a := a) (i := na4 - 1) (by omega)
      refine wpS_bind (wpS_elem hy ?_)
      refine wpS_bind (wpS_galG (arr := b) (base := 0) hc O (ev5.1.trans hk) (ua y hym) (by omega) (by omega) (fun z hz => ub z (List.mem_of_mem_take hz)) (List.Pairwise.sublist (List.take_sublist _ _) sb) (fun z hz => (ne y hym z (List.mem_of_mem_take hz)).symm) fun K2 q1 q2 q3 => ?_)
      have kl := firstK hym q1 (by omega) q3
      dsimp only
      by_cases zk2 : nb4 - 1 - K2 > 0
      · rw [if_pos zk2]
        have m7 := runB (k := K2) m6 (by omega) q1 (fun x' hx' => tail_all O sa ua (ub x' (List.mem_of_mem_take (List.mem_of_mem_drop hx'))) (by omega) hy2 (q3 x' hx'))
        have h7 : ∀ z ∈ b.toList.take K2, lt z y = true := q2
        by_cases e7 : K2 = 1
        · rw [if_pos (by rw [e7]; rfl)]
          exact wpS_pure (.inl ⟨_, rfl, last m7 e7 ev5⟩)
        rw [if_neg (fun z => e7 (eq_of_beq z)), if_neg (fun z => Nat.ne_of_gt kl (eq_of_beq z))]
        refine wpS_bind (wpS_elem hy ?_)
        have m8 := pushA m7 (by omega) (by omega) hy2 h7
        by_cases e8 : na4 - 1 = 0
        · rw [if_pos (by rw [e8]; rfl)]
          exact wpS_pure (.inl ⟨_, rfl, done m8 e8 ev5⟩)
        rw [if_neg (fun z => e8 (eq_of_beq z))]
        split
        · exact wpS_pure (.inr ⟨rfl, ev5, ⟨m8, by show 1 ≤ na4 - 1 ∧ na4 - 1 ≤ a.size; omega, by show 2 ≤ K2 ∧ K2 ≤ b.size; omega⟩, by show (na4 - 1) + K2 ≤ _; omega⟩)
        · exact wpS_pure ⟨rfl, ev5, ⟨m8, by show 1 ≤ na4 - 1 ∧ na4 - 1 ≤ a.size; omega, by show 2 ≤ K2 ∧ K2 ≤ b.size; omega⟩, by show (na4 - 1) + K2 + (j + 1) ≤ _; omega⟩
      · rw [if_neg zk2]
        have m7 := m6
        have h7 : ∀ z ∈ b.toList.take (nb4 - 1), lt z y = true := by
          have h7' : ∀ z ∈ b.toList.take K2, lt z y = true := q2
          rw [show K2 = nb4 - 1 by omega] at h7'
          exact h7'
        refine wpS_bind (wpS_elem hy ?_)
        have m8 := pushA m7 (by omega) (by omega) hy2 h7
        by_cases e8 : na4 - 1 = 0
        · rw [if_pos (by rw [e8]; rfl)]
          exact wpS_pure (.inl ⟨_, rfl, done m8 e8 ev5⟩)
        rw [if_neg (fun z => e8 (eq_of_beq z))]
        split
        · exact wpS_pure (.inr ⟨rfl, ev5, ⟨m8, by show 1 ≤ na4 - 1 ∧ na4 - 1 ≤ a.size; omega, by show 2 ≤ (nb4 - 1) ∧ (nb4 - 1) ≤ b.size; omega⟩, by show (na4 - 1) + (nb4 - 1) ≤ _; omega⟩)
        · exact wpS_pure ⟨rfl, ev5, ⟨m8, by show 1 ≤ na4 - 1 ∧ na4 - 1 ≤ a.size; omega, by show 2 ≤ (nb4 - 1) ∧ (nb4 - 1) ≤ b.size; omega⟩, by show (na4 - 1) + (nb4 - 1) + (j + 1) ≤ _; omega⟩
  · rw [if_neg z]
    refine wpS_bind (wpS_mg fun st5 ev45 => ?_)
    have ev5 := ev4.trans ev45
    refine wpS_bind (wpS_elem hx ?_)
    refine wpS_bind (wpS_galG (arr := a) (base := 0) hc O (ev5.1.trans hk) (ub x hxm) (by omega) (by omega) (fun z hz => ua z (List.mem_of_mem_take hz)) (List.Pairwise.sublist (List.take_sublist _ _) sa) (fun z hz => ne z (List.mem_of_mem_take hz) x hxm) fun K k1 k2 k3 => ?_)
    dsimp only
    by_cases zk : na4 - K > 0
    · rw [if_pos zk]
      have m5 := runA (k := K) m4 (by omega) k1 (fun x' hx' => tail_all O sb ub (ua x' (List.mem_of_mem_take (List.mem_of_mem_drop hx'))) (by omega) hx2 (k3 x' hx'))
      have h5 : ∀ z ∈ a.toList.take K, lt z x = true := k2
      by_cases e5 : K = 0
      · rw [if_pos (by rw [e5]; rfl)]
        exact wpS_pure (.inl ⟨_, rfl, done m5 e5 ev5⟩)
      rw [if_neg (fun z => e5 (eq_of_beq z))]
      refine wpS_bind (wpS_elem hx ?_)
      have m6 := pushB m5 (by omega) (by omega) hx2 h5
      by_cases e6 : nb4 - 1 = 1
      · rw [if_pos (by rw [e6]; rfl)]
        exact wpS_pure (.inl ⟨_, rfl, last m6 e6 ev5⟩)
      rw [if_neg (fun z => e6 (eq_of_beq z))]
      obtain ⟨y, hy, hy2, hym⟩ := arr_at (a := a) (i := K - 1) (by omega)
      refine wpS_bind (wpS_elem hy ?_)
      refine wpS_bind (wpS_galG (arr := b) (base := 0) hc O (ev5.1.trans hk) (ua y hym) (by omega) (by omega) (fun z hz => ub z (List.mem_of_mem_take hz)) (List.Pairwise.sublist (List.take_sublist _ _) sb) (fun z hz => (ne y hym z (List.mem_of_mem_take hz)).symm) fun K2 q1 q2 q3 => ?_)
      have kl := firstK hym q1 (by omega) q3
      dsimp only
      by_cases zk2 : nb4 - 1 - K2 > 0
      · rw [if_pos zk2]
        have m7 := runB (k := K2) m6 (by omega) q1 (fun x' hx' => tail_all O sa ua (ub x' (List.mem_of_mem_take (List.mem_of_mem_drop hx'))) (by omega) hy2 (q3 x' hx'))
        have h7 : ∀ z ∈ b.toList.take K2, lt z y = true := q2
        by_cases e7 : K2 = 1
        · rw [if_pos (by rw [e7]; rfl)]
          exact wpS_pure (.inl ⟨_, rfl, last m7 e7 ev5⟩)
        rw [if_neg (fun z => e7 (eq_of_beq z)), if_neg (fun z => Nat.ne_of_gt kl (eq_of_beq z))]
        refine wpS_bind (wpS_elem hy ?_)
        have m8 := pushA m7 (by omega) (by omega) hy2 h7
        by_cases e8 : K - 1 = 0
        · rw [if_pos (by rw [e8]; rfl)]
          exact wpS_pure (.inl ⟨_, rfl, done m8 e8 ev5⟩)
        rw [if_neg (fun z => e8 (eq_of_beq z))]
        split
        · exact wpS_pure (.inr ⟨rfl, ev5, ⟨m8, by show 1 ≤ K - 1 ∧ K - 1 ≤ a.size; omega, by show 2 ≤ K2 ∧ K2 ≤ b.size; omega⟩, by show (K - 1) + K2 ≤ _; omega⟩)
        · exact wpS_pure ⟨rfl, ev5, ⟨m8, by show 1 ≤ K - 1 ∧ K - 1 ≤ a.size; omega, by show 2 ≤ K2 ∧ K2 ≤ b.size; omega⟩, by show (K - 1) + K2 + (j + 1) ≤ _; omega⟩
      · rw [if_neg zk2]
        have m7 := m6
        have h7 : ∀ z ∈ b.toList.take (nb4 - 1), lt z y = true := by
          have h7' : ∀ z ∈ b.toList.take K2, lt z y = true := q2
          rw [show K2 = nb4 - 1 by omega] at h7'
          exact h7'
        refine wpS_bind (wpS_elem hy ?_)
        have m8 := pushA m7 (by omega) (by omega) hy2 h7
        by_cases e8 : K - 1 = 0
        · rw [if_pos (by rw [e8]; rfl)]
          exact wpS_pure (.inl ⟨_, rfl, done m8 e8 ev5⟩)
        rw [if_neg (fun z => e8 (eq_of_beq z))]
        split
        · exact wpS_pure (.inr ⟨rfl, ev5, ⟨m8, by show 1 ≤ K - 1 ∧ K - 1 ≤ a.size; omega, by show 2 ≤ (nb4 - 1) ∧ (nb4 - 1) ≤ b.size; omega⟩, by show (K - 1) + (nb4 - 1) ≤ _; omega⟩)
        · exact wpS_pure ⟨rfl, ev5, ⟨m8, by show 1 ≤ K - 1 ∧ K - 1 ≤ a.size; omega, by show 2 ≤ (nb4 - 1) ∧ (nb4 - 1) ≤ b.size; omega⟩, by show (K - 1) + (nb4 - 1) + (j + 1) ≤ _; omega⟩
    · rw [if_neg zk]
      have m5 := m4
      have h5 : ∀ z ∈ a.toList.take na4, lt z x = true := by
        have h5' : ∀ z ∈ a.toList.take K, lt z x = true := k2
        rw [show K = na4 by omega] at h5'
        exact h5'
      refine wpS_bind (wpS_elem hx ?_)
      have m6 := pushB m5 (by omega) (by omega) hx2 h5
      by_cases e6 : nb4 - 1 = 1
      · rw [if_pos (by rw [e6]; rfl)]
        exact wpS_pure (.inl ⟨_, rfl, last m6 e6 ev5⟩)
      rw [if_neg (fun z => e6 (eq_of_beq z))]
      obtain ⟨y, hy, hy2, hym⟩ := arr_at (a := a) (i := na4 - 1) (by omega)
      refine wpS_bind (wpS_elem hy ?_)
      refine wpS_bind (wpS_galG (arr := b) (base := 0) hc O (ev5.1.trans hk) (ua y hym) (by omega) (by omega) (fun z hz => ub z (List.mem_of_mem_take hz)) (List.Pairwise.sublist (List.take_sublist _ _) sb) (fun z hz => (ne y hym z (List.mem_of_mem_take hz)).symm) fun K2 q1 q2 q3 => ?_)
      have kl := firstK hym q1 (by omega) q3
      dsimp only
      by_cases zk2 : nb4 - 1 - K2 > 0
      · rw [if_pos zk2]
        have m7 := runB (k := K2) m6 (by omega) q1 (fun x' hx' => tail_all O sa ua (ub x' (List.mem_of_mem_take (List.mem_of_mem_drop hx'))) (by omega) hy2 (q3 x' hx'))
        have h7 : ∀ z ∈ b.toList.take K2, lt z y = true := q2
        by_cases e7 : K2 = 1
        · rw [if_pos (by rw [e7]; rfl)]
          exact wpS_pure (.inl ⟨_, rfl, last m7 e7 ev5⟩)
        rw [if_neg (fun z => e7 (eq_of_beq z)), if_neg (fun z => Nat.ne_of_gt kl (eq_of_beq z))]
        refine wpS_bind (wpS_elem hy ?_)
        have m8 := pushA m7 (by omega) (by omega) hy2 h7
        by_cases e8 : na4 - 1 = 0
        · rw [if_pos (by rw [e8]; rfl)]
          exact wpS_pure (.inl ⟨_, rfl, done m8 e8 ev5⟩)
        rw [if_neg (fun z => e8 (eq_of_beq z))]
        split
        · exact wpS_pure (.inr ⟨rfl, ev5, ⟨m8, by show 1 ≤ na4 - 1 ∧ na4 - 1 ≤ a.size; omega, by show 2 ≤ K2 ∧ K2 ≤ b.size; omega⟩, by show (na4 - 1) + K2 ≤ _; omega⟩)
        · exact wpS_pure ⟨rfl, ev5, ⟨m8, by show 1 ≤ na4 - 1 ∧ na4 - 1 ≤ a.size; omega, by show 2 ≤ K2 ∧ K2 ≤ b.size; omega⟩, by show (na4 - 1) + K2 + (j + 1) ≤ _; omega⟩
      · rw [if_neg zk2]
        have m7 := m6
        have h7 : ∀ z ∈ b.toList.take (nb4 - 1), lt z y = true := by
          have h7' : ∀ z ∈ b.toList.take K2, lt z y = true := q2
          rw [show K2 = nb4 - 1 by omega] at h7'
          exact h7'
        refine wpS_bind (wpS_elem hy ?_)
        have m8 := pushA m7 (by omega) (by omega) hy2 h7
        by_cases e8 : na4 - 1 = 0
        · rw [if_pos (by rw [e8]; rfl)]
          exact wpS_pure (.inl ⟨_, rfl, done m8 e8 ev5⟩)
        rw [if_neg (fun z => e8 (eq_of_beq z))]
        split
        · exact wpS_pure (.inr ⟨rfl, ev5, ⟨m8, by show 1 ≤ na4 - 1 ∧ na4 - 1 ≤ a.size; omega, by show 2 ≤ (nb4 - 1) ∧ (nb4 - 1) ≤ b.size; omega⟩, by show (na4 - 1) + (nb4 - 1) ≤ _; omega⟩)
        · exact wpS_pure ⟨rfl, ev5, ⟨m8, by show 1 ≤ na4 - 1 ∧ na4 - 1 ≤ a.size; omega, by show 2 ≤ (nb4 - 1) ∧ (nb4 - 1) ≤ b.size; omega⟩, by show (na4 - 1) + (nb4 - 1) + (j + 1) ≤ _; omega⟩
end
end L2
namespace L2
open PySem PySem.W PyProof.Rows
def gK (arr : Array Keyed) (i : Nat) : Keyed := arr.getD i (Value.none, Value.none)
structure ArrU (U : Keyed → Prop) (arr : Array Keyed) : Prop where
  u : ∀ x ∈ arr.toList, U x
  nd : arr.toList.Nodup
section
variable {prog : Program} {w : World} {A : Around} {E : Value → Shared → Prop} {s : Shared} {κ : SortKind} {U : Keyed → Prop} {lt : Keyed → Keyed → Bool}
theorem gK_at {arr : Array Keyed} {i : Nat} (h : i < arr.size) : arr[i]? = some (gK arr i) := by
  unfold gK
  rw [Array.getD_eq_getD_getElem?, Array.getElem?_eq_getElem h]
  rfl
theorem gK_of {arr : Array Keyed} {i : Nat} {x : Keyed} (h : arr[i]? = some x) : gK arr i = x := by
  unfold gK
  rw [Array.getD_eq_getD_getElem?, h]
  rfl
theorem ArrU.at {arr : Array Keyed} (h : ArrU U arr) {i : Nat} (hi : i < arr.size) : U (gK arr i) := h.u _ (Array.mem_toList_iff.mpr (Array.mem_of_getElem? (gK_at hi)))
theorem ArrU.ne {arr : Array Keyed} (h : ArrU U arr) {i j : Nat} (hi : i < arr.size) (hj : j < arr.size) (e : i ≠ j) : gK arr i ≠ gK arr j := fun z => by
  have a1 := gK_at hi
  have a2 := gK_at hj
  rw [z] at a1
  rw [← Array.getElem?_toList] at a1 a2
  have hi' : i < arr.toList.length := by rw [Array.length_toList]; exact hi
  have hj' : j < arr.toList.length := by rw [Array.length_toList]; exact hj
  rw [List.getElem?_eq_getElem hi'] at a1
  rw [List.getElem?_eq_getElem hj'] at a2
  rcases Nat.lt_or_gt_of_ne e with h' | h'
  · exact (List.pairwise_iff_getElem.mp h.nd i j hi' hj' h') ((Option.some.inj a1).trans (Option.some.inj a2).symm)
  · exact (List.pairwise_iff_getElem.mp h.nd j i hj' hi' h') ((Option.some.inj a2).trans (Option.some.inj a1).symm)
theorem ArrU.perm {arr arr' : Array Keyed} (h : ArrU U arr) (p : arr'.Perm arr) : ArrU U arr' :=
  have p' := Array.perm_iff_toList_perm.mp p
  ⟨fun x hx => h.u x (p'.mem_iff.mp hx), p'.nodup_iff.mpr h.nd⟩
structure Keeps (lo : Nat) (st st' : SortSt) : Prop where
  kind : kindOf st' = kindOf st
  pend : pendingOf st' = pendingOf st
  fail : failedOf st' = failedOf st
  perm : (arrOf st').Perm (arrOf st)
  low : ∀ k, k < lo → gK (arrOf st') k = gK (arrOf st) k
theorem Keeps.refl (lo : Nat) (st : SortSt) : Keeps lo st st := ⟨rfl, rfl, rfl, Array.Perm.refl _, fun _ _ => rfl⟩
theorem Keeps.trans {lo : Nat} {a b c : SortSt} (h : Keeps lo a b) (k : Keeps lo b c) : Keeps lo a c := ⟨k.kind.trans h.kind, k.pend.trans h.pend, k.fail.trans h.fail, k.perm.trans h.perm, fun i hi => (k.low i hi).trans (h.low i hi)⟩
theorem Keeps.size {lo : Nat} {a b : SortSt} (h : Keeps lo a b) : (arrOf b).size = (arrOf a).size := h.perm.size_eq
def UpI (lt : Keyed → Keyed → Bool) (arr : Array Keyed) (lo m : Nat) : Prop := ∀ i j, lo ≤ i → i < j → j < lo + m → lt (gK arr i) (gK arr j) = true
def DownI (lt : Keyed → Keyed → Bool) (arr : Array Keyed) (lo m : Nat) : Prop := ∀ i j, lo ≤ i → i < j → j < lo + m → lt (gK arr j) (gK arr i) = true
theorem upI_ext (O : OrdU U lt) {arr : Array Keyed} (P : ArrU U arr) {lo m : Nat} (hm : lo + m < arr.size) (h1 : 1 ≤ m) (h : UpI lt arr lo m) (e : lt (gK arr (lo + m - 1)) (gK arr (lo + m)) = true) : UpI lt arr lo (m + 1) := fun i j hlo hij hj => by
  by_cases ej : j = lo + m
  · subst ej
    by_cases ei : i = lo + m - 1
    · rw [ei]; exact e
    · exact O.tr _ _ _ (P.at (by omega)) (P.at (by omega)) (P.at hm) (h i (lo + m - 1) hlo (by omega) (by omega)) e
  · exact h i j hlo hij (by omega)
theorem downI_ext (O : OrdU U lt) {arr : Array Keyed} (P : ArrU U arr) {lo m : Nat} (hm : lo + m < arr.size) (h1 : 1 ≤ m) (h : DownI lt arr lo m) (e : lt (gK arr (lo + m)) (gK arr (lo + m - 1)) = true) : DownI lt arr lo (m + 1) := fun i j hlo hij hj => by
  by_cases ej : j = lo + m
  · subst ej
    by_cases ei : i = lo + m - 1
    · rw [ei]; exact e
    · exact O.tr _ _ _ (P.at hm) (P.at (by omega)) (P.at (by omega)) e (h i (lo + m - 1) hlo (by omega) (by omega))
  · exact h i j hlo hij (by omega)
theorem wpS_ltAtU (hc : CmpU prog w A s κ U lt) {st : SortSt} (hk : kindOf st = κ) (hA : ArrU U (arrOf st)) {i j : Nat} (hi : i < (arrOf st).size) (hj : j < (arrOf st).size) {Q : Option Bool → SortSt → Prop} (h : Q (some (lt (gK (arrOf st) i) (gK (arrOf st) j))) st) : wpS (model prog w) A E s (ltAt' i j) Q st := by
  rw [ltAt'_eq]
  refine wpS_bind (wpS_get ?_)
  exact wpS_bind (wpS_elem (gK_at hi) (wpS_bind (wpS_elem (gK_at hj) (wpS_ltU hc hk (hA.at hi) (hA.at hj) h))))
theorem wpS_ascU (O : OrdU U lt) {st : SortSt} (hA : ArrU U (arrOf st)) {lo nrem a : Nat} (hn : lo + nrem ≤ (arrOf st).size) (ha : 1 ≤ a) (han : a ≤ nrem) (hu : UpI lt (arrOf st) lo a) {β : Type} {f : Nat → Option β × Nat → StateT SortSt Sem (ForInStep (Option β × Nat))}
    (hf : ∀ i n R, 1 ≤ n → n < nrem → (lt (gK (arrOf st) (lo + n)) (gK (arrOf st) (lo + n - 1)) = true → R (.done (none, n)) st) → (lt (gK (arrOf st) (lo + n)) (gK (arrOf st) (lo + n - 1)) = false → R (.yield (none, n + 1)) st) → wpS (model prog w) A E s (f i (none, n)) R st) :
    wpS (model prog w) A E s (forIn [a:nrem] (none, a) f) (fun c st' => st' = st ∧ ∃ n, c = (none, n) ∧ a ≤ n ∧ n ≤ nrem ∧ UpI lt (arrOf st) lo n ∧ (n < nrem → lt (gK (arrOf st) (lo + n)) (gK (arrOf st) (lo + n - 1)) = true)) st := by
  refine wpS_forRange (I := fun i c st' => st' = st ∧ c = (none, i) ∧ UpI lt (arrOf st) lo i) ?_ ?_ ⟨rfl, rfl, hu⟩
  · rintro i c st' h1 h2 ⟨rfl, rfl, g⟩
    refine hf i i _ (by omega) h2 (fun z => ⟨rfl, i, rfl, h1, Nat.le_of_lt h2, g, fun _ => z⟩) fun z => ⟨rfl, rfl, ?_⟩
    exact upI_ext O hA (by omega) (by omega) g (O.tot _ _ (hA.at (by omega)) (hA.at (by omega)) (hA.ne (by omega) (by omega) (by omega)) z)
  · rintro c st' ⟨rfl, rfl, g⟩
    rw [show max a nrem = nrem by omega] at g ⊢
    exact ⟨rfl, nrem, rfl, han, Nat.le_refl _, g, fun z => absurd z (Nat.lt_irrefl _)⟩
theorem rev_gK {arr : Array Keyed} {lo m i : Nat} (hm : lo + m ≤ arr.size) : gK (mirror arr lo (lo + m) ((lo + m - lo) / 2)) i = if lo ≤ i ∧ i < lo + m then gK arr (lo + (lo + m) - 1 - i) else gK arr i := by
  unfold gK
  rw [Array.getD_eq_getD_getElem?, getElem?_mirror_all hm]
  split
  · rw [Array.getD_eq_getD_getElem?]
  · rw [Array.getD_eq_getD_getElem?]
theorem wpS_countRunU (hc : CmpU prog w A s κ U lt) (O : OrdU U lt) {st : SortSt} (hk : kindOf st = κ) (hA : ArrU U (arrOf st)) {lo nrem : Nat} (hn : lo + nrem ≤ (arrOf st).size) (h1 : 1 ≤ nrem) {Q : Option Nat → SortSt → Prop}
    (h : ∀ m st', 1 ≤ m → m ≤ nrem → Keeps lo st st' → UpI lt (arrOf st') lo m → Q (some m) st') : wpS (model prog w) A E s (countRun' lo nrem) Q st := by
  refine wpS_bind (wpS_mono (wpS_ascU O hA hn (Nat.le_refl 1) h1 (fun i j _ _ _ => by omega) fun i n R n1 n2 r1 r2 => ?_) fun c st' hcc => ?_)
  · dsimp only
    refine wpS_bind (wpS_ltAtU hc hk hA (by omega) (by omega) ?_)
    dsimp only
    cases c : lt (gK (arrOf st) (lo + n)) (gK (arrOf st) (lo + n - 1)) with
    | true => rw [if_pos rfl]; exact wpS_pure (r1 c)
    | false => rw [if_neg (by decide)]; exact wpS_pure (r2 c)
  obtain ⟨rfl, n, rfl, g1, g2, g3, g4⟩ := hcc
  dsimp only
  by_cases e : n = nrem
  · rw [if_pos (by rw [e]; exact beq_self_eq_true _)]
    exact wpS_pure (h n _ g1 g2 (Keeps.refl _ _) g3)
  rw [if_neg (fun z => e (eq_of_beq z))]
  by_cases e1 : n > 1
  · rw [if_pos e1]
    refine wpS_bind (wpS_ltAtU hc hk hA (by omega) (by omega) ?_)
    rw [g3 lo (lo + n - 1) (Nat.le_refl _) (by omega) (by omega)]
    dsimp only
    rw [if_pos rfl]
    exact wpS_pure (h n _ g1 g2 (Keeps.refl _ _) g3)
  rw [if_neg e1]
  have en : n = 1 := by omega
  subst en
  refine wpS_bind (wpS_lift (wpAny_rule ⟨rfl, ?_⟩))
  have hd : DownI lt (arrOf st') lo (1 + 1) := downI_ext O hA (by omega) (Nat.le_refl _) (fun i j _ _ _ => by omega) (g4 (by omega))
  refine wpS_bind (wpS_mono (wpS_forRange (I := fun i c st2 => st2 = st' ∧ c = (none, i, 0) ∧ DownI lt (arrOf st') lo i) (Q := fun c st2 => st2 = st' ∧ ∃ n, c = (none, n, 0) ∧ 2 ≤ n ∧ n ≤ nrem ∧ DownI lt (arrOf st') lo n) ?_ ?_ ⟨rfl, rfl, hd⟩) ?_)
  · rintro i c st2 i1 i2 ⟨rfl, rfl, g⟩
    dsimp only
    refine wpS_bind (wpS_ltAtU hc hk hA (by omega) (by omega) ?_)
    dsimp only
    cases c : lt (gK (arrOf st2) (lo + i)) (gK (arrOf st2) (lo + i - 1)) with
    | true =>
      rw [if_pos rfl, if_neg (by omega)]
      exact wpS_pure ⟨rfl, rfl, downI_ext O hA (by omega) (by omega) g c⟩
    | false =>
      rw [if_neg (by decide)]
      refine wpS_bind (wpS_ltAtU hc hk hA (by omega) (by omega) ?_)
      rw [O.tot _ _ (hA.at (by omega)) (hA.at (by omega)) (hA.ne (by omega) (by omega) (by omega)) c]
      dsimp only
      rw [if_pos rfl]
      exact wpS_pure ⟨rfl, i, rfl, i1, Nat.le_of_lt i2, g⟩
  · rintro c st2 ⟨rfl, rfl, g⟩
    rw [show max (1 + 1) nrem = nrem by omega] at g ⊢
    exact ⟨rfl, nrem, rfl, by omega, Nat.le_refl _, g⟩
  rintro c st2 ⟨rfl, n, rfl, n1, n2, g⟩
  dsimp only
  rw [if_neg (by omega)]
  refine wpS_bind (wpS_reverse ?_)
  have kp : Keeps lo st2 (setArr st2 (mirror (arrOf st2) lo (lo + n) ((lo + n - lo) / 2))) := ⟨rfl, rfl, rfl, mirror_perm _ _ _ _, fun k hkl => by
    show gK (mirror (arrOf st2) lo (lo + n) ((lo + n - lo) / 2)) k = _
    rw [rev_gK (by omega), if_neg (by omega)]⟩
  have hu : UpI lt (arrOf (setArr st2 (mirror (arrOf st2) lo (lo + n) ((lo + n - lo) / 2)))) lo n := fun i j i1 i2 i3 => by
    show lt (gK (mirror (arrOf st2) lo (lo + n) ((lo + n - lo) / 2)) i) (gK (mirror (arrOf st2) lo (lo + n) ((lo + n - lo) / 2)) j) = true
    rw [rev_gK (by omega), rev_gK (by omega), if_pos ⟨i1, by omega⟩, if_pos ⟨by omega, i3⟩]
    exact g _ _ (by omega) (by omega) (by omega)
  generalize setArr st2 (mirror (arrOf st2) lo (lo + n) ((lo + n - lo) / 2)) = st3 at kp hu ⊢
  have hA3 := hA.perm kp.perm
  have hs3 := kp.size
  have hk3 := kp.kind.trans hk
  refine wpS_bind (wpS_mono (wpS_ascU O hA3 (by omega) (by omega) n2 hu fun i m R m1 m2 r1 r2 => ?_) fun c st' hcc => ?_)
  · dsimp only
    refine wpS_bind (wpS_ltAtU hc hk3 hA3 (by omega) (by omega) ?_)
    dsimp only
    cases c : lt (gK (arrOf st3) (lo + m)) (gK (arrOf st3) (lo + m - 1)) with
    | true => rw [if_pos rfl]; exact wpS_pure (r1 c)
    | false => rw [if_neg (by decide)]; exact wpS_pure (r2 c)
  obtain ⟨rfl, m, rfl, m1, m2, m3, m4⟩ := hcc
  exact wpS_pure (h m _ (by omega) m2 kp m3)
theorem bubble_gK {arr : Array Keyed} {lo k l i : Nat} (hk : lo + k < arr.size) (hl : l ≤ k) : gK (bubble arr (lo + k) (lo + k - (lo + l))) i = if i = lo + l then gK arr (lo + k) else if lo + l < i ∧ i ≤ lo + k then gK arr (i - 1) else gK arr i := by
  unfold gK
  simp only [Array.getD_eq_getD_getElem?]
  rw [getElem?_bubble hk (lo + k - (lo + l)) (by omega), show lo + k - (lo + k - (lo + l)) = lo + l by omega]
  split
  · rfl
  · split
    · rfl
    · rfl
theorem wpS_binarySortU (hc : CmpU prog w A s κ U lt) (O : OrdU U lt) {st : SortSt} (hk : kindOf st = κ) (hA : ArrU U (arrOf st)) {lo n ok : Nat} (hn : lo + n ≤ (arrOf st).size) (hok : 1 ≤ ok) (hon : ok ≤ n) (hu : UpI lt (arrOf st) lo ok) {Q : Bool → SortSt → Prop}
    (h : ∀ st', Keeps lo st st' → UpI lt (arrOf st') lo n → Q true st') : wpS (model prog w) A E s (binarySort' lo n ok) Q st := by
  rw [binarySort'_eq]
  refine wpS_bind (wpS_mono (wpS_forRange (I := fun k c st' => c = (none, ()) ∧ Keeps lo st st' ∧ UpI lt (arrOf st') lo k) (Q := fun c st' => c = (none, ()) ∧ Keeps lo st st' ∧ UpI lt (arrOf st') lo n) ?step ?fin ?init) ?post)
  case post =>
    rintro c st' ⟨rfl, kp, hs'⟩
    exact wpS_pure (h st' kp hs')
  case init =>
    rw [show max ok 1 = ok by omega]
    exact ⟨rfl, Keeps.refl _ _, hu⟩
  case fin =>
    rintro c st' ⟨hc, kp, hs'⟩
    rw [show max (max ok 1) n = n by omega] at hs'
    exact ⟨hc, kp, hs'⟩
  case step =>
    rintro k c st' hak hkn ⟨rfl, kp, hs'⟩
    have hA' := hA.perm kp.perm
    have hsz := kp.size
    have hk' := kp.kind.trans hk
    have hkk : lo + k < (arrOf st').size := by omega
    refine wpS_bind (wpS_mono (wpS_forRange (I := fun x c st'' => st'' = st' ∧ ∃ l r, c = (none, l, r) ∧ l ≤ r ∧ r ≤ k ∧ r - l ≤ k - x ∧
        (∀ i, lo ≤ i → i < lo + l → lt (gK (arrOf st') i) (gK (arrOf st') (lo + k)) = true) ∧ (∀ i, lo + r ≤ i → i < lo + k → lt (gK (arrOf st') (lo + k)) (gK (arrOf st') i) = true))
      (Q := fun c st'' => st'' = st' ∧ ∃ l r, c = (none, l, r) ∧ l ≤ k ∧
        (∀ i, lo ≤ i → i < lo + l → lt (gK (arrOf st') i) (gK (arrOf st') (lo + k)) = true) ∧ (∀ i, lo + l ≤ i → i < lo + k → lt (gK (arrOf st') (lo + k)) (gK (arrOf st') i) = true)) ?istep ?ifin ?iinit) ?ipost)
    case iinit => exact ⟨rfl, 0, k, rfl, by omega, by omega, by omega, fun i h1 h2 => by omega, fun i h1 h2 => by omega⟩
    case ifin =>
      rintro c st'' ⟨rfl, l, r, rfl, hlr, hrk, hm, hlo, hhi⟩
      have : l = r := by omega
      subst this
      exact ⟨rfl, l, l, rfl, hrk, hlo, hhi⟩
    case istep =>
      rintro x c st'' _ hxk ⟨rfl, l, r, rfl, hlr, hrk, hm, hlo, hhi⟩
      dsimp only
      by_cases hge : l ≥ r
      · rw [if_pos hge]
        have : l = r := by omega
        subst this
        exact wpS_pure ⟨rfl, l, l, rfl, hrk, hlo, hhi⟩
      · rw [if_neg hge]
        have q1 : l ≤ (l + r) / 2 := by omega
        have q2 : (l + r) / 2 < r := by omega
        refine wpS_bind (wpS_ltAtU hc hk' hA' hkk (by omega) ?_)
        dsimp only
        cases c : lt (gK (arrOf st'') (lo + k)) (gK (arrOf st'') (lo + (l + r) / 2)) with
        | true =>
          rw [if_pos rfl]
          refine wpS_pure ⟨rfl, l, (l + r) / 2, rfl, q1, by omega, by omega, hlo, fun i h1 h2 => ?_⟩
          by_cases ei : i = lo + (l + r) / 2
          · rw [ei]; exact c
          · exact O.tr _ _ _ (hA'.at hkk) (hA'.at (by omega)) (hA'.at (by omega)) c (hs' _ _ (by omega) (by omega) (by omega))
        | false =>
          rw [if_neg (by decide)]
          have c2 := O.tot _ _ (hA'.at hkk) (hA'.at (by omega)) (hA'.ne hkk (by omega) (by omega)) c
          refine wpS_pure ⟨rfl, (l + r) / 2 + 1, r, rfl, by omega, hrk, by omega, fun i h1 h2 => ?_, hhi⟩
          by_cases ei : i = lo + (l + r) / 2
          · rw [ei]; exact c2
          · exact O.tr _ _ _ (hA'.at (by omega)) (hA'.at (by omega)) (hA'.at hkk) (hs' _ _ h1 (by omega) (by omega)) c2
    case ipost =>
      rintro c st'' ⟨rfl, l, r, rfl, hlk, hlo, hhi⟩
      show wpS _ _ _ _ (do moveDown' (lo + k) (lo + l); pure (ForInStep.yield (none, ()))) _ _
      rw [moveDown'_eq]
      refine wpS_bind (wpS_modify (wpS_pure ⟨rfl, kp.trans ⟨rfl, rfl, rfl, bubble_perm _ _ _, fun i hi => ?_⟩, fun i j i1 i2 i3 => ?_⟩))
      · show gK (bubble (arrOf st'') (lo + k) (lo + k - (lo + l))) i = _
        rw [bubble_gK hkk hlk, if_neg (by omega), if_neg (by omega)]
      · show lt (gK (bubble (arrOf st'') (lo + k) (lo + k - (lo + l))) i) (gK (bubble (arrOf st'') (lo + k) (lo + k - (lo + l))) j) = true
        rw [bubble_gK hkk hlk, bubble_gK hkk hlk]
        by_cases ei : i = lo + l
        · rw [if_pos ei, if_neg (by omega), if_pos (by omega)]
          exact hhi (j - 1) (by omega) (by omega)
        · rw [if_neg ei]
          by_cases ej : j = lo + l
          · rw [if_pos ej, if_neg (by omega)]
            exact hlo i i1 (by omega)
          · rw [if_neg ej]
            by_cases e2 : lo + l < i
            · rw [if_pos (by omega), if_pos (by omega)]
              exact hs' (i - 1) (j - 1) (by omega) (by omega) (by omega)
            · rw [if_neg (by omega)]
              by_cases e3 : lo + l < j
              · rw [if_pos (by omega)]
                exact hs' i (j - 1) i1 (by omega) (by omega)
              · rw [if_neg (by omega)]
                exact hs' i j i1 i2 (by omega)
end
end L2
namespace L2
open PySem PySem.W PyProof.Rows
section
variable {prog : Program} {w : World} {A : Around} {E : Value → Shared → Prop} {s : Shared} {κ : SortKind} {U : Keyed → Prop} {lt : Keyed → Keyed → Bool}
theorem wpS_set {M : Model} {σ : Type} {st st' : σ} {Q : PUnit → σ → Prop} (h : Q ⟨⟩ st') : wpS M A E s (set st' : StateT σ Sem PUnit) Q st := by
  unfold wpS; rw [StateT.run_set]; exact wpAny_pure ⟨rfl, h⟩
theorem seg_at {arr : Array Keyed} {lo n i : Nat} (h : lo + n ≤ arr.size) (hi : i < n) : ((arr.toList.drop lo).take n)[i]? = some (gK arr (lo + i)) := by
  rw [List.getElem?_take_of_lt hi, List.getElem?_drop, Array.getElem?_toList]
  exact gK_at (by omega)
theorem seg_len {arr : Array Keyed} {lo n : Nat} (h : lo + n ≤ arr.size) : ((arr.toList.drop lo).take n).length = n := by
  rw [List.length_take, List.length_drop, Array.length_toList]
  omega
theorem seg_mem {arr : Array Keyed} {lo n : Nat} (h : lo + n ≤ arr.size) {x : Keyed} (hx : x ∈ (arr.toList.drop lo).take n) : ∃ i, lo ≤ i ∧ i < lo + n ∧ x = gK arr i := by
  obtain ⟨i, hi, e⟩ := List.mem_iff_getElem.mp hx
  have hi' := hi
  rw [seg_len h] at hi'
  have := seg_at h hi'
  rw [List.getElem?_eq_getElem hi] at this
  exact ⟨lo + i, by omega, by omega, e.symm.trans (Option.some.inj this)⟩
theorem mem_seg {arr : Array Keyed} {lo n : Nat} (h : lo + n ≤ arr.size) {i : Nat} (h1 : lo ≤ i) (h2 : i < lo + n) : gK arr i ∈ (arr.toList.drop lo).take n := by
  have := seg_at h (i := i - lo) (by omega)
  rw [show lo + (i - lo) = i by omega] at this
  exact List.mem_of_getElem? this
theorem upU_of {arr : Array Keyed} {lo n : Nat} (h : lo + n ≤ arr.size) (hu : UpI lt arr lo n) : UpU lt ((arr.toList.drop lo).take n) := by
  refine List.pairwise_iff_getElem.mpr fun i j hi hj hij => ?_
  have hi' := hi
  have hj' := hj
  rw [seg_len h] at hi' hj'
  have e1 := seg_at h hi'
  have e2 := seg_at h hj'
  rw [List.getElem?_eq_getElem hi] at e1
  rw [List.getElem?_eq_getElem hj] at e2
  rw [Option.some.inj e1, Option.some.inj e2]
  exact hu _ _ (by omega) (by omega) (by omega)
theorem mem_segD {arr : Array Keyed} {lo n K : Nat} (h : lo + n ≤ arr.size) {i : Nat} (h1 : lo + K ≤ i) (h2 : i < lo + n) : gK arr i ∈ ((arr.toList.drop lo).take n).drop K := by
  refine List.mem_of_getElem? (i := i - lo - K) ?_
  rw [List.getElem?_drop, show K + (i - lo - K) = i - lo by omega, seg_at h (by omega), show lo + (i - lo) = i by omega]
theorem lay_at (base : Nat) : ∀ (r : List Keyed) (j0 : Nat) (arr : Array Keyed), base + j0 + r.length ≤ arr.size →
    ((r.zipIdx j0).foldl (fun a (x : Keyed × Nat) => a.setIfInBounds (base + x.2) x.1) arr).size = arr.size ∧ ∀ k, ((r.zipIdx j0).foldl (fun a (x : Keyed × Nat) => a.setIfInBounds (base + x.2) x.1) arr)[k]? = if base + j0 ≤ k ∧ k < base + j0 + r.length then r[k - (base + j0)]? else arr[k]?
  | [], j0, arr, _ => ⟨rfl, fun k => by rw [if_neg (by rw [List.length_nil]; omega)]; rfl⟩
  | x :: r, j0, arr, h => by
    rw [List.length_cons] at h
    obtain ⟨i1, i2⟩ := lay_at base r (j0 + 1) (arr.setIfInBounds (base + j0) x) (by rw [Array.size_setIfInBounds]; omega)
    rw [List.zipIdx_cons, List.foldl_cons]
    refine ⟨i1.trans Array.size_setIfInBounds, fun k => ?_⟩
    rw [i2 k, Array.getElem?_setIfInBounds, List.length_cons]
    by_cases c1 : base + (j0 + 1) ≤ k ∧ k < base + (j0 + 1) + r.length
    · rw [if_pos c1, if_pos (by omega), show k - (base + j0) = k - (base + (j0 + 1)) + 1 by omega, List.getElem?_cons_succ]
    · rw [if_neg c1]
      by_cases c2 : base + j0 = k
      · rw [if_pos c2, if_pos (by omega), if_pos (by omega), show k - (base + j0) = 0 by omega]
        rfl
      · rw [if_neg c2, if_neg (by omega)]
theorem ext_seg (arr : Array Keyed) (p q : Nat) : (arr.extract p q).toList = (arr.toList.drop p).take (q - p) := Array.toList_extract
set_option maxHeartbeats 4000000 in
theorem wpS_mergeAtU (hc : CmpU prog w A s κ U lt) (O : OrdU U lt) {st : SortSt} (hk : kindOf st = κ) (hA : ArrU U (arrOf st)) (hf : failedOf st = none) {i sa na nb pw pw' : Nat} (hp1 : (pendingOf st)[i]? = some (sa, na, pw)) (hp2 : (pendingOf st)[i + 1]? = some (sa + na, nb, pw')) (ha : 1 ≤ na) (hb : 1 ≤ nb) (hn : sa + na + nb ≤ (arrOf st).size)
    (hua : UpI lt (arrOf st) sa na) (hub : UpI lt (arrOf st) (sa + na) nb) {Q : Bool → SortSt → Prop}
    (h : ∀ st' : SortSt, PyProof.Rows.kindOf st' = PyProof.Rows.kindOf st → failedOf st' = none → pendingOf st' = ((pendingOf st).setIfInBounds i (sa, na + nb, pw)).eraseIdxIfInBounds (i + 1) → (arrOf st').Perm (arrOf st) → (∀ k, k < sa ∨ sa + na + nb ≤ k → gK (arrOf st') k = gK (arrOf st) k) → UpI lt (arrOf st') sa (na + nb) → Q true st') : wpS (model prog w) A E s (mergeAt' i) Q st := by
  refine wpS_bind (wpS_get ?_)
  show wpS (model prog w) A E s (match ((pendingOf st)[i]?, (pendingOf st)[i + 1]?) with | _ => _) Q st
  rw [hp1, hp2]
  dsimp only
  refine wpS_bind (wpS_set ?_)
  show wpS (model prog w) A E s _ Q (setPending st (((pendingOf st).setIfInBounds i (sa, na + nb, pw)).eraseIdxIfInBounds (i + 1)))
  generalize hst1 : setPending st (((pendingOf st).setIfInBounds i (sa, na + nb, pw)).eraseIdxIfInBounds (i + 1)) = st1
  have k1 : PyProof.Rows.kindOf st1 = κ := by subst hst1; exact hk
  have k2 : failedOf st1 = none := by subst hst1; exact hf
  have k3 : pendingOf st1 = ((pendingOf st).setIfInBounds i (sa, na + nb, pw)).eraseIdxIfInBounds (i + 1) := by subst hst1; rfl
  have k4 : arrOf st1 = arrOf st := by subst hst1; rfl
  have segU : ∀ {lo n : Nat}, ∀ z ∈ ((arrOf st).toList.drop lo).take n, U z := fun z hz => hA.u z (List.mem_of_mem_drop (List.mem_of_mem_take hz))
  refine wpS_bind (wpS_elem (gK_at (arr := arrOf st) (by omega)) ?_)
  refine wpS_bind (wpS_galG hc O k1 (hA.at (by omega)) (by omega) (by omega) segU (upU_of (by omega) hua) (fun z hz => ?_) fun K q1 q2 q3 => ?_)
  · obtain ⟨j, j1, j2, rfl⟩ := seg_mem (by omega) hz
    exact hA.ne (by omega) (by omega) (by omega)
  have q2' : ∀ j, sa ≤ j → j < sa + K → lt (gK (arrOf st) j) (gK (arrOf st) (sa + na)) = true := fun j h1 h2 => q2 _ (mem_seg (by omega) h1 h2)
  have q3' : ∀ j, sa + K ≤ j → j < sa + na → lt (gK (arrOf st) (sa + na)) (gK (arrOf st) j) = true := fun j h1 h2 => q3 _ (mem_segD (by omega) h1 h2)
  have up1 : ∀ j t, sa ≤ j → j < sa + K → sa + na ≤ t → t < sa + na + nb → lt (gK (arrOf st) j) (gK (arrOf st) t) = true := fun j t h1 h2 h3 h4 => by
    by_cases e : t = sa + na
    · rw [e]; exact q2' j h1 h2
    · exact O.tr _ _ _ (hA.at (by omega)) (hA.at (by omega)) (hA.at (by omega)) (q2' j h1 h2) (hub _ _ (Nat.le_refl _) (by omega) h4)
  dsimp only
  by_cases e : na - K = 0
  · rw [if_pos (by rw [e]; rfl)]
    refine wpS_pure (h st1 (k1.trans hk.symm) k2 k3 (by rw [k4]) (fun k _ => by rw [k4]) ?_)
    rw [k4]
    intro i' j h1 h2 h3
    by_cases c1 : j < sa + na
    · exact hua _ _ h1 h2 c1
    · by_cases c2 : i' < sa + na
      · exact up1 _ _ h1 (by omega) (by omega) (by omega)
      · exact hub _ _ (by omega) h2 (by omega)
  rw [if_neg (fun z => e (eq_of_beq z))]
  refine wpS_bind (wpS_elem (gK_at (arr := arrOf st) (by omega)) ?_)
  rw [show sa + K + (na - K) - 1 = sa + na - 1 by omega]
  refine wpS_bind (wpS_galG hc O k1 (hA.at (by omega)) (by omega) (by omega) segU (upU_of (by omega) hub) (fun z hz => ?_) fun K2 p1 p2 p3 => ?_)
  · obtain ⟨j, j1, j2, rfl⟩ := seg_mem (by omega) hz
    exact hA.ne (by omega) (by omega) (by omega)
  have p2' : ∀ j, sa + na ≤ j → j < sa + na + K2 → lt (gK (arrOf st) j) (gK (arrOf st) (sa + na - 1)) = true := fun j h1 h2 => p2 _ (mem_seg (by omega) h1 h2)
  have p3' : ∀ j, sa + na + K2 ≤ j → j < sa + na + nb → lt (gK (arrOf st) (sa + na - 1)) (gK (arrOf st) j) = true := fun j h1 h2 => p3 _ (mem_segD (by omega) h1 h2)
  have up2 : ∀ t j, sa ≤ t → t < sa + na → sa + na + K2 ≤ j → j < sa + na + nb → lt (gK (arrOf st) t) (gK (arrOf st) j) = true := fun t j h1 h2 h3 h4 => by
    by_cases e : t = sa + na - 1
    · rw [e]; exact p3' j h3 h4
    · exact O.tr _ _ _ (hA.at (by omega)) (hA.at (by omega)) (hA.at (by omega)) (hua _ _ h1 (by omega) (by omega)) (p3' j h3 h4)
  have K2p : 0 < K2 := by
    refine Nat.pos_of_ne_zero fun z => ?_
    subst z
    have h4 := p3' (sa + na) (by omega) (by omega)
    rw [O.asym (hA.at (by omega)) (hA.at (by omega)) (q3' (sa + na - 1) (by omega) (by omega))] at h4
    cases h4
  dsimp only
  rw [if_neg (fun z => Nat.ne_of_gt K2p (eq_of_beq z))]
  have hxs : ((arrOf st).extract (sa + K) (sa + na)).size = na - K := by rw [Array.size_extract]; omega
  have hys : ((arrOf st).extract (sa + na) (sa + na + K2)).size = K2 := by rw [Array.size_extract]; omega
  have hy0 : ∀ hh, ((arrOf st).extract (sa + na) (sa + na + K2))[0]'hh = gK (arrOf st) (sa + na) := fun hh => by
    rw [Array.getElem_extract]
    exact (gK_of (arr := arrOf st) (i := sa + na + 0) (Array.getElem?_eq_getElem (by omega))).symm
  have hxl : ∀ hh, ((arrOf st).extract (sa + K) (sa + na))[((arrOf st).extract (sa + K) (sa + na)).size - 1]'hh = gK (arrOf st) (sa + na - 1) := fun hh => by
    rw [Array.getElem_extract]
    have e2 : sa + K + (((arrOf st).extract (sa + K) (sa + na)).size - 1) = sa + na - 1 := by omega
    rw [← e2]
    exact (gK_of (arr := arrOf st) (Array.getElem?_eq_getElem (by omega))).symm
  have xm : ∀ z ∈ ((arrOf st).extract (sa + K) (sa + na)).toList, ∃ j, sa + K ≤ j ∧ j < sa + na ∧ z = gK (arrOf st) j := fun z hz => by
    rw [ext_seg] at hz
    obtain ⟨j, j1, j2, j3⟩ := seg_mem (by omega) hz
    exact ⟨j, j1, by omega, j3⟩
  have ym : ∀ z ∈ ((arrOf st).extract (sa + na) (sa + na + K2)).toList, ∃ j, sa + na ≤ j ∧ j < sa + na + K2 ∧ z = gK (arrOf st) j := fun z hz => by
    rw [ext_seg] at hz
    obtain ⟨j, j1, j2, j3⟩ := seg_mem (by omega) hz
    exact ⟨j, j1, by omega, j3⟩
  have xU : ∀ z ∈ ((arrOf st).extract (sa + K) (sa + na)).toList, U z := fun z hz => by
    obtain ⟨j, j1, j2, rfl⟩ := xm z hz
    exact hA.at (by omega)
  have yU : ∀ z ∈ ((arrOf st).extract (sa + na) (sa + na + K2)).toList, U z := fun z hz => by
    obtain ⟨j, j1, j2, rfl⟩ := ym z hz
    exact hA.at (by omega)
  have xS : UpU lt ((arrOf st).extract (sa + K) (sa + na)).toList := by
    rw [ext_seg]
    exact upU_of (by omega) fun i' j h1 h2 h3 => hua _ _ (by omega) h2 (by omega)
  have yS : UpU lt ((arrOf st).extract (sa + na) (sa + na + K2)).toList := by
    rw [ext_seg]
    exact upU_of (by omega) fun i' j h1 h2 h3 => hub _ _ (by omega) h2 (by omega)
  have xyN : ∀ x ∈ ((arrOf st).extract (sa + K) (sa + na)).toList, ∀ y ∈ ((arrOf st).extract (sa + na) (sa + na + K2)).toList, x ≠ y := fun x hx y hy => by
    obtain ⟨j, j1, j2, rfl⟩ := xm x hx
    obtain ⟨t, t1, t2, rfl⟩ := ym y hy
    exact hA.ne (by omega) (by omega) (by omega)
  have x0 : ∀ x ∈ ((arrOf st).extract (sa + K) (sa + na)).toList, lt (((arrOf st).extract (sa + na) (sa + na + K2))[0]'(by omega)) x = true := fun x hx => by
    obtain ⟨j, j1, j2, rfl⟩ := xm x hx
    rw [hy0]
    exact q3' j j1 j2
  have yl : ∀ y ∈ ((arrOf st).extract (sa + na) (sa + na + K2)).toList, lt y (((arrOf st).extract (sa + K) (sa + na))[((arrOf st).extract (sa + K) (sa + na)).size - 1]'(by omega)) = true := fun y hy => by
    obtain ⟨j, j1, j2, rfl⟩ := ym y hy
    rw [hxl]
    exact p2' j j1 j2
  have fin : ∀ (r : Array Keyed) (st2 : SortSt), Eqv st1 st2 → r.toList.Perm (((arrOf st).extract (sa + K) (sa + na)).toList ++ ((arrOf st).extract (sa + na) (sa + na + K2)).toList) → UpU lt r.toList → Q true (setArr st2 (r.toList.zipIdx.foldl (fun a x => a.setIfInBounds (sa + K + x.snd) x.fst) (arrOf st2))) := fun r st2 ev hp hu => by
    have hl : r.toList.length = na - K + K2 := by rw [hp.length_eq, List.length_append, Array.length_toList, Array.length_toList, hxs, hys]
    have ea : arrOf st2 = arrOf st := ev.2.1.trans k4
    obtain ⟨z1, z2⟩ := lay_at (sa + K) r.toList 0 (arrOf st2) (by rw [ea]; omega)
    generalize (r.toList.zipIdx.foldl (fun a x => a.setIfInBounds (sa + K + x.snd) x.fst) (arrOf st2)) = L at z1 z2 ⊢
    rw [ea] at z1
    have zk : ∀ k, k < sa + K ∨ sa + na + K2 ≤ k → gK L k = gK (arrOf st) k := fun k hk => by
      unfold gK
      rw [Array.getD_eq_getD_getElem?, z2 k, if_neg (by omega), ea, Array.getD_eq_getD_getElem?]
    have zr : ∀ k, sa + K ≤ k → k < sa + na + K2 → r.toList[k - (sa + K)]? = some (gK L k) := fun k h1 h2 => by
      have e3 := gK_at (arr := L) (i := k) (by omega)
      rw [z2 k, if_pos (by omega)] at e3
      exact e3
    have zt : ∀ k, sa + K ≤ k → k < sa + na + K2 → ∃ t, sa + K ≤ t ∧ t < sa + na + K2 ∧ gK L k = gK (arrOf st) t := fun k h1 h2 => by
      have hm := hp.mem_iff.mp (List.mem_of_getElem? (zr k h1 h2))
      rcases List.mem_append.mp hm with hm | hm
      · obtain ⟨j, j1, j2, j3⟩ := xm _ hm
        exact ⟨j, j1, by omega, j3⟩
      · obtain ⟨j, j1, j2, j3⟩ := ym _ hm
        exact ⟨j, by omega, j2, j3⟩
    refine h (setArr st2 L) (ev.1.trans (k1.trans hk.symm)) (ev.2.2.2.trans k2) (ev.2.2.1.trans k3) ?_ (fun k hk => zk k (by omega)) fun i' j h1 h2 h3 => ?_
    · refine Array.perm_iff_toList_perm.mpr ?_
      have lt1 : ((arrOf st).toList.take (sa + K)).length = sa + K := by rw [List.length_take, Array.length_toList]; omega
      have eL : L.toList = (arrOf st).toList.take (sa + K) ++ (r.toList ++ (arrOf st).toList.drop (sa + K + (na - K + K2))) := by
        refine List.ext_getElem? fun k => ?_
        rw [Array.getElem?_toList, z2 k]
        by_cases c1 : k < sa + K
        · rw [if_neg (by omega), List.getElem?_append_left (by rw [lt1]; exact c1), List.getElem?_take_of_lt c1, Array.getElem?_toList, ea]
        · rw [List.getElem?_append_right (by rw [lt1]; omega), lt1]
          by_cases c2 : k < sa + K + (na - K + K2)
          · rw [if_pos (by omega), List.getElem?_append_left (by omega)]
            rfl
          · rw [if_neg (by omega), List.getElem?_append_right (by omega), List.getElem?_drop, Array.getElem?_toList, ea]
            congr 1
            omega
      have el : (arrOf st).toList = (arrOf st).toList.take (sa + K) ++ (((arrOf st).toList.drop (sa + K)).take (na - K + K2) ++ (arrOf st).toList.drop (sa + K + (na - K + K2))) := by
        have e7 := List.take_append_drop (na - K + K2) ((arrOf st).toList.drop (sa + K))
        rw [List.drop_drop] at e7
        rw [e7, List.take_append_drop]
      show L.toList.Perm (arrOf st).toList
      rw [eL]
      refine List.Perm.trans (List.Perm.append_left _ (List.Perm.append_right _ ?_)) (List.Perm.of_eq el.symm)
      refine hp.trans (List.Perm.of_eq ?_)
      rw [ext_seg, ext_seg, List.take_add, List.drop_drop, show sa + na - (sa + K) = na - K by omega, show sa + na + K2 - (sa + na) = K2 by omega, show sa + K + (na - K) = sa + na by omega]
    · show lt (gK L i') (gK L j) = true
      by_cases a1 : i' < sa + K
      · rw [zk i' (.inl a1)]
        have go : ∀ t, i' < t → t < sa + na + nb → lt (gK (arrOf st) i') (gK (arrOf st) t) = true := fun t t1 t2 => by
          by_cases c : t < sa + na
          · exact hua _ _ h1 t1 c
          · exact up1 _ _ h1 a1 (by omega) t2
        by_cases a2 : j < sa + K ∨ sa + na + K2 ≤ j
        · rw [zk j a2]
          exact go j h2 (by omega)
        · obtain ⟨t, t1, t2, t3⟩ := zt j (by omega) (by omega)
          rw [t3]
          exact go t (by omega) (by omega)
      · by_cases a2 : i' < sa + na + K2
        · by_cases a3 : j < sa + na + K2
          · have e5 := zr i' (by omega) a2
            have e6 := zr j (by omega) a3
            have l5 : i' - (sa + K) < r.toList.length := by omega
            have l6 : j - (sa + K) < r.toList.length := by omega
            rw [List.getElem?_eq_getElem l5] at e5
            rw [List.getElem?_eq_getElem l6] at e6
            rw [← Option.some.inj e5, ← Option.some.inj e6]
            exact List.pairwise_iff_getElem.mp hu _ _ l5 l6 (by omega)
          · obtain ⟨t, t1, t2, t3⟩ := zt i' (by omega) a2
            rw [t3, zk j (.inr (by omega))]
            by_cases c : t < sa + na
            · exact up2 _ _ (by omega) c (by omega) (by omega)
            · exact hub _ _ (by omega) (by omega) (by omega)
        · rw [zk i' (.inr (by omega)), zk j (.inr (by omega))]
          exact hub _ _ (by omega) h2 (by omega)
  split
  · refine wpS_bind (wpS_mergeLo hc O k1 (by omega) (by omega) xU yU xS yS xyN x0 yl fun r st2 ev hp hu => wpS_bind (wpS_modify (wpS_bind (wpS_get ?_))))
    show wpS (model prog w) A E s (pure (failedOf st2).isNone) Q _
    rw [ev.2.2.2, k2]
    exact wpS_pure (fin r st2 ev hp hu)
  · refine wpS_bind (wpS_mergeHi hc O k1 (by omega) (by omega) xU yU xS yS xyN x0 yl fun r st2 ev hp hu => wpS_bind (wpS_modify (wpS_bind (wpS_get ?_))))
    show wpS (model prog w) A E s (pure (failedOf st2).isNone) Q _
    rw [ev.2.2.2, k2]
    exact wpS_pure (fin r st2 ev hp hu)
end
end L2
namespace L2
open PySem PySem.W PyProof.Rows
def ChainU (lt : Keyed → Keyed → Bool) (arr : Array Keyed) : List (Nat × Nat × Nat) → Nat → Nat → Prop
  | [], b, e => b = e
  | x :: r, b, e => x.1 = b ∧ 1 ≤ x.2.1 ∧ UpI lt arr b x.2.1 ∧ ChainU lt arr r (b + x.2.1) e
section
variable {prog : Program} {w : World} {A : Around} {E : Value → Shared → Prop} {s : Shared} {κ : SortKind} {U : Keyed → Prop} {lt : Keyed → Keyed → Bool}
theorem ChainU.le {arr : Array Keyed} : ∀ {p : List (Nat × Nat × Nat)} {b e : Nat}, ChainU lt arr p b e → b + p.length ≤ e
  | [], b, e, h => by
    have : b = e := h
    rw [List.length_nil]
    omega
  | x :: r, b, e, ⟨_, h2, _, h4⟩ => by
    have := h4.le
    rw [List.length_cons]
    omega
theorem ChainU.keep {arr arr' : Array Keyed} : ∀ {p : List (Nat × Nat × Nat)} {b e : Nat}, ChainU lt arr p b e → (∀ k, b ≤ k → k < e → gK arr' k = gK arr k) → ChainU lt arr' p b e
  | [], _, _, h, _ => h
  | x :: r, b, e, ⟨h1, h2, h3, h4⟩, hk => by
    have l := h4.le
    refine ⟨h1, h2, fun i j i1 i2 i3 => ?_, h4.keep fun k k1 k2 => hk k (by omega) k2⟩
    rw [hk i i1 (by omega), hk j (by omega) (by omega)]
    exact h3 i j i1 i2 i3
theorem ChainU.app {arr : Array Keyed} : ∀ {p q : List (Nat × Nat × Nat)} {b e : Nat}, ChainU lt arr (p ++ q) b e → ∃ m, ChainU lt arr p b m ∧ ChainU lt arr q m e
  | [], _, b, _, h => ⟨b, rfl, h⟩
  | x :: r, q, b, e, ⟨h1, h2, h3, h4⟩ => by
    obtain ⟨m, a1, a2⟩ := ChainU.app (p := r) h4
    exact ⟨m, ⟨h1, h2, h3, a1⟩, a2⟩
theorem ChainU.join {arr : Array Keyed} : ∀ {p q : List (Nat × Nat × Nat)} {b m e : Nat}, ChainU lt arr p b m → ChainU lt arr q m e → ChainU lt arr (p ++ q) b e
  | [], _, b, m, _, h, h' => by
    have : b = m := h
    subst this
    exact h'
  | x :: r, q, b, m, e, ⟨h1, h2, h3, h4⟩, h' => ⟨h1, h2, h3, ChainU.join (p := r) h4 h'⟩
theorem split2 {p : List (Nat × Nat × Nat)} {i : Nat} (h : i + 1 < p.length) : ∃ u x y v, p = u ++ x :: y :: v ∧ u.length = i := by
  refine ⟨p.take i, p[i], p[i + 1], p.drop (i + 1 + 1), ?_, by rw [List.length_take]; omega⟩
  rw [← List.drop_eq_getElem_cons h, ← List.drop_eq_getElem_cons (show i < p.length by omega), List.take_append_drop]
structure GoodR (κ : SortKind) (lt : Keyed → Keyed → Bool) (a₀ : Array Keyed) (st : SortSt) (e : Nat) : Prop where
  kind : PyProof.Rows.kindOf st = κ
  fail : failedOf st = none
  perm : (arrOf st).Perm a₀
  chain : ChainU lt (arrOf st) (pendingOf st).toList 0 e
theorem wpS_mergeC (hc : CmpU prog w A s κ U lt) (O : OrdU U lt) {a₀ : Array Keyed} (hA : ArrU U a₀) {st : SortSt} {e : Nat} (G : GoodR κ lt a₀ st e) (he : e ≤ a₀.size) {i : Nat} (hi : i + 1 < (pendingOf st).size) {Q : Bool → SortSt → Prop}
    (h : ∀ st' : SortSt, GoodR κ lt a₀ st' e → (pendingOf st').size + 1 = (pendingOf st).size → (∀ k, e ≤ k → gK (arrOf st') k = gK (arrOf st) k) → Q true st') : wpS (model prog w) A E s (mergeAt' i) Q st := by
  obtain ⟨u, ⟨sa, na, pw⟩, ⟨sb, nb, pw'⟩, v, hp, hu⟩ := split2 (p := (pendingOf st).toList) (i := i) (by rw [Array.length_toList]; exact hi)
  have ch := G.chain
  rw [hp] at ch
  obtain ⟨m, c1, c2⟩ := ch.app
  obtain ⟨d1, d2, d3, f1, f2, f3, f4⟩ := c2
  have d1 : sa = m := d1
  have f1 : sb = m + na := f1
  subst d1
  subst f1
  have d2 : 1 ≤ na := d2
  have f2 : 1 ≤ nb := f2
  have d3 : UpI lt (arrOf st) sa na := d3
  have f3 : UpI lt (arrOf st) (sa + na) nb := f3
  have f4 : ChainU lt (arrOf st) v (sa + na + nb) e := f4
  have l1 := f4.le
  have hsz := G.perm.size_eq
  have hp1 : (pendingOf st)[i]? = some (sa, na, pw) := by
    rw [← Array.getElem?_toList, hp, List.getElem?_append_right (by omega), hu, Nat.sub_self]
    rfl
  have hp2 : (pendingOf st)[i + 1]? = some (sa + na, nb, pw') := by
    rw [← Array.getElem?_toList, hp, List.getElem?_append_right (by omega), hu, show i + 1 - i = 1 by omega]
    rfl
  refine wpS_mergeAtU hc O G.kind (hA.perm G.perm) G.fail hp1 hp2 d2 f2 (by omega) d3 f3 fun st' g1 g2 g3 g4 g5 g6 => ?_
  have hl : (pendingOf st').toList = u ++ (sa, na + nb, pw) :: v := by
    rw [g3, Array.eraseIdxIfInBounds, dif_pos (by rw [Array.size_setIfInBounds]; exact hi), Array.toList_eraseIdx, Array.toList_setIfInBounds, hp, ← hu, List.set_append_right _ _ (Nat.le_refl _), Nat.sub_self, List.set_cons_zero, List.eraseIdx_append_of_length_le (Nat.le_succ _), show u.length + 1 - u.length = 1 by omega]
    rfl
  refine h st' ⟨g1.trans G.kind, g2, g4.trans G.perm, ?_⟩ ?_ fun k hk => g5 k (.inr (by omega))
  · rw [hl]
    refine ChainU.join (c1.keep fun k k1 k2 => g5 k (.inl k2)) ⟨rfl, by show 1 ≤ na + nb; omega, g6, ?_⟩
    show ChainU lt (arrOf st') v (sa + (na + nb)) e
    rw [← Nat.add_assoc]
    exact f4.keep fun k k1 k2 => g5 k (.inr k1)
  · have e1 := congrArg List.length hl
    have e2 := congrArg List.length hp
    rw [Array.length_toList, List.length_append, List.length_cons] at e1 e2
    rw [List.length_cons] at e2
    omega
theorem ChainU.mod {arr : Array Keyed} {f : Nat × Nat × Nat → Nat × Nat × Nat} (hf : ∀ x, (f x).1 = x.1 ∧ (f x).2.1 = x.2.1) : ∀ {p : List (Nat × Nat × Nat)} {i b e : Nat}, ChainU lt arr p b e → ChainU lt arr (p.modify i f) b e
  | [], i, b, e, h => by
    rw [List.modify_nil]
    exact h
  | x :: r, 0, b, e, ⟨h1, h2, h3, h4⟩ => by
    rw [List.modify_zero_cons]
    refine ⟨(hf x).1.trans h1, ?_, ?_, ?_⟩
    · rw [(hf x).2]; exact h2
    · rw [(hf x).2]; exact h3
    · rw [(hf x).2]; exact h4
  | x :: r, i + 1, b, e, ⟨h1, h2, h3, h4⟩ => by
    rw [List.modify_succ_cons]
    exact ⟨h1, h2, h3, ChainU.mod hf h4⟩
theorem GoodR.push {a₀ : Array Keyed} {st : SortSt} {e n : Nat} (G : GoodR κ lt a₀ st e) (h1 : 1 ≤ n) (hu : UpI lt (arrOf st) e n) : GoodR κ lt a₀ (setPending st ((pendingOf st).push (e, n, 0))) (e + n) := by
  refine ⟨G.kind, G.fail, G.perm, ?_⟩
  show ChainU lt (arrOf st) ((pendingOf st).push (e, n, 0)).toList 0 (e + n)
  rw [Array.toList_push]
  exact ChainU.join G.chain ⟨rfl, h1, hu, rfl⟩
theorem GoodR.mod {a₀ : Array Keyed} {st : SortSt} {e i : Nat} {f : Nat × Nat × Nat → Nat × Nat × Nat} (hf : ∀ x, (f x).1 = x.1 ∧ (f x).2.1 = x.2.1) (G : GoodR κ lt a₀ st e) : GoodR κ lt a₀ (setPending st ((pendingOf st).modify i f)) e := by
  refine ⟨G.kind, G.fail, G.perm, ?_⟩
  show ChainU lt (arrOf st) ((pendingOf st).modify i f).toList 0 e
  rw [Array.toList_modify]
  exact ChainU.mod hf G.chain
theorem UpI.keep {arr arr' : Array Keyed} {lo n : Nat} (h : UpI lt arr lo n) (hk : ∀ k, lo ≤ k → gK arr' k = gK arr k) : UpI lt arr' lo n := fun i j i1 i2 i3 => by
  rw [hk i i1, hk j (by omega)]
  exact h i j i1 i2 i3
theorem ite_bd {c : Prop} [Decidable c] {x y n : Nat} (h1 : x + 1 < n) (h2 : y + 1 < n) : (if c then x else y) + 1 < n := by split <;> assumption
set_option maxHeartbeats 4000000 in
theorem wpS_sortRunsU (hc : CmpU prog w A s κ U lt) (O : OrdU U lt) {a₀ : Array Keyed} (hA : ArrU U a₀) {st : SortSt} (hk : PyProof.Rows.kindOf st = κ) (hf : failedOf st = none) (hp : pendingOf st = #[]) (ha : arrOf st = a₀) (h2 : 2 ≤ a₀.size) {Q : Unit → SortSt → Prop}
    (h : ∀ st' : SortSt, (arrOf st').Perm a₀ → failedOf st' = none → UpI lt (arrOf st') 0 a₀.size → Q () st') : wpS (model prog w) A E s sortRuns' Q st := by
  rw [sortRuns'_eq]
  refine wpS_bind (wpS_get ?_)
  try dsimp only
  rw [ha]
  generalize minRun' a₀.size a₀.size 0 = mr
  refine wpS_bind (wpS_mono (wpS_forRange (I := fun i c st' => c.1 = none ∧ GoodR κ lt a₀ st' c.2 ∧ c.2 ≤ a₀.size ∧ i ≤ c.2) (Q := fun c st' => c.1 = none ∧ GoodR κ lt a₀ st' a₀.size) ?_ ?_ ⟨rfl, ⟨hk, hf, by rw [ha], by rw [hp]; rfl⟩, Nat.zero_le _, Nat.zero_le _⟩) ?_)
  rotate_left
  · rintro ⟨r, lo⟩ st' ⟨hr, G, h3, h4⟩
    have h4 : max 0 a₀.size ≤ lo := h4
    have h3 : lo ≤ a₀.size := h3
    have e : lo = a₀.size := by omega
    subst e
    exact ⟨hr, G⟩
  · rintro ⟨r, lo⟩ st' ⟨hr, G⟩
    have hr' : r = none := hr
    subst hr'
    try dsimp only
    refine wpS_bind (wpS_mono (wpS_forRange (I := fun i c st2 => c = (none, ()) ∧ GoodR κ lt a₀ st2 a₀.size ∧ (pendingOf st2).size + i ≤ a₀.size) (Q := fun c st2 => c = (none, ()) ∧ GoodR κ lt a₀ st2 a₀.size ∧ (pendingOf st2).size ≤ 1) ?_ ?_ ⟨rfl, G, by have e5 := G.chain.le; rw [Array.length_toList] at e5; omega⟩) ?_)
    · rintro i c st2 _ hi ⟨rfl, G2, h5⟩
      refine wpS_bind (wpS_get ?_)
      try dsimp only
      by_cases z : (pendingOf st2).size ≤ 1
      · rw [if_pos z]
        exact wpS_pure ⟨rfl, G2, z⟩
      rw [if_neg z]
      refine wpS_bind (wpS_mergeC hc O hA G2 (Nat.le_refl _) (ite_bd (by omega) (by omega)) fun st3 G3 s3 _ => ?_)
      rw [if_neg (by decide)]
      exact wpS_pure ⟨rfl, G3, by omega⟩
    · rintro c st2 ⟨rfl, G2, h5⟩
      exact ⟨rfl, G2, by omega⟩
    · rintro c st2 ⟨rfl, G2, h5⟩
      try dsimp only
      refine wpS_pure (h st2 G2.perm G2.fail ?_)
      have ch := G2.chain
      rw [← Array.length_toList] at h5
      generalize (pendingOf st2).toList = p at ch h5
      cases p with
      | nil =>
        have e0 : 0 = a₀.size := ch
        omega
      | cons x r =>
        rw [List.length_cons] at h5
        have er : r = [] := List.eq_nil_of_length_eq_zero (by omega)
        subst er
        obtain ⟨_, _, c3, c4⟩ := ch
        have c4 : 0 + x.2.1 = a₀.size := c4
        rw [Nat.zero_add] at c4
        rw [← c4]
        exact c3
  rintro i ⟨r, lo⟩ st1 _ hi ⟨hr, G, h3, h4⟩
  have hr' : r = none := hr
  subst hr'
  have h3 : lo ≤ a₀.size := h3
  have h4 : i ≤ lo := h4
  have G : GoodR κ lt a₀ st1 lo := G
  try dsimp only
  by_cases e : lo ≥ a₀.size
  · rw [if_pos e]
    have e' : lo = a₀.size := by omega
    subst e'
    exact wpS_pure ⟨rfl, G⟩
  rw [if_neg e]
  have hsz := G.perm.size_eq
  refine wpS_bind (wpS_countRunU hc O G.kind (hA.perm G.perm) (by omega) (by omega) fun m st2 m1 m2 kp hu => ?_)
  try dsimp only
  have G2 : GoodR κ lt a₀ st2 lo := ⟨kp.kind.trans G.kind, kp.fail.trans G.fail, kp.perm.trans G.perm, by rw [kp.pend]; exact G.chain.keep fun k _ k2 => kp.low k k2⟩
  by_cases zm : m < mr
  · rw [if_pos zm]
    refine wpS_bind (wpS_lift (wpAny_rule ⟨rfl, ?_⟩))
    have hsz2 := G2.perm.size_eq
    refine wpS_bind (wpS_binarySortU hc O G2.kind (hA.perm G2.perm) (by omega) m1 (by omega) hu fun st3 kp3 hu3 => ?_)
    have G3 : GoodR κ lt a₀ st3 lo := ⟨kp3.kind.trans G2.kind, kp3.fail.trans G2.fail, kp3.perm.trans G2.perm, by rw [kp3.pend]; exact G2.chain.keep fun k _ k2 => kp3.low k k2⟩
    try dsimp only
    rw [if_neg (by decide)]
    have n1 : 1 ≤ min (a₀.size - lo) mr := by omega
    refine wpS_bind (wpS_get ?_)
    try dsimp only
    cases hb : (pendingOf st3).back? with
    | none =>
      try dsimp only
      exact wpS_bind (wpS_modify (wpS_pure ⟨rfl, G3.push n1 hu3, by show lo + (min (a₀.size - lo) mr) ≤ a₀.size; omega, by show i + 1 ≤ lo + (min (a₀.size - lo) mr); omega⟩))
    | some x =>
      obtain ⟨s1, n1', pw1⟩ := x
      try dsimp only
      refine wpS_bind (wpS_mono (wpS_forRange (I := fun _ c st' => c = (none, ()) ∧ GoodR κ lt a₀ st' lo ∧ UpI lt (arrOf st') lo (min (a₀.size - lo) mr)) (Q := fun c st' => c = (none, ()) ∧ GoodR κ lt a₀ st' lo ∧ UpI lt (arrOf st') lo (min (a₀.size - lo) mr)) ?_ (fun c st' hh => hh) ⟨rfl, G3, hu3⟩) ?_)
      · rintro j c st4 _ _ ⟨rfl, G4, hu4⟩
        refine wpS_bind (wpS_get ?_)
        try dsimp only
        by_cases z : (pendingOf st4).size > 1
        · obtain ⟨q, hq⟩ : ∃ q, (pendingOf st4)[(pendingOf st4).size - 2]? = some q := ⟨_, Array.getElem?_eq_getElem (by omega)⟩
          rw [if_pos z, hq]
          obtain ⟨q1, q2, q3⟩ := q
          try dsimp only
          split
          · exact wpS_pure ⟨rfl, G4, hu4⟩
          · refine wpS_bind (wpS_mergeC hc O hA G4 h3 (by omega) fun st5 G5 _ g5 => ?_)
            try dsimp only
            rw [if_neg (by decide)]
            exact wpS_pure ⟨rfl, G5, hu4.keep g5⟩
        · rw [if_neg z]
          exact wpS_pure ⟨rfl, G4, hu4⟩
      · rintro c st4 ⟨rfl, G4, hu4⟩
        try dsimp only
        refine wpS_bind (wpS_modify (wpS_bind (wpS_modify (wpS_pure ⟨rfl, GoodR.push (GoodR.mod ?_ G4) n1 hu4, by show lo + (min (a₀.size - lo) mr) ≤ a₀.size; omega, by show i + 1 ≤ lo + (min (a₀.size - lo) mr); omega⟩))))
        exact fun _ => ⟨rfl, rfl⟩
  · rw [if_neg zm]
    have n1 := m1
    have hu3 := hu
    have G3 := G2
    obtain ⟨st3, est⟩ : ∃ q, q = st2 := ⟨_, rfl⟩
    subst est
    refine wpS_bind (wpS_get ?_)
    try dsimp only
    cases hb : (pendingOf st3).back? with
    | none =>
      try dsimp only
      exact wpS_bind (wpS_modify (wpS_pure ⟨rfl, G3.push n1 hu3, by show lo + m ≤ a₀.size; omega, by show i + 1 ≤ lo + m; omega⟩))
    | some x =>
      obtain ⟨s1, n1', pw1⟩ := x
      try dsimp only
      refine wpS_bind (wpS_mono (wpS_forRange (I := fun _ c st' => c = (none, ()) ∧ GoodR κ lt a₀ st' lo ∧ UpI lt (arrOf st') lo m) (Q := fun c st' => c = (none, ()) ∧ GoodR κ lt a₀ st' lo ∧ UpI lt (arrOf st') lo m) ?_ (fun c st' hh => hh) ⟨rfl, G3, hu3⟩) ?_)
      · rintro j c st4 _ _ ⟨rfl, G4, hu4⟩
        refine wpS_bind (wpS_get ?_)
        try dsimp only
        by_cases z : (pendingOf st4).size > 1
        · obtain ⟨q, hq⟩ : ∃ q, (pendingOf st4)[(pendingOf st4).size - 2]? = some q := ⟨_, Array.getElem?_eq_getElem (by omega)⟩
          rw [if_pos z, hq]
          obtain ⟨q1, q2, q3⟩ := q
          try dsimp only
          split
          · exact wpS_pure ⟨rfl, G4, hu4⟩
          · refine wpS_bind (wpS_mergeC hc O hA G4 h3 (by omega) fun st5 G5 _ g5 => ?_)
            try dsimp only
            rw [if_neg (by decide)]
            exact wpS_pure ⟨rfl, G5, hu4.keep g5⟩
        · rw [if_neg z]
          exact wpS_pure ⟨rfl, G4, hu4⟩
      · rintro c st4 ⟨rfl, G4, hu4⟩
        try dsimp only
        refine wpS_bind (wpS_modify (wpS_bind (wpS_modify (wpS_pure ⟨rfl, GoodR.push (GoodR.mod ?_ G4) n1 hu4, by show lo + m ≤ a₀.size; omega, by show i + 1 ≤ lo + m; omega⟩))))
        exact fun _ => ⟨rfl, rfl⟩
end
end L2
namespace L2
open PySem PySem.W PySem.Spec PyProof.Rows
def intVU : Option Value → Int
  | some (.int a _) => a
  | _ => 0
def pairOfU (h : Heap) : Value → Int × Int
  | .ref a => match h.get? a with
    | some o => match o.data with
      | .seq xs _ => (intVU xs[0]?, intVU xs[1]?)
      | _ => (0, 0)
    | none => (0, 0)
  | _ => (0, 0)
theorem TupsI.pair {h : Heap} {vs : List Value} {ps : List (Int × Int)} (T : TupsI h vs ps) {i : Nat} (hi : i < ps.length) : pairOfU h (vs.getD i Value.none) = prAt ps i := by
  obtain ⟨a, o, t, u, n, e1, e2, e3⟩ := T.at hi
  rw [e1]
  unfold pairOfU
  dsimp only
  rw [e2]
  dsimp only
  rw [e3]
  rfl
theorem perm_map_inv {α β : Type} {f : α → β} {l m : List β} (p : l.Perm m) : ∀ r : List α, m = r.map f → ∃ r' : List α, r'.Perm r ∧ l = r'.map f := by
  induction p with
  | nil => exact fun r e => ⟨r, List.Perm.refl _, e⟩
  | cons x _ ih =>
    intro r e
    cases r with
    | nil => cases e
    | cons y r =>
      rw [List.map_cons] at e
      obtain ⟨e1, e2⟩ := List.cons.inj e
      obtain ⟨r', h1, h2⟩ := ih r e2
      exact ⟨y :: r', h1.cons y, by rw [List.map_cons, ← h2, e1]⟩
  | swap x y l =>
    intro r e
    match r, e with
    | a :: b :: r, e =>
      rw [List.map_cons, List.map_cons] at e
      obtain ⟨e1, e2⟩ := List.cons.inj e
      obtain ⟨e3, e4⟩ := List.cons.inj e2
      exact ⟨b :: a :: r, List.Perm.swap a b r, by rw [List.map_cons, List.map_cons, e1, e3, e4]⟩
  | trans _ _ ih1 ih2 =>
    intro r e
    obtain ⟨r2, h1, h2⟩ := ih2 r e
    obtain ⟨r1, h3, h4⟩ := ih1 r2 h2
    exact ⟨r1, h3.trans h1, h4⟩
theorem lex_self (p : Int × Int) : lexB p p = false := by
  cases e : lexB p p with
  | false => rfl
  | true =>
    have := lexB_iff.mp e
    omega
section
variable {prog : Program} {w : World} {A : Around} {E : Value → Shared → Prop} {s : Shared}
def itemU (vs : List Value) (i : Nat) : Keyed := (vs.getD i Value.none, vs.getD i Value.none)
theorem run_pairs {vs : List Value} {ps : List (Int × Int)} (T : TupsI s.heap vs ps) (nd : ps.Nodup) (h2 : 2 ≤ vs.length) :
    wpAny (model prog w) A ((sortRuns').run (SortSt.mk' (tuples' true) (vs.toArray.zip vs.toArray) #[] 7 none)) (fun r s' => s' = s ∧ ∃ π : List Nat, π.Perm (List.range ps.length) ∧ (π.map (prAt ps)).Pairwise (fun a b => lexB a b = true) ∧ (arrOf r.2).map (·.2) = List.toArray (π.map fun i => vs.getD i Value.none) ∧ failedOf r.2 = none) E s := by
  have hl := T.len
  have ez : (vs.toArray.zip vs.toArray).toList = (List.range ps.length).map (itemU vs) := by
    rw [Array.toList_zip]
    refine List.ext_getElem? fun i => ?_
    rw [List.getElem?_map]
    by_cases c : i < vs.length
    · rw [List.getElem?_range (by omega), List.getElem?_eq_getElem (by rw [List.length_zip]; show i < min vs.length vs.length; omega), List.getElem_zip]
      show some (vs[i], vs[i]) = some (itemU vs i)
      unfold itemU
      rw [List.getD_eq_getElem?_getD, List.getElem?_eq_getElem c]
      rfl
    · rw [List.getElem?_eq_none (by rw [List.length_zip]; show min vs.length vs.length ≤ i; omega), List.getElem?_eq_none (by rw [List.length_range]; omega)]
      rfl
  have hc : CmpU prog w A s (tuples' true) (fun x => ∃ i, i < ps.length ∧ x = itemU vs i) (fun x y => lexB (pairOfU s.heap x.1) (pairOfU s.heap y.1)) := ⟨by
    rintro x y ⟨i, hi, rfl⟩ ⟨j, hj, rfl⟩ C hC
    have e1 : pairOfU s.heap (itemU vs i).1 = prAt ps i := T.pair hi
    have e2 : pairOfU s.heap (itemU vs j).1 = prAt ps j := T.pair hj
    have hC : C (lexB (pairOfU s.heap (itemU vs i).1) (pairOfU s.heap (itemU vs j).1)) s := hC
    rw [e1, e2] at hC
    exact tups_lt T hi hj hC⟩
  have O : OrdU (fun x => ∃ i, i < ps.length ∧ x = itemU vs i) (fun x y : Keyed => lexB (pairOfU s.heap x.1) (pairOfU s.heap y.1)) := by
    refine ⟨fun x y z _ _ _ a b => ?_, ?_, fun x _ => lex_self _⟩
    · have a := lexB_iff.mp a
      have b := lexB_iff.mp b
      exact lexB_iff.mpr (by omega)
    · rintro x y ⟨i, hi, rfl⟩ ⟨j, hj, rfl⟩ ne hlt
      have e1 : pairOfU s.heap (itemU vs i).1 = prAt ps i := T.pair hi
      have e2 : pairOfU s.heap (itemU vs j).1 = prAt ps j := T.pair hj
      have hlt : lexB (pairOfU s.heap (itemU vs i).1) (pairOfU s.heap (itemU vs j).1) = false := hlt
      show lexB (pairOfU s.heap (itemU vs j).1) (pairOfU s.heap (itemU vs i).1) = true
      rw [e1, e2] at *
      exact (lex_ord nd).tot i j hi hj (fun z => ne (by rw [z])) hlt
  have hA : ArrU (fun x => ∃ i, i < ps.length ∧ x = itemU vs i) (vs.toArray.zip vs.toArray) := by
    refine ⟨fun x hx => ?_, ?_⟩
    · rw [ez] at hx
      obtain ⟨i, hi, rfl⟩ := List.mem_map.mp hx
      exact ⟨i, List.mem_range.mp hi, rfl⟩
    · rw [ez]
      refine List.pairwise_map.mpr (List.pairwise_iff_getElem.mpr fun i j hi hj hij z => ?_)
      rw [List.length_range] at hi hj
      rw [List.getElem_range, List.getElem_range] at z
      have e1 : pairOfU s.heap (itemU vs i).1 = prAt ps i := T.pair hi
      have e2 : pairOfU s.heap (itemU vs j).1 = prAt ps j := T.pair hj
      rw [z, e2] at e1
      have a1 := pr_get hi
      have a2 := pr_get hj
      rw [← e1] at a1
      rw [List.getElem?_eq_getElem hi] at a1
      rw [List.getElem?_eq_getElem hj] at a2
      exact (List.pairwise_iff_getElem.mp nd i j hi hj hij) ((Option.some.inj a1).trans (Option.some.inj a2).symm)
  have hsz : (vs.toArray.zip vs.toArray).size = ps.length := by rw [← Array.length_toList, ez, List.length_map, List.length_range]
  refine wpAny_mono (wpS_sortRunsU (E := E) (Q := fun _ st' => ∃ π : List Nat, π.Perm (List.range ps.length) ∧ (π.map (prAt ps)).Pairwise (fun a b => lexB a b = true) ∧ (arrOf st').map (·.2) = List.toArray (π.map fun i => vs.getD i Value.none) ∧ failedOf st' = none) hc O hA rfl rfl rfl rfl (by omega) fun st' p1 p2 p3 => ?_) (fun r s' hr => hr) fun _ _ e => e
  have hs' := p1.size_eq
  obtain ⟨π, q1, q2⟩ := perm_map_inv (Array.perm_iff_toList_perm.mp p1) (List.range ps.length) ez
  have hπ : ∀ i ∈ π, i < ps.length := fun i hi => List.mem_range.mp (q1.mem_iff.mp hi)
  refine ⟨π, q1, ?_, ?_, p2⟩
  · have hu := upU_of (lo := 0) (n := (vs.toArray.zip vs.toArray).size) (by omega) p3
    rw [List.drop_zero, List.take_of_length_le (by rw [Array.length_toList]; omega), q2] at hu
    refine List.pairwise_map.mpr ((List.pairwise_map.mp hu).imp_of_mem fun {a b} ha hb hab => ?_)
    have e1 : pairOfU s.heap (itemU vs a).1 = prAt ps a := T.pair (hπ a ha)
    have e2 : pairOfU s.heap (itemU vs b).1 = prAt ps b := T.pair (hπ b hb)
    have hab : lexB (pairOfU s.heap (itemU vs a).1) (pairOfU s.heap (itemU vs b).1) = true := hab
    rw [e1, e2] at hab
    exact hab
  · apply Array.toList_inj.mp
    rw [Array.toList_map, q2, List.map_map]
    rfl
theorem sort_pairsU {a : Addr} {vs : List Value} {ps : List (Int × Int)} {n : Nat} {P : Fin → Shared → Prop} (ho : s.heap.get? a = some (seqObj "list" vs.toArray n)) (T : TupsI s.heap vs ps) (nd : ps.Nodup) (h64 : vs.length < 1000000)
    (h : ∀ π : List Nat, π.Perm (List.range ps.length) → (π.map (prAt ps)).Pairwise (fun a b => lexB a b = true) → P (.done (.ret .none)) { s with heap := sortedHeap s.heap a vs (List.toArray (π.map fun i => vs.getD i Value.none)) }) :
    wpAny (model prog w) A (Builtin.«list.sort» ⟨[.ref a], []⟩) P E s := by
  rw [list_sort_plain]
  have ha : a < s.heap.objs.size := Heap.lt_size ho
  have hl := T.len
  refine wpAny_bind (listItems_at ho rfl ?_)
  refine wpAny_bind (listUpdate_at ho rfl ?_ (by rw [List.size_toArray, sizeLine_eq]; omega) (Nat.zero_le _))
  obtain ⟨e1, ho1⟩ : ∃ e1, (s.heap.update a (Obj.mapSeq fun _ => #[])).get? a = some (seqObj "list" #[] e1) := ⟨_, get?_update_seq ho (fun _ => #[])⟩
  refine wpAny_bind (seqEpoch_at ho1 rfl ?_)
  refine wpAny_bind (wpAny_newTuple ?_ (by show vs.length ≤ _; rw [sizeLine_eq]; omega))
  refine wpAny_bind (wpAny_newList ?_ (Nat.zero_le _))
  refine wpAny_holding ?_
  have ho6 : (((s.heap.update a (Obj.mapSeq fun _ => #[])).push (seqObj "tuple" vs.toArray 0)).push (seqObj "list" #[] 0)).get? a = some (seqObj "list" #[] e1) := Heap.get?_push_of_some _ (Heap.get?_push_of_some _ ho1)
  have T6 : TupsI (((s.heap.update a (Obj.mapSeq fun _ => #[])).push (seqObj "tuple" vs.toArray 0)).push (seqObj "list" #[] 0)) vs ps := T.keep fun b o e hc => by
    have nb : b ≠ a := fun z => by
      rw [z, ho] at e
      cases e
      exact absurd (show Value.type "list" = Value.type "tuple" from hc) (by decide)
    exact Heap.get?_push_of_some _ (Heap.get?_push_of_some _ ((Heap.get?_update_ne _ _ _ _ nb).trans e))
  show wpAny (model prog w) A _ P E { s with heap := ((s.heap.update a (Obj.mapSeq fun _ => #[])).push (seqObj "tuple" vs.toArray 0)).push (seqObj "list" #[] 0) }
  dsimp only
  by_cases h2 : vs.toArray.size < 2
  · rw [if_pos h2, if_pos h2]
    refine wpAny_bind (wpAny_pure ?_)
    rw [StateT.run_pure]
    refine wpAny_bind (wpAny_pure ?_)
    dsimp only
    refine wpAny_bind (seqEpoch_at ho6 rfl ?_)
    have hfin := h (List.range ps.length) (List.Perm.refl _) (by
      rw [List.size_toArray, hl] at h2
      refine List.pairwise_iff_getElem.mpr fun i j hi hj hij => ?_
      rw [List.length_map, List.length_range] at hj
      omega)
    rw [← hl, range_getD] at hfin
    have ez : ((vs.toArray.zip vs.toArray).map fun x => x.2) = vs.toArray := by
      apply Array.toList_inj.mp
      rw [Array.toList_map, Array.toList_zip]
      exact List.map_snd_zip (Nat.le_refl _)
    refine wpAny_bind (listUpdate_at ho6 rfl ?_ (Nat.zero_le _) (by show ((vs.toArray.zip vs.toArray).map fun x => x.2).size ≤ _; rw [ez, List.size_toArray, sizeLine_eq]; omega))
    simp only [bne_self_eq_false, Bool.false_eq_true, if_false]
    refine wpAny_pure ?_
    show P _ { s with heap := sortedHeap s.heap a vs ((vs.toArray.zip vs.toArray).map fun x => x.2) }
    rw [ez]
    exact hfin
  · rw [if_neg h2, if_neg h2]
    rw [List.size_toArray] at h2
    obtain ⟨fs, k1, k2, k3⟩ := T6.firsts
    refine wpAny_bind (kat_kind (T := .type "int") k1 (by omega) (fun v hv => ?_) rfl ?_)
    · obtain ⟨i, t, rfl⟩ := k3 v hv
      exact Looks.now
    refine wpAny_bind (wpAny_mono (run_pairs (s := { s with heap := ((s.heap.update a (Obj.mapSeq fun _ => #[])).push (seqObj "tuple" vs.toArray 0)).push (seqObj "list" #[] 0) }) T6 nd (by omega)) ?_ fun _ _ e => e)
    rintro ⟨⟨⟩, st'⟩ s' ⟨rfl, π, hp, hu, es, hf⟩
    dsimp only at es hf ⊢
    have hpl : π.length = ps.length := by rw [hp.length_eq, List.length_range]
    refine wpAny_bind (seqEpoch_at ho6 rfl ?_)
    refine wpAny_bind (listUpdate_at ho6 rfl ?_ (Nat.zero_le _) (by show ((arrOf st').map fun x => x.2).size ≤ _; rw [es, List.size_toArray, List.length_map, hpl, sizeLine_eq]; omega))
    rw [hf]
    simp only [bne_self_eq_false, Bool.false_eq_true, if_false]
    refine wpAny_pure ?_
    show P _ { s with heap := sortedHeap s.heap a vs ((arrOf st').map fun x => x.2) }
    rw [es]
    exact h π hp hu
end
section
variable {X : Cx}
end
end L2
namespace L2
open PySem PySem.W PySem.Spec PyProof.Rows
def pkey (p : Int × Int) : List Key := [.inl p.1, .inl p.2]
theorem pkey_inj {a b : Int × Int} (h : pkey a = pkey b) : a = b := by
  unfold pkey at h
  injection h with h1 h2
  injection h2 with h2
  injection h1 with h1
  injection h2 with h2
  exact Prod.ext h1 h2
section
variable {pg : Program} {wd : World} {d : Addr} {es : Array DictEntry} {ep : Nat}
theorem raw_walks {B : Around} (hB : B.handled = none) (it : Addr) (hne : d ≠ it) : Walks pg wd B it [it, d] [it] es.size (fun i v => ∃ e, es[i]? = some e ∧ v = e.key) (fun i h => h.IsKeyIter it d i es.size ep ∧ RawD h d es ep) where
  sub := fun b hb => by rw [List.mem_singleton.mp hb]; exact List.mem_cons_self
  frame := fun _ _ _ st hk => ⟨st.1.at fun o e => hk it List.mem_cons_self o e, st.2.at fun o e => hk d (List.mem_cons_of_mem _ List.mem_cons_self) o e⟩
  item := fun i s Q E hi st hQ => raw_item st.1 st.2 (Array.getElem?_eq_getElem hi) fun g a b => hQ _ g s.toks ⟨_, Array.getElem?_eq_getElem hi, rfl⟩ ⟨a, st.2.at fun o e => b.extBut d o hne e⟩ fun c o hc e => b.extBut c o (fun z => hc (by rw [z]; exact List.mem_cons_self)) e
  done := fun s Q E st hQ => raw_end hB st.1 st.2 (Nat.le_refl _) fun g a => hQ g s.toks fun c o hc e => a c o (fun z => hc (by rw [z]; exact List.mem_cons_self)) e
  self := fun _ _ _ _ st hQ => wpAny_pyIter_keyiter st.1 hQ
theorem raw_src (nd : (d == sysModules) = false) : KdlSrc pg wd "dict" d d es.size (fun i v => ∃ e, es[i]? = some e ∧ v = e.key) (fun h => RawD h d es ep) where
  type := fun _ r => r.ty
  there := fun _ r => ⟨r.lt, r.lt⟩
  keep := fun _ _ r k => r.at fun o e => k d (.inl rfl) o e
  notList := by decide
  notTuple := by decide
  hint := fun _ _ _ _ r q => kdl_hint_dict r.ty q
  iter := fun _ _ hB r => ⟨_, _, (fun _ _ q => raw_iter nd r q), raw_walks hB _ (Nat.ne_of_lt r.lt), ⟨⟨_, Heap.get?_push_size _ rfl, rfl, rfl⟩, r.at fun o e => Heap.get?_push_of_some _ e⟩⟩
end
theorem kt_keys {H : Hp} : ∀ {kvs : List (List Key × V)} {xs : List (List Key × Addr × Value)}, Paired (fun (p : List Key × V) (q : List Key × Addr × Value) => p.1 = q.1 ∧ H q.2.1 = some (.tup (p.1.map kV)) ∧ RelV p.2 q.2.2) kvs xs → xs.map (·.1) = kvs.map (·.1)
  | _, _, .nil => rfl
  | _, _, .cons a r => by rw [List.map_cons, List.map_cons, kt_keys r, a.1]
section
variable {X : Cx}
theorem dT_keys {P : Program} {w : World} {H : Hp} {h : Heap} {d : Addr} {o : Obj} {kvs : List (List Key × V)} {es : Array DictEntry} {ep : Nat} {ps : List (Int × Int)} (ok : ObjOk P w H h d (.dT kvs)) (ho : h.get? d = some o) (hd : o.data = .dict es ep) (hk : kvs.map (·.1) = ps.map pkey) :
    ∃ zs : List V, PrsV H zs ps ∧ ps.Nodup ∧ (∀ (i : Nat) (e : DictEntry) (z : V), es[i]? = some e → zs[i]? = some z → RelV z e.key) := by
  have hsz := dT_size ok ho hd
  have hlen : kvs.length = ps.length := by have := congrArg List.length hk; rwa [List.length_map, List.length_map] at this
  have hkv : ∀ i, i < ps.length → ∃ kv, kvs[i]? = some kv ∧ kv.1 = pkey (prAt ps i) := fun i hi => by
    have a1 : (kvs.map (·.1))[i]? = some (pkey (prAt ps i)) := by rw [hk, List.getElem?_map, pr_get hi]; rfl
    rw [List.getElem?_map, List.getElem?_eq_getElem (by omega)] at a1
    exact ⟨_, List.getElem?_eq_getElem (by omega), Option.some.inj a1⟩
  refine ⟨es.toList.map fun e => match e.key with | .ref b => V.ref b | _ => .non, ⟨by rw [List.length_map, Array.length_toList]; omega, fun i hi => ?_⟩, ?_, fun i e z he hz => ?_⟩
  · obtain ⟨kv, h1, h2⟩ := hkv i hi
    obtain ⟨b, u, g1, g2, g3⟩ := dT_entry ok ho hd h1
    refine ⟨b, ?_, ?_⟩
    · rw [List.getElem?_map, Array.getElem?_toList, g1]; rfl
    · rw [g2, h2]; rfl
  · obtain ⟨_, _, xs, r, _, _, _, _, _, _, _, h5⟩ := ok
    rw [kt_keys r, hk] at h5
    exact (List.pairwise_map.mp h5).imp fun {a b} h z => h (by rw [z])
  · rw [List.getElem?_map, Array.getElem?_toList, he] at hz
    cases hz
    have hi : i < ps.length := by
      have := (Array.getElem?_eq_some_iff.mp he).1
      omega
    obtain ⟨kv, h1, h2⟩ := hkv i hi
    obtain ⟨b, u, g1, g2, g3⟩ := dT_entry ok ho hd h1
    rw [g1] at he
    cases he
    rfl
theorem call_sortedDT (hc : X.calm = true) : CallR X (.builtin "sorted") (fun xs H Q => ∃ (d : Addr) (kvs : List (List Key × V)) (ps : List (Int × Int)), xs = [.ref d] ∧ H d = some (.dT kvs) ∧ kvs.map (·.1) = ps.map pkey ∧ ps.length < 1000000 ∧
    ∀ (l : Addr) (ys : List V) (qs : List (Int × Int)), qs.Perm ps → qs.Pairwise (fun a b => lexB a b = true) → PrsV H ys qs → H l = none → Q (.ref l) (upd H l (.lst ys))) := by
  intro pins s σ H xs us Q I r h
  obtain ⟨d, kvs, ps, rfl, hH, hk, hl, q⟩ := h
  obtain ⟨u, rfl, rx⟩ := vals1 r
  cases rx
  have ok := (show ObjOk X.prog X.w H s.heap d (.dT kvs) from I.hok d _ hH)
  obtain ⟨z, nd, _, _, o, es, ep, ho, hx, hd, _, _⟩ := id ok
  have hsz := dT_size ok ho hd
  have hlen : kvs.length = ps.length := by have := congrArg List.length hk; rwa [List.length_map, List.length_map] at this
  obtain ⟨zs, hP, ndp, hrel⟩ := dT_keys ok ho hd hk
  refine Calls.call_function_entry kind_sorted plain_sorted entry_sorted (args_sorted1 _) ?_
  unfold Builtin.«sorted»
  refine wpAny_bind (m := checkCount "sorted" 1 1 _) (wpAny_pure (wpAny_bind (gathered (raw_src (es := es) (ep := ep) nd) (I.ok.hd hc) ⟨o, ho, hx, hd⟩ (by rw [hsz, sizeLine_eq]; omega) fun h' tk acc hle0 hkp hacc => ?_)))
  have hzl := hP.1
  have hrv : Vals zs acc.toList := by
    refine vals_of (by rw [Array.length_toList, hacc.1]; omega) fun j x u hx hu => ?_
    obtain ⟨e, e1, e2⟩ := hacc.2 j u (by rw [← Array.getElem?_toList]; exact hu)
    rw [e2]
    exact hrel j e x e1 hx
  have T0 := tups_of I hrv hP
  have hal : acc.toList.length = ps.length := by rw [Array.length_toList, hacc.1]; omega
  refine wpAny_bind (wpAny_newList ?_ (by rw [sizeLine_eq]; omega))
  have hoL : (h'.push (seqObj "list" acc.toList.toArray 0)).get? h'.objs.size = some (seqObj "list" acc.toList.toArray 0) := Heap.get?_push_size _ rfl
  have hle : s.heap.objs.size ≤ h'.objs.size := Nat.le_of_lt hle0
  have keep : ∀ b o, s.heap.get? b = some o → (h'.push (seqObj "list" acc.toList.toArray 0)).get? b = some o := fun b o e => Heap.get?_push_of_some _ (hkp b o e)
  show wpAny _ _ _ _ _ { s with heap := h'.push (seqObj "list" acc.toList.toArray 0), toks := tk }
  refine wpAny_bind (wpAny_holding (wpAny_call_entry slot_list_sort ⟨_, hoL, rfl⟩ entry_list_sort (sort_pairsU (s := { s with heap := h'.push (seqObj "list" acc.toList.toArray 0), toks := tk }) hoL (T0.keep fun b o e _ => keep b o e) ndp (by omega) fun π a1 a2 => ⟨_, rfl, ?_⟩) (args_list_sort _)))
  obtain ⟨e, he⟩ := sortedHeap_at (out := List.toArray (π.map fun i => acc.toList.getD i Value.none)) hoL
  have hπ : ∀ i ∈ π, i < ps.length := fun i hi => List.mem_range.mp (a1.mem_iff.mp hi)
  have hpl : π.length = ps.length := by rw [a1.length_eq, List.length_range]
  have hperm : (π.map (prAt ps)).Perm ps := by
    have := a1.map (prAt ps)
    have e2 : (List.range ps.length).map (prAt ps) = ps := by
      refine List.ext_getElem? fun i => ?_
      rw [List.getElem?_map]
      by_cases h : i < ps.length
      · rw [List.getElem?_range h, pr_get h]
        rfl
      · rw [List.getElem?_eq_none (by rw [List.length_range]; omega), List.getElem?_eq_none (by omega)]
        rfl
    rw [e2] at this
    exact this
  refine wpAny_pure ⟨_, rfl, .ref _, _, I.laid (t' := tk) (o := .lst (π.map fun i => zs.getD i .non)) (fun b ob qq => ?_) hle ?_, rfl, q _ _ _ hperm a2 (hP.order hπ) (I.hok.fresh hle)⟩
  · have hb := hkp b ob qq
    have hlt := Heap.lt_size hb
    rw [sortedHeap_old (Nat.ne_of_lt hlt) (by rw [size_push']; exact Nat.lt_succ_of_lt hlt), Heap.get?_push_ne _ _ _ (Nat.ne_of_lt hlt)]
    exact hb
  · exact ⟨by rw [List.length_map, sizeLine_eq]; omega, π.map fun i => acc.toList.getD i Value.none, e, vals_getD hrv π (fun i hi => by have := hπ i hi; omega), he⟩
end
end L2
namespace L2
open PySem PySem.Spec PyProof.Rows PySem.W
abbrev ItmS (g : Heap) (it d : Addr) (i n ep : Nat) (own : Value) (f : Bool) (x y : Value) : Prop :=
  g.get? it = some { cls := .type "dict_itemiterator", dict := none, data := .fields #[own, .bool f, .ref d, .int i 0, .int n 0, .int ep 0, x, y], slots := #[] }
section
variable {pg : Program} {wd : World} {B : Around} {Fx : Value → Shared → Prop} {t : Shared} {d it vw : Addr} {es : Array DictEntry} {ep i : Nat} {x y : Value}
theorem raw_items (nd : (d == sysModules) = false) : MeetsIn pg wd (Builtin.«dict.items» ⟨[.ref d], []⟩) (fun _ R t => (∃ es ep, RawD t.heap d es ep) ∧ R (.ok (.ret (.ref t.heap.objs.size))) { t with heap := t.heap.push { cls := .type "dict_items", data := .fields #[.ref d] } }) :=
  .of_wp fun B R t ⟨⟨es, ep, r⟩, q⟩ => by
    unfold Builtin.«dict.items» Builtin.Dict.noArgs Builtin.Dict.showsAll
    refine wpAny_bind (wpAny_bind (wpAny_notOrdered_dict r.ty ?_)); show wpAny _ _ (pure d) _ _ t; refine wpAny_pure ?_
    show wpAny _ _ ((if (d == sysModules) = true then _ else _) >>= _) _ _ t
    rw [if_neg (by rw [nd]; decide)]; exact wpAny_bind (wpAny_pure (wpAny_bind (wpAny_newObj_type (wpAny_pure ⟨_, rfl, q⟩))))
theorem raw_itemsIter {R : Value → Shared → Prop} (hv : t.heap.IsItemsView vw d) (r : RawD t.heap d es ep)
    (q : R (.ref t.heap.objs.size) { t with heap := t.heap.push { cls := .type "dict_itemiterator", data := .fields #[.none, .bool false, .ref d, .int 0 0, .int es.size 0, .int ep 0, .none, .none] } }) : wpAny (model pg wd) B (pyIter (.ref vw)) R Fx t := by
  have ty := hv.typeIs
  obtain ⟨o, a1, a2, a3⟩ := id hv
  obtain ⟨od, e1, _, e3⟩ := r
  refine wpAny_pyIter_slot ty F.slot_dict_items_iter (wpAny_call_entry F.slot_dict_items_iter ty F.entry_dict_items_iter ?_ (F.args_dict_items_iter_1 _))
  unfold Builtin.«dict_items.__iter__» Builtin.Dict_items.dictOf Builtin.Dict_items.newIterator
  refine wpAny_bind (wpAny_pure (wpAny_bind (wpAny_bind (wpAny_field a1 a3 (x := .ref d) rfl (wpAny_pure (wpAny_bind (wpAny_bind (wpAny_dictEntries e1 e3 (wpAny_bind (wpAny_dictEpoch e1 e3 ?_))))))))))
  have own : Builtin.Dict_items.ownsTuple "dict_itemiterator" = true := by decide
  simp only [own, if_true]
  refine wpAny_newObj_type (wpAny_pure ⟨_, rfl, "dict_itemiterator", _, ⟨_, Heap.get?_push_size _ rfl, rfl⟩, F.slot_dict_itemiterator_next.lookup, ?_⟩) (by simp only [sizeOk, Builtin.Dict_items.ownedTupleFields, List.size_toArray, List.length_append, List.length_cons, List.length_nil, sizeLine_eq]; omega)
  simpa [rawInt, Builtin.Dict_items.ownedTupleFields] using q
theorem raw_itemsEnd {R : Option Value → Shared → Prop} {own : Value} {f : Bool} (hB : B.handled = none) (st : ItmS t.heap it d i es.size ep own f x y) (r : RawD t.heap d es ep) (hi : es.size ≤ i)
    (q : ∀ g, Heap.ExtBut it t.heap g → R none { t with heap := g }) : wpAny (model pg wd) B (pyNext (.ref it)) R Fx t := by
  obtain ⟨od, e1, _, e3⟩ := r
  have ty : t.TypeIs (.ref it) "dict_itemiterator" := ⟨_, st, rfl⟩
  unfold pyNext; refine wpAny_bind (wpAny_attempt (wpAny_callSpecial?_slot (name := Str.ofString "__next__") ty F.slot_dict_itemiterator_next (wpAny_call_entry F.slot_dict_itemiterator_next ty F.entry_dict_itemiterator_next ?_ (F.args_dict_itemiterator_next_1 _))))
  refine wpAny_bind (wpAny_pure (wpAny_bind (wpAny_bind ?_)))
  first | refine wpAny_bind (wpAny_typeNameOfWhole_itemiter ty (wpAny_pure (wpAny_bind (wpAny_fieldsOf st rfl ?_)))) | refine wpAny_bind (wpAny_typeNameOf_itemiter ty (wpAny_pure (wpAny_bind (wpAny_fieldsOf st rfl ?_))))
  have yes : Builtin.Dict_items.ownsTuple "dict_itemiterator" = true := by decide
  simp only [yes, if_true]
  show wpAny _ _ (if (Value.ref d == Value.none) = true then _ else _) _ _ t
  rw [if_neg (show ¬ (Value.ref d == Value.none) = true by exact Bool.false_ne_true)]; refine wpAny_bind (wpAny_pure (wpAny_bind (wpAny_dictEntries e1 e3 ?_)))
  rw [if_neg (by simp)]; refine wpAny_bind (wpAny_pure (wpAny_bind (wpAny_dictEpoch e1 e3 ?_)))
  rw [if_neg (by simp)]; refine wpAny_pure ?_
  simp only [show ¬ ((i : Int) < 0) from by omega, if_false, Int.toNat_natCast, Array.getElem?_eq_none hi]
  refine wpAny_bind ?_
  first | refine wpAny_bind (wpAny_typeNameOfWhole_itemiter ty (wpAny_pure ?_)) | refine wpAny_bind (wpAny_typeNameOf_itemiter ty (wpAny_pure ?_))
  show wpAny _ _ (setField (.ref it) 2 .none >>= _) _ _ t; refine wpAny_bind (wpAny_setField st rfl (by simp) ?_)
  show wpAny _ _ (newExc (.type "StopIteration") [] >>= _) _ _ _; refine wpAny_bind ?_
  simp only [newExc, newTuple]; refine wpAny_bind (wpAny_newObj_type ?_ (by size_fits))
  refine wpAny_bind (m := firstArgMember _ _) (wpAny_of_eq (a := Value.none) (by first | rfl | (simp only [firstArgMember]; rfl)) (wpAny_newObj_type ?_ (by size_fits)))
  simp only [raiseNew]; refine wpAny_bind (wpAny_handled ?_)
  rw [show B.in1.handled = none from hB]; refine wpAny_bind (wpAny_pure (wpAny_throw ?_))
  exact wpAny_bind (wpAny_isInstance (T := "StopIteration") (b := true) ⟨_, Heap.get?_push_size _ rfl, rfl⟩ isSubtype_stop (wpAny_pure (q _ (((Heap.SameBut.update ..).extBut.push _).push _))))
theorem raw_itemsTo {R : Option Value → Shared → Prop} {own : Value} {f : Bool} {e : DictEntry} (st : ItmS t.heap it d i es.size ep own f x y) (r : RawD t.heap d es ep) (he : es[i]? = some e)
    (q : ∀ g, ItmS g it d (i + 1) es.size ep own f x y → Heap.SameBut it t.heap g → wpAny (model pg wd) B.in1 (Builtin.Dict_items.pairFromOwner (.ref it) 6 e.key e.val) (fun v s2 => R (some v) s2) (fun _ _ => False) { t with heap := g }) : wpAny (model pg wd) B (pyNext (.ref it)) R Fx t := by
  obtain ⟨od, e1, _, e3⟩ := r
  have ty : t.TypeIs (.ref it) "dict_itemiterator" := ⟨_, st, rfl⟩
  unfold pyNext; refine wpAny_bind (wpAny_attempt (wpAny_callSpecial?_slot (name := Str.ofString "__next__") ty F.slot_dict_itemiterator_next (wpAny_call_entry F.slot_dict_itemiterator_next ty F.entry_dict_itemiterator_next ?_ (F.args_dict_itemiterator_next_1 _))))
  refine wpAny_bind (wpAny_pure (wpAny_bind (wpAny_bind ?_)))
  first | refine wpAny_bind (wpAny_typeNameOfWhole_itemiter ty (wpAny_pure (wpAny_bind (wpAny_fieldsOf st rfl ?_)))) | refine wpAny_bind (wpAny_typeNameOf_itemiter ty (wpAny_pure (wpAny_bind (wpAny_fieldsOf st rfl ?_))))
  have yes : Builtin.Dict_items.ownsTuple "dict_itemiterator" = true := by decide
  simp only [yes, if_true]
  show wpAny _ _ (if (Value.ref d == Value.none) = true then _ else _) _ _ t
  rw [if_neg (show ¬ (Value.ref d == Value.none) = true by exact Bool.false_ne_true)]; refine wpAny_bind (wpAny_pure (wpAny_bind (wpAny_dictEntries e1 e3 ?_)))
  rw [if_neg (by simp)]; refine wpAny_bind (wpAny_pure (wpAny_bind (wpAny_dictEpoch e1 e3 ?_)))
  rw [if_neg (by simp)]; refine wpAny_pure ?_
  simp only [show ¬ ((i : Int) < 0) from by omega, if_false, Int.toNat_natCast, he]
  refine wpAny_bind ?_
  first | refine wpAny_bind (wpAny_typeNameOfWhole_itemiter ty (wpAny_pure (wpAny_bind (wpAny_isOneOf_itemiter ty ?_)))) | refine wpAny_bind (wpAny_typeNameOf_itemiter ty (wpAny_pure (wpAny_bind (wpAny_isOneOf_itemiter ty ?_))))
  show wpAny _ _ (setField (.ref it) 3 (rawInt ((i : Int) + 1)) >>= _) _ _ t
  refine wpAny_bind (wpAny_setField_rec st (by simp) fun g1 k1 k2 => ?_)
  have k1' : ItmS g1 it d (i + 1) es.size ep own f x y := by
    have ei : ((i + 1 : Nat) : Int) = (i : Int) + 1 := by omega
    unfold ItmS; rw [ei]; simpa [rawInt] using k1
  have ty1 : Shared.TypeIs { t with heap := g1 } (.ref it) "dict_itemiterator" := ⟨_, k1', rfl⟩
  refine wpAny_bind (wpAny_holding (wpAny_bind (wpAny_isOneOf_itemiter ty1 (wpAny_bind (wpAny_isOneOf_itemiter ty1 ?_)))))
  show wpAny _ _ (Builtin.Dict_items.pairFromOwner (.ref it) 6 e.key e.val) _ _ { t with heap := g1 }
  exact wpAny_mono (q g1 k1' k2) (fun v s2 z => wpAny_pure ⟨_, rfl, wpAny_pure z⟩) fun _ _ z => z.elim
theorem raw_itemsFree {R : Option Value → Shared → Prop} {e : DictEntry} (st : ItmS t.heap it d i es.size ep .none false x y) (r : RawD t.heap d es ep) (he : es[i]? = some e)
    (q : ∀ g, ItmS g it d (i + 1) es.size ep (rawInt t.heap.objs.size) false e.key e.val → g.get? t.heap.objs.size = some { cls := .type "tuple", data := .seq #[e.key, e.val] } → g.objs.size = t.heap.objs.size + 1 → (∀ b o, b ≠ it → t.heap.get? b = some o → g.get? b = some o) → R (some (.ref t.heap.objs.size)) { t with heap := g }) : wpAny (model pg wd) B (pyNext (.ref it)) R Fx t := by
  have hil : it < t.heap.objs.size := Heap.lt_size st
  refine raw_itemsTo st r he fun g1 a1 a2 => ?_
  have z1 : g1.objs.size = t.heap.objs.size := a2.1
  unfold Builtin.Dict_items.pairFromOwner
  refine wpAny_bind (wpAny_newTuple ?_)
  have b1 : ItmS (g1.push { cls := .type "tuple", data := .seq #[e.key, e.val] }) it d (i + 1) es.size ep .none false x y := Heap.get?_push_of_some _ a1
  have b2 : (g1.push { cls := .type "tuple", data := .seq #[e.key, e.val] }).get? t.heap.objs.size = some { cls := .type "tuple", data := .seq #[e.key, e.val] } := by rw [← z1]; exact Heap.get?_push_size _ rfl
  have b3 : (g1.push { cls := .type "tuple", data := .seq #[e.key, e.val] }).objs.size = t.heap.objs.size + 1 := by rw [Heap.size_push, z1]
  have b4 : ∀ b o, b ≠ it → t.heap.get? b = some o → (g1.push { cls := .type "tuple", data := .seq #[e.key, e.val] }).get? b = some o := fun b o hb k => Heap.get?_push_of_some _ (a2.extBut b o hb k)
  show wpAny _ _ (Builtin.Dict_items.ownedTupleIsFree (.ref it) >>= _) _ _ { t with heap := g1.push { cls := .type "tuple", data := .seq #[e.key, e.val] } }
  rw [z1]
  generalize g1.push { cls := .type "tuple", data := .seq #[e.key, e.val] } = g2 at b1 b2 b3 b4
  clear a1 a2 z1
  unfold Builtin.Dict_items.ownedTupleIsFree
  refine wpAny_bind (wpAny_bind (wpAny_field b1 rfl (x := .none) rfl (wpAny_pure ?_)))
  simp only [if_true]
  refine wpAny_bind (wpAny_field b1 rfl (x := x) rfl (wpAny_bind (wpAny_field b1 rfl (x := y) rfl (wpAny_bind (wpAny_setField_rec b1 (by simp) fun g3 c1 c2 => ?_)))))
  have c1' : ItmS g3 it d (i + 1) es.size ep .none false e.key y := c1
  refine wpAny_bind (wpAny_setField_rec c1' (by simp) fun g4 d1 d2 => ?_)
  have d1' : ItmS g4 it d (i + 1) es.size ep .none false e.key e.val := d1
  refine wpAny_bind (wpAny_setField_rec d1' (by simp) fun g5 f1 f2 => ?_)
  have f1' : ItmS g5 it d (i + 1) es.size ep (rawInt t.heap.objs.size) false e.key e.val := f1
  refine wpAny_bind (wpAny_setField_rec f1' (by simp) fun g6 h1 h2 => ?_)
  have h1' : ItmS g6 it d (i + 1) es.size ep (rawInt t.heap.objs.size) false e.key e.val := h1
  have c2 : Heap.SameBut it g2 g3 := c2
  have d2 : Heap.SameBut it g3 g4 := d2
  have f2 : Heap.SameBut it g4 g5 := f2
  have h2 : Heap.SameBut it g5 g6 := h2
  have up : ∀ b o, b ≠ it → g2.get? b = some o → g6.get? b = some o := fun b o hb k => h2.extBut b o hb (f2.extBut b o hb (d2.extBut b o hb (c2.extBut b o hb k)))
  refine wpAny_bind (wpAny_letGo (wpAny_pure (q g6 h1' (up _ _ (Nat.ne_of_gt hil) b2) ?_ fun b o hb k => up b o hb (b4 b o hb k))))
  rw [h2.1, f2.1, d2.1, c2.1, b3]
theorem raw_itemsOut {R : Option Value → Shared → Prop} {e : DictEntry} {a : Addr} {oa : Obj} {f : Bool} (st : ItmS t.heap it d i es.size ep (rawInt a) f x y) (ha : t.heap.get? a = some oa) (hai : a ≠ it) (r : RawD t.heap d es ep) (he : es[i]? = some e)
    (q : ∀ g, ItmS g it d (i + 1) es.size ep (rawInt a) true x y → g.get? t.heap.objs.size = some { cls := .type "tuple", data := .seq #[e.key, e.val] } → g.objs.size = t.heap.objs.size + 1 → (∀ b o, b ≠ it → t.heap.get? b = some o → g.get? b = some o) → R (some (.ref t.heap.objs.size)) { t with heap := g }) : wpAny (model pg wd) B (pyNext (.ref it)) R Fx t := by
  have hil : it < t.heap.objs.size := Heap.lt_size st
  refine raw_itemsTo st r he fun g1 a1 a2 => ?_
  have z1 : g1.objs.size = t.heap.objs.size := a2.1
  unfold Builtin.Dict_items.pairFromOwner
  refine wpAny_bind (wpAny_newTuple ?_)
  have b1 : ItmS (g1.push { cls := .type "tuple", data := .seq #[e.key, e.val] }) it d (i + 1) es.size ep (rawInt a) f x y := Heap.get?_push_of_some _ a1
  have b2 : (g1.push { cls := .type "tuple", data := .seq #[e.key, e.val] }).get? t.heap.objs.size = some { cls := .type "tuple", data := .seq #[e.key, e.val] } := by rw [← z1]; exact Heap.get?_push_size _ rfl
  have b3 : (g1.push { cls := .type "tuple", data := .seq #[e.key, e.val] }).objs.size = t.heap.objs.size + 1 := by rw [Heap.size_push, z1]
  have b4 : ∀ b o, b ≠ it → t.heap.get? b = some o → (g1.push { cls := .type "tuple", data := .seq #[e.key, e.val] }).get? b = some o := fun b o hb k => Heap.get?_push_of_some _ (a2.extBut b o hb k)
  show wpAny _ _ (Builtin.Dict_items.ownedTupleIsFree (.ref it) >>= _) _ _ { t with heap := g1.push { cls := .type "tuple", data := .seq #[e.key, e.val] } }
  rw [z1]
  generalize g1.push { cls := .type "tuple", data := .seq #[e.key, e.val] } = g2 at b1 b2 b3 b4
  clear a1 a2 z1
  unfold Builtin.Dict_items.ownedTupleIsFree
  refine wpAny_bind (wpAny_bind (wpAny_field b1 rfl (x := rawInt a) rfl ?_))
  show wpAny _ _ (loadIfAlive ((a : Int).toNat) >>= _) _ _ _
  rw [Int.toNat_natCast]
  refine wpAny_bind (kdx_alive (b4 a oa hai ha) ?_)
  simp only [Option.isNone_some, Bool.false_eq_true, if_false]; refine wpAny_bind (wpAny_field b1 rfl (x := .bool f) rfl ?_)
  cases f with
  | true =>
    rw [if_neg (show ¬ (Value.bool true != Value.bool true) = true by decide)]; refine wpAny_pure ?_
    simp only [Bool.false_eq_true, if_false]
    exact wpAny_pure (q g2 b1 b2 b3 b4)
  | false =>
    rw [if_pos (show (Value.bool false != Value.bool true) = true by decide)]; refine wpAny_bind (wpAny_setField_rec b1 (by simp) fun g3 c1 c2 => ?_)
    have c1' : ItmS g3 it d (i + 1) es.size ep (rawInt a) true x y := c1
    have c2 : Heap.SameBut it g2 g3 := c2
    refine wpAny_pure ?_
    simp only [Bool.false_eq_true, if_false]
    exact wpAny_pure (q g3 c1' (c2.extBut _ _ (Nat.ne_of_gt hil) b2) (by rw [c2.1, b3]) fun b o hb k => c2.extBut b o hb (b4 b o hb k))
end
end L2
namespace L2
open PySem PySem.Spec PyProof.Rows PySem.W
def lenU : HO → Nat
  | .dT kvs => kvs.length
  | .dK kvs => kvs.length
  | _ => 0
def IsDU (u : HO) : Prop := (∃ kvs, u = .dT kvs) ∨ ∃ kvs, u = .dK kvs
def ItmAt (u : HO) (H : Hp) (i : Nat) (kx vx : V) : Prop := match u with
  | .dT kvs => ∃ kv b, kvs[i]? = some kv ∧ kx = .ref b ∧ H b = some (.tup (kv.1.map kV)) ∧ vx = kv.2
  | .dK kvs => ∃ kv, kvs[i]? = some kv ∧ kx = kV kv.1 ∧ vx = kv.2
  | _ => False
theorem IsDU.own {u : HO} (h : IsDU u) : ∀ x, u ≠ .own x := fun x z => by rcases h with ⟨k, e⟩ | ⟨k, e⟩ <;> rw [e] at z <;> cases z
theorem IsDU.raw {P : Program} {w : World} {H : Hp} {h : Heap} {d : Addr} {u : HO} (hu : IsDU u) (ok : ObjOk P w H h d u) : (d == sysModules) = false ∧ ∃ es ep, RawD h d es ep := by
  rcases hu with ⟨kvs, rfl⟩ | ⟨kvs, rfl⟩
  · obtain ⟨_, nd, xs, r, o, es, ep, h1, h2, h3, _⟩ := ok
    exact ⟨nd, es, ep, o, h1, h2, h3⟩
  · obtain ⟨_, nd, vs, r, o, es, ep, h1, h2, h3, _⟩ := ok
    exact ⟨nd, es, ep, o, h1, h2, h3⟩
theorem ent_size {P : Program} {w : World} {H : Hp} {h : Heap} {d : Addr} {o : Obj} {u : HO} {es : Array DictEntry} {ep : Nat} (hu : IsDU u) (ok : ObjOk P w H h d u) (ho : h.get? d = some o) (hd : o.data = .dict es ep) : es.size = lenU u := by
  rcases hu with ⟨kvs, rfl⟩ | ⟨kvs, rfl⟩
  · exact dT_size ok ho hd
  · obtain ⟨_, _, vs, r, o2, es2, ep2, h1, h2, h3, h4, h5, h6⟩ := ok
    have e1 : o2 = o := Option.some.inj (h1.symm.trans ho)
    subst e1
    rw [hd] at h3
    have e2 : es = es2 := by injection h3
    subst e2
    rw [← Array.length_toList, h5.length]
    exact r.length.symm
theorem ent_at {P : Program} {w : World} {H : Hp} {h : Heap} {d : Addr} {o : Obj} {u : HO} {es : Array DictEntry} {ep i : Nat} (hu : IsDU u) (ok : ObjOk P w H h d u) (ho : h.get? d = some o) (hd : o.data = .dict es ep) (hi : i < lenU u) :
    ∃ (e : DictEntry) (kx vx : V), es[i]? = some e ∧ ItmAt u H i kx vx ∧ RelV kx e.key ∧ RelV vx e.val := by
  rcases hu with ⟨kvs, rfl⟩ | ⟨kvs, rfl⟩
  · have hi : i < kvs.length := hi
    obtain ⟨b, v, g1, g2, g3⟩ := dT_entry ok ho hd (List.getElem?_eq_getElem hi)
    exact ⟨_, .ref b, _, g1, ⟨kvs[i], b, List.getElem?_eq_getElem hi, rfl, g2, rfl⟩, rfl, g3⟩
  · have hi : i < kvs.length := hi
    obtain ⟨_, _, vs, r, o2, es2, ep2, h1, h2, h3, h4, h5, h6⟩ := ok
    have e1 : o2 = o := Option.some.inj (h1.symm.trans ho)
    subst e1
    rw [hd] at h3
    have e2 : es = es2 := by injection h3
    subst e2
    have hl := r.length
    have hl2 := h5.length
    rw [Array.length_toList] at hl2
    have hes : es[i]? = some (es[i]'(by omega)) := Array.getElem?_eq_getElem _
    obtain ⟨q, hq, f1, f2⟩ := paired_at r (List.getElem?_eq_getElem hi)
    obtain ⟨g1, g2⟩ := h5.get? (i := i) (e := es[i]'(by omega)) (k := q.1) (v := q.2) (by rw [Array.getElem?_toList]; exact hes) hq
    refine ⟨_, kV kvs[i].1, kvs[i].2, hes, ⟨kvs[i], List.getElem?_eq_getElem hi, rfl, rfl⟩, ?_, ?_⟩
    · rw [f1]; exact rel_kV g1
    · rw [g2]; exact f2
def ItI (d : Addr) (o : Obj) (u : HO) : It :=
  ⟨fun i H => H d = some (.frz o u) ∧ i < lenU u, fun i H x H' => ∃ (T : Addr) (kx vx : V), x = .ref T ∧ H T = none ∧ H' = upd H T (.tup [kx, vx]) ∧ ItmAt u H i kx vx, fun i H => H d = some (.frz o u) ∧ lenU u ≤ i⟩
theorem turn_items {P : Program} {w : World} {K : PySem.W.Frag} {elts : List Expr} {k : Nat} {pos : Pos} (d it : Addr) (o : Obj) (u : HO) (es : Array DictEntry) (ep : Nat) (hu : IsDU u) (hx : o.ExactDict) (hd : o.data = .dict es ep) (hn : es.size = lenU u) :
    Turn P w K (.Tuple elts k pos) (ItI d o u) [it] it (fun i h => ∃ x y, ItmS h it d i es.size ep .none false x y) where
  mem := List.mem_singleton.mpr rfl
  obj := fun i h st b hb => by
    obtain rfl := List.mem_singleton.mp hb
    obtain ⟨x, y, e⟩ := st
    exact ⟨_, e, fun v z => by cases z⟩
  keep := fun i h h' st kk => by
    obtain ⟨x, y, e⟩ := st
    exact ⟨x, y, kk it (List.mem_singleton.mpr rfl) _ e⟩
  item := by
    intro X hP hw hK hc i pins s σ H E I hf st hg
    subst hP hw hK
    obtain ⟨hH, hi⟩ := hg
    obtain ⟨x, y, st⟩ := st
    obtain ⟨ho, ok⟩ := (show ObjOk X.prog X.w H s.heap d (.frz o u) from I.hok d _ hH)
    obtain ⟨e, kx, vx, g1, g2, g3, g4⟩ := ent_at hu ok ho hd hi
    refine raw_itemsFree st ⟨o, ho, hx, hd⟩ g1 fun h' a1 a2 a3 a4 => ⟨_, rfl, ?_⟩
    have hk : ∀ b ob, b ∉ [it] → s.heap.get? b = some ob → h'.get? b = some ob := fun b ob hb => a4 b ob fun z => hb (List.mem_singleton.mpr z)
    have I1 : Inv X pins σ (upd H s.heap.objs.size (.tup [kx, vx])) { s with heap := h' } :=
      I.turnedT (t' := s.toks) hk hf (Nat.le_refl _) ⟨by show 2 ≤ sizeLine; decide, [e.key, e.val], .cons g3 (.cons g4 .nil), _, a2, rfl, _, rfl⟩
    have hnT : it ≠ s.heap.objs.size := Nat.ne_of_lt (Heap.lt_size st)
    refine wpAny_letOwnedTupleGo_items a1 fun h2 b1 b2 => ?_
    have hf2 : ∀ b ∈ [it], FpOk X pins (upd H s.heap.objs.size (.tup [kx, vx])) b := fun b hb => ⟨by rw [upd_ne (by rw [List.mem_singleton.mp hb]; exact hnT)]; exact (hf b hb).1, (hf b hb).2⟩
    exact ⟨.ref s.heap.objs.size, _, I1.turnedL (h' := h2) (t' := s.toks) (fun b ob hb e => (b2.2 b fun z => hb (List.mem_singleton.mpr z)).trans e) hf2, rfl, ⟨_, kx, vx, rfl, I.hok.fresh (Nat.le_refl _), rfl, g2⟩, ⟨_, _, b1⟩, fun b hb => (hf2 b hb).1⟩
  done := by
    intro X hP hw hK hc i pins s σ H E I hf st hg
    subst hP hw hK
    obtain ⟨hH, hi⟩ := hg
    obtain ⟨x, y, st⟩ := st
    obtain ⟨ho, _⟩ := (show ObjOk X.prog X.w H s.heap d (.frz o u) from I.hok d _ hH)
    exact raw_itemsEnd (I.ok.hd hc) st ⟨o, ho, hx, hd⟩ (by omega) fun h' eb => ⟨rfl, I.turnedL (t' := s.toks) (fun b ob hb e => eb b ob (fun z => hb (List.mem_singleton.mpr z)) e) hf⟩
  self := fun _ _ _ _ _ ⟨_, _, st⟩ h => kcp_self st h
section
variable {X : Cx}
def vwO (d vw : Addr) : HO := .ext fun h => h.IsItemsView vw d
theorem mt_items : MtR X "dict.items" (fun x vs H Q => ∃ (d : Addr) (u : HO), x = .ref d ∧ vs = [] ∧ H d = some u ∧ IsDU u ∧ ∀ vw, H vw = none → Q (.ref vw) (upd H vw (vwO d vw))) := by
  intro pins s σ H x xs v us Q I rx rs h
  obtain ⟨d, u, rfl, rfl, hH, hu, q⟩ := h
  cases rx
  cases rs
  obtain ⟨nd, es, ep, r⟩ := hu.raw (I.hok d _ hH)
  refine call_meetsIn PySem.F.slot_dict_items r.ty PySem.F.entry_dict_items (PySem.F.args_dict_items_1 _) (raw_items nd) ⟨⟨es, ep, r⟩, ?_⟩
  exact ⟨.ref s.heap.objs.size, _, I.laid (a := s.heap.objs.size) (o := vwO d s.heap.objs.size) (t' := s.toks) (fun _ _ q => Heap.get?_push_of_some _ q) (Nat.le_refl _) ⟨⟨_, Heap.get?_push_size _ rfl, rfl, rfl⟩, ⟨_, Heap.get?_push_size _ rfl⟩, fun h1 h2 ⟨o, a, b⟩ k => ⟨o, k o a, b⟩⟩, rfl, q _ (I.hok.fresh (Nat.le_refl _))⟩
def iItems (tl : TE) : TI := fun σ H R => tl σ H fun x H1 => ∃ (vw d : Addr) (u : HO), x = .ref vw ∧ H1 vw = some (vwO d vw) ∧ H1 d = some u ∧ IsDU u ∧ ∀ o, R (ItI d o u) (upd H1 d (.frz o u))
theorem pi_items {elts : List Expr} {k : Nat} {tp : Pos} {l : Expr} {tl : TE} (hl : PE X l tl) : PI X (.Tuple elts k tp) l (iItems tl) := by
  intro pins s σ H R I h
  refine thn (hl pins s σ H _ I h) fun v s1 h1 => ?_
  obtain ⟨x, H1, I1, r1, vw, d, u, e, hv, hq, hu, q⟩ := h1
  subst e
  cases r1
  have ok := I1.hok d _ hq
  obtain ⟨view, _⟩ := (show ObjOk X.prog X.w H1 s1.heap vw (vwO d vw) from I1.hok vw _ hv)
  obtain ⟨nd, es, ep, o, ho, hx, hd⟩ := hu.raw ok
  have hn := ent_size hu ok ho hd
  have nt : ∀ b ys, H1 b = some (.tup ys) → b ≠ d := fun b ys e z => by rw [z, hq] at e; cases e; rcases hu with ⟨_, z⟩ | ⟨_, z⟩ <;> cases z
  have no : ∀ b y, H1 b = some (.own y) → b ≠ d := fun b y e z => by rw [z, hq] at e; cases e; exact hu.own y rfl
  have I2 : Inv X pins σ (upd H1 d (.frz o u)) s1 := I1.write (x := d) (e := d) (o := .frz o u) (t' := s1.toks) (by rw [hq]; rcases hu with ⟨_, rfl⟩ | ⟨_, rfl⟩ <;> exact True.intro) (.inl rfl) (fun b u _ e => e) ⟨o, ho⟩ ⟨ho, ok.stay (fun b u _ e => e) (fun b e => by rw [upd_ne (no b _ e)]; exact e) (fun b ys e => by rw [upd_ne (nt b ys e)]; exact e)⟩
  refine raw_itemsIter view ⟨o, ho, hx, hd⟩ ?_
  refine ⟨s1.heap.objs.size, [s1.heap.objs.size], _, _, upd H1 d (.frz o u), rfl, I2.kept (t' := s1.toks) fun b o e => Heap.get?_push_of_some _ e, turn_items d _ o u es ep hu hx hd hn, ⟨_, _, Heap.get?_push_size _ rfl⟩, fun b hb => ?_, q o⟩
  obtain rfl := List.mem_singleton.mp hb
  exact I2.fpOk (Nat.le_refl _) (I2.hok.fresh (Nat.le_refl _))
theorem comp_items {K : PySem.W.Frag} {d : Addr} {o : Obj} {u : HO} {σ : St} {ix : List Nat} {tt : TT} {te : TE} {H : Hp} {Z : List V → Hp → Prop} (hl : lenU u ≤ sizeLine) (Pv : Nat → List V → Hp → Prop) (h0 : Pv 0 [] H) (hk : ∀ i ys H, Pv i ys H → H d = some (.frz o u))
    (hs : ∀ i T kx vx ys H (N : List V → Hp → Prop), i < lenU u → ItmAt u H i kx vx → H T = none → ys.length ≤ i → Pv i ys H → (∀ ys' H', ys'.length ≤ i + 1 → Pv (i + 1) ys' H' → N ys' H') →
      tt (cstV [kx, vx] ix σ) (upd H T (.tup [kx, vx])) fun b H4 => if b = true then te (cstV [kx, vx] ix σ) H4 fun v H5 => N (ys ++ [v]) H5 else N ys H4)
    (hd : ∀ ys H, ys.length ≤ lenU u → Pv (lenU u) ys H → Z ys H) :
    ∃ W : Nat → Nat → List V → Hp → Prop, (∃ m, W 0 m [] H) ∧ ∀ i m ys H2, W i m ys H2 →
      ((ItI d o u).stop i H2 ∧ ys.length ≤ sizeLine ∧ Z ys H2) ∨
      ((ItI d o u).go i H2 ∧ ys.length ≤ sizeLine ∧ ∀ x H3, (ItI d o u).yld i H2 x H3 → ∃ (a : Addr) (vs : List V), x = .ref a ∧ SqT K H3 a vs ∧ vs.length = 2 ∧ tt (cstV vs ix σ) H3 fun b H4 =>
        if b = true then te (cstV vs ix σ) H4 fun v H5 => ∃ m', m' < m ∧ W (i + 1) m' (ys ++ [v]) H5 else ∃ m', m' < m ∧ W (i + 1) m' ys H4) := by
  refine ⟨fun i m ys H => m = lenU u - i ∧ i ≤ lenU u ∧ ys.length ≤ i ∧ Pv i ys H, ⟨lenU u, by simp, Nat.zero_le _, Nat.le_refl _, h0⟩, ?_⟩
  rintro i m ys H ⟨rfl, hi, hy, p⟩
  have q := hk i ys H p
  by_cases hlt : i < lenU u
  · refine .inr ⟨⟨q, hlt⟩, by omega, fun x H' y => ?_⟩
    obtain ⟨T, kx, vx, y1, y2, y3, y4⟩ := y
    subst y1 y3
    exact ⟨T, _, rfl, SqT.of upd_same, rfl, hs i T kx vx ys _ (fun ys' H5 => ∃ m', m' < lenU u - i ∧ m' = lenU u - (i + 1) ∧ i + 1 ≤ lenU u ∧ ys'.length ≤ i + 1 ∧ Pv (i + 1) ys' H5) hlt y4 y2 hy p fun ys' H' h1 h2 => ⟨lenU u - (i + 1), by omega, rfl, hlt, h1, h2⟩⟩
  · have e : i = lenU u := by omega
    rw [e] at p hy ⊢
    exact .inl ⟨⟨q, Nat.le_refl _⟩, by omega, hd ys H hy p⟩
end
end L2
namespace L2
open PySem PySem.W PySem.Spec PyProof.Rows
section
variable {prog : Program} {w : World} {A : Around} {E : Value → Shared → Prop} {s : Shared}
theorem lt_two {x y : Addr} {ox oy : Obj} {p q : Int × Int} {t u t' u' : Tok} {n n' : Nat} {Q : Value → Shared → Prop} (hu : A.units < cLine) (hx : s.heap.get? x = some ox) (cx : ox.cls = .type "tuple") (dx : ox.data = .seq #[.int p.1 t, .int p.2 u] n) (hy : s.heap.get? y = some oy) (cy : oy.cls = .type "tuple") (dy : oy.data = .seq #[.int q.1 t', .int q.2 u'] n')
    (h : Q (.bool (lexB p q)) s) : wpAny (model prog w) A (compareOp .Lt (.ref x) (.ref y)) Q E s := by
  have tx : s.TypeIs (.ref x) "tuple" := ⟨ox, hx, cx⟩
  have ty : s.TypeIs (.ref y) "tuple" := ⟨oy, hy, cy⟩
  refine wpAny_richCompare_same_room (op := .Lt) tx ty F.slot_tuple_lt (wpAny_call_entry F.slot_tuple_lt tx F.entry_tuple_lt ?_ (F.args_tuple_lt_2 _ _)) hu
  show wpAny _ _ (isInstance (.ref y) (.type "tuple") >>= _) _ _ s
  refine wpAny_bind (wpAny_isInstance ty isSubtype_tuple_tuple ?_)
  simp only [Bool.not_true, Bool.false_eq_true, if_false]; refine wpAny_bind (wpAny_tupleItemsOf hx dx (wpAny_bind (wpAny_tupleItemsOf hy dy (wpAny_bind ?_))))
  show wpAny _ _ (forIn [(Value.int p.1 t, Value.int q.1 t'), (Value.int p.2 u, Value.int q.2 u')] _ _) _ _ s
  rw [List.forIn_cons]
  refine wpAny_bind (wpAny_bind (wpAny_eqBool_int ?_))
  cases c1 : p.1 == q.1 with
  | false =>
    have n1 : p.1 ≠ q.1 := fun z => by rw [z, beq_self_eq_true] at c1; cases c1
    have e : lexB p q = decide (p.1 < q.1) := by unfold lexB; rw [decide_eq_false n1, Bool.false_and, Bool.or_false]
    rw [e] at h
    simp only [Bool.not_false, if_true]
    refine wpAny_bind (wpAny_rule (wpAny_bind (PyProof.Rows.lt_int ?_)))
    exact wpAny_bind (wpAny_pure (wpAny_pure (wpAny_pure (wpAny_pure ⟨_, rfl, (fun z => nomatch z), h⟩))))
  | true =>
    have n1 : p.1 = q.1 := eq_of_beq c1
    have e : lexB p q = decide (p.2 < q.2) := by unfold lexB; rw [decide_eq_false (show ¬ p.1 < q.1 by omega), decide_eq_true n1, Bool.false_or, Bool.true_and]
    rw [e] at h
    simp only [Bool.not_true, Bool.false_eq_true, if_false]
    refine wpAny_pure ?_
    dsimp only
    rw [List.forIn_cons]
    refine wpAny_bind (wpAny_bind (wpAny_eqBool_int ?_))
    cases c2 : p.2 == q.2 with
    | false =>
      simp only [Bool.not_false, if_true]
      refine wpAny_bind (wpAny_rule (wpAny_bind (PyProof.Rows.lt_int ?_)))
      exact wpAny_bind (wpAny_pure (wpAny_pure (wpAny_pure (wpAny_pure ⟨_, rfl, (fun z => nomatch z), h⟩))))
    | true =>
      have n2 : p.2 = q.2 := eq_of_beq c2
      rw [decide_eq_false (show ¬ p.2 < q.2 by omega)] at h
      simp only [Bool.not_true, Bool.false_eq_true, if_false]
      refine wpAny_pure ?_
      dsimp only
      rw [List.forIn_nil]
      exact wpAny_pure (wpAny_pure ⟨_, rfl, (fun z => nomatch z), h⟩)
inductive TupsN (h : Heap) : List Value → List (Int × Int) → Prop
  | nil : TupsN h [] []
  | cons {a b : Addr} {o ob : Obj} {t u r : Tok} {n m : Nat} {k : Int} {p : Int × Int} {vs : List Value} {ps : List (Int × Int)} (ho : h.get? a = some o) (hc : o.cls = .type "tuple") (hd : o.data = .seq #[.ref b, .int k r] n) (hb : h.get? b = some ob) (cb : ob.cls = .type "tuple") (db : ob.data = .seq #[.int p.1 t, .int p.2 u] m) (z : TupsN h vs ps) : TupsN h (.ref a :: vs) (p :: ps)
theorem TupsN.keep {h h' : Heap} (k : ∀ b o, h.get? b = some o → o.cls = .type "tuple" → h'.get? b = some o) {vs : List Value} {ps : List (Int × Int)} (T : TupsN h vs ps) : TupsN h' vs ps := by
  induction T with
  | nil => exact .nil
  | cons ho hc hd hb cb db _ ih => exact .cons (k _ _ ho hc) hc hd (k _ _ hb cb) cb db ih
theorem TupsN.len {h : Heap} {vs : List Value} {ps : List (Int × Int)} (T : TupsN h vs ps) : vs.length = ps.length := by
  induction T with
  | nil => rfl
  | cons _ _ _ _ _ _ _ ih => rw [List.length_cons, List.length_cons, ih]
theorem TupsN.at {h : Heap} {vs : List Value} {ps : List (Int × Int)} (T : TupsN h vs ps) : ∀ {i : Nat}, i < ps.length → ∃ (a b : Addr) (o ob : Obj) (t u r : Tok) (n m : Nat) (k : Int), vs.getD i Value.none = .ref a ∧ h.get? a = some o ∧ o.data = .seq #[.ref b, .int k r] n ∧ h.get? b = some ob ∧ ob.cls = .type "tuple" ∧ ob.data = .seq #[.int (prAt ps i).1 t, .int (prAt ps i).2 u] m := by
  induction T with
  | nil => intro i hi; exact absurd hi (Nat.not_lt_zero _)
  | cons ho hc hd hb cb db _ ih =>
    intro i hi
    cases i with
    | zero => exact ⟨_, _, _, _, _, _, _, _, _, _, rfl, ho, hd, hb, cb, db⟩
    | succ i => exact ih (i := i) (Nat.lt_of_succ_lt_succ hi)
theorem TupsN.firsts {h : Heap} {vs : List Value} {ps : List (Int × Int)} (T : TupsN h vs ps) : ∃ fs, KatTups h vs fs ∧ fs.length = ps.length ∧ ∀ v ∈ fs, ∃ b ob, v = Value.ref b ∧ h.get? b = some ob ∧ ob.cls = .type "tuple" := by
  induction T with
  | nil => exact ⟨[], KatTups.nil, rfl, fun v hv => by cases hv⟩
  | @cons a b o ob t u r n m k p vs ps ho hc hd hb cb db _ ih =>
    obtain ⟨fs, h1, h2, h3⟩ := ih
    refine ⟨Value.ref b :: fs, KatTups.cons ho hc hd rfl h1, by rw [List.length_cons, List.length_cons, h2], fun v hv => ?_⟩
    rcases List.mem_cons.mp hv with rfl | hv
    · exact ⟨_, _, rfl, hb, cb⟩
    · exact h3 v hv
def pairOfN (h : Heap) : Value → Int × Int
  | .ref a => match h.get? a with
    | some o => match o.data with
      | .seq xs _ => pairOfU h (xs[0]?.getD .none)
      | _ => (0, 0)
    | none => (0, 0)
  | _ => (0, 0)
theorem TupsN.pair {h : Heap} {vs : List Value} {ps : List (Int × Int)} (T : TupsN h vs ps) {i : Nat} (hi : i < ps.length) : pairOfN h (vs.getD i Value.none) = prAt ps i := by
  obtain ⟨a, b, o, ob, t, u, r, n, m, k, e1, e2, e3, e4, e5, e6⟩ := T.at hi
  rw [e1]
  unfold pairOfN
  dsimp only
  rw [e2]
  dsimp only
  rw [e3]
  show pairOfU h (.ref b) = _
  unfold pairOfU
  dsimp only
  rw [e4]
  dsimp only
  rw [e6]
  rfl
theorem pair_key {P : Program} {w : World} {h : Heap} {b : Addr} {ob : Obj} {p : Int × Int} {t u : Tok} {m : Nat} (hb : h.get? b = some ob) (cb : ob.cls = .type "tuple") (db : ob.data = .seq #[.int p.1 t, .int p.2 u] m) : IsTupleKey (mixKind P w) h (pkey p) b :=
  ⟨ob, _, m, hb, cb, db, by
    have r : Vals ((pkey p).map kV) [Value.int p.1 t, Value.int p.2 u] := .cons ⟨t, rfl⟩ (.cons ⟨u, rfl⟩ .nil)
    exact items_are r⟩
theorem tupsN_lt {vs : List Value} {ps : List (Int × Int)} (T : TupsN s.heap vs ps) (nd : ps.Nodup) (hu : A.units < cLine) {i j : Nat} (hi : i < ps.length) (hj : j < ps.length) {C : Bool → Shared → Prop} (h : C (lexB (prAt ps i) (prAt ps j)) s) : kas_ask prog w A (tuples' false) vs i j C s := by
  unfold kas_ask
  obtain ⟨a, b, o, ob, t, u, r, n, m, k, e1, e2, e3, e4, e5, e6⟩ := T.at hi
  by_cases c : i = j
  · subst c
    rw [e1]
    refine kat_lt e2 e3 e2 e3 (kat_cons (wpAny_eqBool_tuple hu (pair_key e4 e5 e6) (pair_key (P := prog) (w := w) e4 e5 e6) ?_))
    rw [decide_eq_true rfl]
    refine kat_yes (kat_cons (wpAny_eqBool_int ?_))
    rw [beq_self_eq_true]
    refine kat_yes (kat_nil ?_)
    rw [lex_self] at h
    exact h
  · obtain ⟨a', b', o', ob', t', u', r', n', m', k', f1, f2, f3, f4, f5, f6⟩ := T.at hj
    have ne : prAt ps i ≠ prAt ps j := fun z => by
      have a1 := pr_get hi
      have a2 := pr_get hj
      rw [z] at a1
      rw [List.getElem?_eq_getElem hi] at a1
      rw [List.getElem?_eq_getElem hj] at a2
      rcases Nat.lt_or_gt_of_ne c with h | h
      · exact (List.pairwise_iff_getElem.mp nd i j hi hj h) ((Option.some.inj a1).trans (Option.some.inj a2).symm)
      · exact (List.pairwise_iff_getElem.mp nd j i hj hi h) ((Option.some.inj a2).trans (Option.some.inj a1).symm)
    rw [e1, f1]
    refine kat_lt e2 e3 f2 f3 (kat_cons (wpAny_eqBool_tuple hu (pair_key (P := prog) (w := w) e4 e5 e6) (pair_key f4 f5 f6) ?_))
    rw [decide_eq_false fun z => ne (pkey_inj z)]
    exact kat_no (kat_one _ _ (lt_two hu e4 e5 e6 f4 f5 f6 h))
theorem run_gen {vs : List Value} {ps : List (Int × Int)} {κ : SortKind} (pf : Value → Int × Int) (hl : vs.length = ps.length) (hpf : ∀ i, i < ps.length → pf (vs.getD i Value.none) = prAt ps i)
    (ask : ∀ i j, i < ps.length → j < ps.length → ∀ C : Bool → Shared → Prop, C (lexB (prAt ps i) (prAt ps j)) s → kas_ask prog w A κ vs i j C s) (nd : ps.Nodup) (h2 : 2 ≤ vs.length) :
    wpAny (model prog w) A ((sortRuns').run (SortSt.mk' κ (vs.toArray.zip vs.toArray) #[] 7 none)) (fun r s' => s' = s ∧ ∃ π : List Nat, π.Perm (List.range ps.length) ∧ (π.map (prAt ps)).Pairwise (fun a b => lexB a b = true) ∧ (arrOf r.2).map (·.2) = List.toArray (π.map fun i => vs.getD i Value.none) ∧ failedOf r.2 = none) E s := by
  have ez : (vs.toArray.zip vs.toArray).toList = (List.range ps.length).map (itemU vs) := by
    rw [Array.toList_zip]
    refine List.ext_getElem? fun i => ?_
    rw [List.getElem?_map]
    by_cases c : i < vs.length
    · rw [List.getElem?_range (by omega), List.getElem?_eq_getElem (by rw [List.length_zip]; show i < min vs.length vs.length; omega), List.getElem_zip]
      show some (vs[i], vs[i]) = some (itemU vs i)
      unfold itemU
      rw [List.getD_eq_getElem?_getD, List.getElem?_eq_getElem c]
      rfl
    · rw [List.getElem?_eq_none (by rw [List.length_zip]; show min vs.length vs.length ≤ i; omega), List.getElem?_eq_none (by rw [List.length_range]; omega)]
      rfl
  have hc : CmpU prog w A s κ (fun x => ∃ i, i < ps.length ∧ x = itemU vs i) (fun x y => lexB (pf x.1) (pf y.1)) := ⟨by
    rintro x y ⟨i, hi, rfl⟩ ⟨j, hj, rfl⟩ C hC
    have e1 : pf (itemU vs i).1 = prAt ps i := hpf _ hi
    have e2 : pf (itemU vs j).1 = prAt ps j := hpf _ hj
    have hC : C (lexB (pf (itemU vs i).1) (pf (itemU vs j).1)) s := hC
    rw [e1, e2] at hC
    exact ask i j hi hj C hC⟩
  have O : OrdU (fun x => ∃ i, i < ps.length ∧ x = itemU vs i) (fun x y : Keyed => lexB (pf x.1) (pf y.1)) := by
    refine ⟨fun x y z _ _ _ a b => ?_, ?_, fun x _ => lex_self _⟩
    · have a := lexB_iff.mp a
      have b := lexB_iff.mp b
      exact lexB_iff.mpr (by omega)
    · rintro x y ⟨i, hi, rfl⟩ ⟨j, hj, rfl⟩ ne hlt
      have e1 : pf (itemU vs i).1 = prAt ps i := hpf _ hi
      have e2 : pf (itemU vs j).1 = prAt ps j := hpf _ hj
      have hlt : lexB (pf (itemU vs i).1) (pf (itemU vs j).1) = false := hlt
      show lexB (pf (itemU vs j).1) (pf (itemU vs i).1) = true
      rw [e1, e2] at *
      exact (lex_ord nd).tot i j hi hj (fun z => ne (by rw [z])) hlt
  have hA : ArrU (fun x => ∃ i, i < ps.length ∧ x = itemU vs i) (vs.toArray.zip vs.toArray) := by
    refine ⟨fun x hx => ?_, ?_⟩
    · rw [ez] at hx
      obtain ⟨i, hi, rfl⟩ := List.mem_map.mp hx
      exact ⟨i, List.mem_range.mp hi, rfl⟩
    · rw [ez]
      refine List.pairwise_map.mpr (List.pairwise_iff_getElem.mpr fun i j hi hj hij z => ?_)
      rw [List.length_range] at hi hj
      rw [List.getElem_range, List.getElem_range] at z
      have e1 : pf (itemU vs i).1 = prAt ps i := hpf _ hi
      have e2 : pf (itemU vs j).1 = prAt ps j := hpf _ hj
      rw [z, e2] at e1
      have a1 := pr_get hi
      have a2 := pr_get hj
      rw [← e1] at a1
      rw [List.getElem?_eq_getElem hi] at a1
      rw [List.getElem?_eq_getElem hj] at a2
      exact (List.pairwise_iff_getElem.mp nd i j hi hj hij) ((Option.some.inj a1).trans (Option.some.inj a2).symm)
  have hsz : (vs.toArray.zip vs.toArray).size = ps.length := by rw [← Array.length_toList, ez, List.length_map, List.length_range]
  refine wpAny_mono (wpS_sortRunsU (E := E) (Q := fun _ st' => ∃ π : List Nat, π.Perm (List.range ps.length) ∧ (π.map (prAt ps)).Pairwise (fun a b => lexB a b = true) ∧ (arrOf st').map (·.2) = List.toArray (π.map fun i => vs.getD i Value.none) ∧ failedOf st' = none) hc O hA rfl rfl rfl rfl (by omega) fun st' p1 p2 p3 => ?_) (fun r s' hr => hr) fun _ _ e => e
  have hs' := p1.size_eq
  obtain ⟨π, q1, q2⟩ := perm_map_inv (Array.perm_iff_toList_perm.mp p1) (List.range ps.length) ez
  have hπ : ∀ i ∈ π, i < ps.length := fun i hi => List.mem_range.mp (q1.mem_iff.mp hi)
  refine ⟨π, q1, ?_, ?_, p2⟩
  · have hu := upU_of (lo := 0) (n := (vs.toArray.zip vs.toArray).size) (by omega) p3
    rw [List.drop_zero, List.take_of_length_le (by rw [Array.length_toList]; omega), q2] at hu
    refine List.pairwise_map.mpr ((List.pairwise_map.mp hu).imp_of_mem fun {a b} ha hb hab => ?_)
    have e1 : pf (itemU vs a).1 = prAt ps a := hpf _ (hπ a ha)
    have e2 : pf (itemU vs b).1 = prAt ps b := hpf _ (hπ b hb)
    have hab : lexB (pf (itemU vs a).1) (pf (itemU vs b).1) = true := hab
    rw [e1, e2] at hab
    exact hab
  · apply Array.toList_inj.mp
    rw [Array.toList_map, q2, List.map_map]
    rfl
theorem sort_gen {a : Addr} {vs : List Value} {ps : List (Int × Int)} {n : Nat} {P : Fin → Shared → Prop} (ho : s.heap.get? a = some (seqObj "list" vs.toArray n)) (hl : vs.length = ps.length)
    (G : ∀ g : Heap, (∀ b o, s.heap.get? b = some o → o.cls = .type "tuple" → g.get? b = some o) → 2 ≤ vs.length → ∃ (κ : SortKind) (pf : Value → Int × Int), (∀ (Q : SortKind → Shared → Prop), Q κ { s with heap := g } → wpAny (model prog w) A (keyKind' vs.toArray) Q E { s with heap := g }) ∧ (∀ i, i < ps.length → pf (vs.getD i Value.none) = prAt ps i) ∧
      ∀ i j, i < ps.length → j < ps.length → ∀ C : Bool → Shared → Prop, C (lexB (prAt ps i) (prAt ps j)) { s with heap := g } → kas_ask prog w A κ vs i j C { s with heap := g }) (nd : ps.Nodup) (h64 : vs.length < 1000000)
    (h : ∀ π : List Nat, π.Perm (List.range ps.length) → (π.map (prAt ps)).Pairwise (fun a b => lexB a b = true) → P (.done (.ret .none)) { s with heap := sortedHeap s.heap a vs (List.toArray (π.map fun i => vs.getD i Value.none)) }) :
    wpAny (model prog w) A (Builtin.«list.sort» ⟨[.ref a], []⟩) P E s := by
  rw [list_sort_plain]
  have ha : a < s.heap.objs.size := Heap.lt_size ho
  refine wpAny_bind (listItems_at ho rfl ?_)
  refine wpAny_bind (listUpdate_at ho rfl ?_ (by rw [List.size_toArray, sizeLine_eq]; omega) (Nat.zero_le _))
  obtain ⟨e1, ho1⟩ : ∃ e1, (s.heap.update a (Obj.mapSeq fun _ => #[])).get? a = some (seqObj "list" #[] e1) := ⟨_, get?_update_seq ho (fun _ => #[])⟩
  refine wpAny_bind (seqEpoch_at ho1 rfl ?_)
  refine wpAny_bind (wpAny_newTuple ?_ (by show vs.length ≤ _; rw [sizeLine_eq]; omega))
  refine wpAny_bind (wpAny_newList ?_ (Nat.zero_le _))
  refine wpAny_holding ?_
  have ho6 : (((s.heap.update a (Obj.mapSeq fun _ => #[])).push (seqObj "tuple" vs.toArray 0)).push (seqObj "list" #[] 0)).get? a = some (seqObj "list" #[] e1) := Heap.get?_push_of_some _ (Heap.get?_push_of_some _ ho1)
  have T6 := G (((s.heap.update a (Obj.mapSeq fun _ => #[])).push (seqObj "tuple" vs.toArray 0)).push (seqObj "list" #[] 0)) fun b o e hc => by
    have nb : b ≠ a := fun z => by
      rw [z, ho] at e
      cases e
      exact absurd (show Value.type "list" = Value.type "tuple" from hc) (by decide)
    exact Heap.get?_push_of_some _ (Heap.get?_push_of_some _ ((Heap.get?_update_ne _ _ _ _ nb).trans e))
  show wpAny (model prog w) A _ P E { s with heap := ((s.heap.update a (Obj.mapSeq fun _ => #[])).push (seqObj "tuple" vs.toArray 0)).push (seqObj "list" #[] 0) }
  dsimp only
  by_cases h2 : vs.toArray.size < 2
  · rw [if_pos h2, if_pos h2]
    refine wpAny_bind (wpAny_pure ?_)
    rw [StateT.run_pure]
    refine wpAny_bind (wpAny_pure ?_)
    dsimp only
    refine wpAny_bind (seqEpoch_at ho6 rfl ?_)
    have hfin := h (List.range ps.length) (List.Perm.refl _) (by
      rw [List.size_toArray, hl] at h2
      refine List.pairwise_iff_getElem.mpr fun i j hi hj hij => ?_
      rw [List.length_map, List.length_range] at hj
      omega)
    rw [← hl, range_getD] at hfin
    have ez : ((vs.toArray.zip vs.toArray).map fun x => x.2) = vs.toArray := by
      apply Array.toList_inj.mp
      rw [Array.toList_map, Array.toList_zip]
      exact List.map_snd_zip (Nat.le_refl _)
    refine wpAny_bind (listUpdate_at ho6 rfl ?_ (Nat.zero_le _) (by show ((vs.toArray.zip vs.toArray).map fun x => x.2).size ≤ _; rw [ez, List.size_toArray, sizeLine_eq]; omega))
    simp only [bne_self_eq_false, Bool.false_eq_true, if_false]
    refine wpAny_pure ?_
    show P _ { s with heap := sortedHeap s.heap a vs ((vs.toArray.zip vs.toArray).map fun x => x.2) }
    rw [ez]
    exact hfin
  · rw [if_neg h2, if_neg h2]
    rw [List.size_toArray] at h2
    obtain ⟨κ, pf, k1, k2, k3⟩ := T6 (by omega)
    refine wpAny_bind (k1 _ ?_)
    refine wpAny_bind (wpAny_mono (run_gen (s := { s with heap := ((s.heap.update a (Obj.mapSeq fun _ => #[])).push (seqObj "tuple" vs.toArray 0)).push (seqObj "list" #[] 0) }) pf hl k2 k3 nd (by omega)) ?_ fun _ _ e => e)
    rintro ⟨⟨⟩, st'⟩ s' ⟨rfl, π, hp, hu, es, hf⟩
    dsimp only at es hf ⊢
    have hpl : π.length = ps.length := by rw [hp.length_eq, List.length_range]
    refine wpAny_bind (seqEpoch_at ho6 rfl ?_)
    refine wpAny_bind (listUpdate_at ho6 rfl ?_ (Nat.zero_le _) (by show ((arrOf st').map fun x => x.2).size ≤ _; rw [es, List.size_toArray, List.length_map, hpl, sizeLine_eq]; omega))
    rw [hf]
    simp only [bne_self_eq_false, Bool.false_eq_true, if_false]
    refine wpAny_pure ?_
    show P _ { s with heap := sortedHeap s.heap a vs ((arrOf st').map fun x => x.2) }
    rw [es]
    exact h π hp hu
theorem sort_nest {a : Addr} {vs : List Value} {ps : List (Int × Int)} {n : Nat} {P : Fin → Shared → Prop} (hu : A.units < cLine) (ho : s.heap.get? a = some (seqObj "list" vs.toArray n)) (T : TupsN s.heap vs ps) (nd : ps.Nodup) (h64 : vs.length < 1000000)
    (h : ∀ π : List Nat, π.Perm (List.range ps.length) → P (.done (.ret .none)) { s with heap := sortedHeap s.heap a vs (List.toArray (π.map fun i => vs.getD i Value.none)) }) :
    wpAny (model prog w) A (Builtin.«list.sort» ⟨[.ref a], []⟩) P E s := by
  refine sort_gen ho T.len (fun g k h2 => ?_) nd h64 fun π a1 a2 => h π a1
  have T6 : TupsN g vs ps := T.keep k
  obtain ⟨fs, k1, k2, k3⟩ := T6.firsts
  have hl := T.len
  refine ⟨tuples' false, pairOfN g, fun Q hq => kat_kind (s := { s with heap := g }) (T := .type "tuple") k1 (by omega) (fun v hv => ?_) rfl hq, fun i hi => T6.pair hi, fun i j hi hj C hC => tupsN_lt (s := { s with heap := g }) T6 nd hu hi hj hC⟩
  obtain ⟨b, ob, rfl, e1, e2⟩ := k3 v hv
  exact e2 ▸ (Looks.ld e1).andThen .now
end
end L2
namespace L2
open PySem PySem.W PySem.Spec PyProof.Rows PySem.Calls
def RIt (g : Heap) (it d sl : Addr) (i n ep : Nat) : Prop :=
  (i = 0 ∧ ∃ x y, ItmS g it d 0 n ep .none false x y) ∨ ∃ (x y : Value) (a : Addr) (f : Bool) (oa : Obj), ItmS g it d i n ep (rawInt a) f x y ∧ g.get? a = some oa ∧ a ≠ it ∧ a ≠ sl
theorem RIt.keep {g g' : Heap} {it d sl : Addr} {i n ep : Nat} (h : RIt g it d sl i n ep) (k : ∀ b o, b ≠ sl → g.get? b = some o → g'.get? b = some o) (ne : it ≠ sl) : RIt g' it d sl i n ep := by
  rcases h with ⟨e, x, y, a1⟩ | ⟨x, y, a, f, oa, a1, a2, a3, a4⟩
  · exact .inl ⟨e, x, y, k _ _ ne a1⟩
  · exact .inr ⟨x, y, a, f, oa, k _ _ ne a1, k _ _ a4 a2, a3, a4⟩
structure GotI (es : Array DictEntry) (lo : Addr) (g : Heap) (as : List Addr) : Prop where
  above : ∀ a ∈ as, lo < a
  rise : as.Pairwise (· < ·)
  at_ : ∀ (j : Nat) (a : Addr), as[j]? = some a → ∃ e, es[j]? = some e ∧ g.get? a = some { cls := .type "tuple", data := .seq #[e.key, e.val] }
section
variable {pg : Program} {wd : World} {B : Around} {Fx : Value → Shared → Prop} {t : Shared} {d it sl vw : Addr} {es : Array DictEntry} {ep : Nat}
theorem rit_item {R : Option Value → Shared → Prop} {e : DictEntry} {i : Nat} (st : RIt t.heap it d sl i es.size ep) (hs : sl < t.heap.objs.size) (r : RawD t.heap d es ep) (he : es[i]? = some e)
    (q : ∀ g, RIt g it d sl (i + 1) es.size ep → g.get? t.heap.objs.size = some { cls := .type "tuple", data := .seq #[e.key, e.val] } → g.objs.size = t.heap.objs.size + 1 → (∀ b o, b ≠ it → t.heap.get? b = some o → g.get? b = some o) → R (some (.ref t.heap.objs.size)) { t with heap := g }) : wpAny (model pg wd) B (pyNext (.ref it)) R Fx t := by
  rcases st with ⟨rfl, x, y, a1⟩ | ⟨x, y, a, f, oa, a1, a2, a3, a4⟩
  · exact raw_itemsFree a1 r he fun g b1 b2 b3 b4 => q g (.inr ⟨_, _, _, false, _, b1, b2, Nat.ne_of_gt (Heap.lt_size a1), Nat.ne_of_gt hs⟩) b2 b3 b4
  · exact raw_itemsOut a1 a2 a3 r he fun g b1 b2 b3 b4 => q g (.inr ⟨_, _, a, true, oa, b1, b4 a oa a3 a2, a3, a4⟩) b2 b3 b4
theorem rit_end {R : Option Value → Shared → Prop} {i : Nat} (hB : B.handled = none) (st : RIt t.heap it d sl i es.size ep) (r : RawD t.heap d es ep) (hi : es.size ≤ i)
    (q : ∀ g, Heap.ExtBut it t.heap g → R none { t with heap := g }) : wpAny (model pg wd) B (pyNext (.ref it)) R Fx t := by
  rcases st with ⟨rfl, x, y, a1⟩ | ⟨x, y, a, f, oa, a1, _⟩
  · exact raw_itemsEnd hB a1 r hi q
  · exact raw_itemsEnd hB a1 r hi q
theorem rit_loop {R : Result → Shared → Prop} (hB : B.handled = none) (h1 : sl < it) (h2 : d ≠ sl) (h3 : d ≠ it) (few : es.size ≤ sizeLine) (res : Value) {g0 : Heap}
    (fin : ∀ g k acc c as, (∀ b o, b ≠ sl → b ≠ it → g0.get? b = some o → g.get? b = some o) → g.get? sl = some { cls := .type "list", dict := none, data := .seq acc c, slots := #[] } → as.length = es.size → GotI es it g as → acc.toList = as.map Value.ref → R (.ok (.ret res)) { t with heap := g, toks := k }) :
    ∀ (m i : Nat) (g : Heap) (k c : Nat) (acc : Array Value) (as : List Addr), es.size - i = m → i ≤ es.size → RIt g it d sl i es.size ep → RawD g d es ep → (∀ b o, b ≠ sl → b ≠ it → g0.get? b = some o → g.get? b = some o) →
      g.get? sl = some { cls := .type "list", dict := none, data := .seq acc c, slots := #[] } → acc.toList = as.map Value.ref → as.length = i → GotI es it g as → it < g.objs.size →
      codeAny (model pg wd) B (.builtin "list.extend.loop" ⟨[.ref sl, .ref it, res], []⟩) R { t with heap := g, toks := k } := by
  have ne : sl ≠ it := Nat.ne_of_lt h1
  intro m
  induction m with
  | zero =>
    intro i g k c acc as hm hi st r kp hS hacc hal G hits
    refine codeAny_builtin PySem.F.entry_extend_loop ?_
    rw [Around.under_plainId PySem.F.plain_extend_loop _]
    show wpAny _ B.in1 (pyNext (.ref it) >>= _) _ _ _
    refine wpAny_bind (rit_end (t := { t with heap := g, toks := k }) (B := B.in1) hB st r (by omega) fun g' he => ?_)
    refine wpAny_pure (fin g' k acc c as (fun b o a1 a2 e => he b o a2 (kp b o a1 a2 e)) (he sl _ ne hS) (by omega) ⟨G.above, G.rise, fun j a hj => ?_⟩ hacc)
    obtain ⟨e, e1, e2⟩ := G.at_ j a hj
    exact ⟨e, e1, he a _ (Nat.ne_of_gt (G.above a (List.mem_of_getElem? hj))) e2⟩
  | succ m ih =>
    intro i g k c acc as hm hi st r kp hS hacc hal G hits
    have hlt : i < es.size := by omega
    have hz : acc.size = i := by rw [← Array.length_toList, hacc, List.length_map, hal]
    refine codeAny_builtin PySem.F.entry_extend_loop ?_
    rw [Around.under_plainId PySem.F.plain_extend_loop _]
    show wpAny _ B.in1 (pyNext (.ref it) >>= _) _ _ _
    have hsl : sl < g.objs.size := Heap.lt_size hS
    refine wpAny_bind (rit_item (t := { t with heap := g, toks := k }) st hsl r (Array.getElem?_eq_getElem hlt) fun g' b1 b2 b3 b4 => ?_)
    dsimp only at b2 b3 b4 ⊢
    have hS' := b4 sl _ ne hS
    have up : ∀ b o, b ≠ sl → g'.get? b = some o → (g'.update sl (Obj.mapSeq (·.push (Value.ref g.objs.size)))).get? b = some o := fun b o hb e => (Heap.get?_update_other _ _ (Ne.symm hb)).trans e
    show wpAny _ B.in1 (updateSeq sl (·.push (Value.ref g.objs.size)) >>= _) _ _ _
    refine wpAny_bind ?_
    refine wpAny_updateSeq hS' rfl (wpAny_pure ⟨plainId_quiet PySem.F.plain_extend_loop _, ih (i + 1) _ k _ (acc.push (Value.ref g.objs.size)) (as ++ [g.objs.size]) (by omega) hlt (b1.keep up (Ne.symm ne)) (r.at fun o e => up d o h2 (b4 d o h3 e)) (fun b o a1 a2 e => up b o a1 (b4 b o a2 (kp b o a1 a2 e))) (Heap.get?_update_self _ hS' rfl) (by rw [Array.toList_push, hacc, List.map_append]; rfl) (by rw [List.length_append, hal]; rfl) ⟨fun a ha => ?_, ?_, fun j a hj => ?_⟩ ?_⟩) (by rw [hz]; omega) (by show (acc.push _).size ≤ _; rw [Array.size_push, hz]; omega)
    · rcases List.mem_append.mp ha with ha | ha
      · exact G.above a ha
      · rw [List.mem_singleton.mp ha]; exact hits
    · refine List.pairwise_append.mpr ⟨G.rise, List.pairwise_singleton _ _, fun a ha b hb => ?_⟩
      rw [List.mem_singleton.mp hb]
      obtain ⟨j, hj⟩ := List.getElem?_of_mem ha
      obtain ⟨e, _, e2⟩ := G.at_ j a hj
      exact Heap.lt_size e2
    · rcases Nat.lt_trichotomy j as.length with c1 | c1 | c1
      · rw [List.getElem?_append_left c1] at hj
        obtain ⟨e, e1, e2⟩ := G.at_ j a hj
        have hb := G.above a (List.mem_of_getElem? hj)
        exact ⟨e, e1, up a _ (Nat.ne_of_gt (Nat.lt_trans h1 hb)) (b4 a _ (Nat.ne_of_gt hb) e2)⟩
      · subst c1
        have hb : g.objs.size = a := by simpa using hj
        subst hb
        exact ⟨_, by rw [hal]; exact Array.getElem?_eq_getElem hlt, up _ _ (Nat.ne_of_gt hsl) b2⟩
      · rw [List.getElem?_eq_none (by rw [List.length_append, List.length_singleton]; omega)] at hj
        cases hj
    · exact Nat.lt_trans hits (Heap.lt_size (up _ _ (Nat.ne_of_gt hsl) b2))
theorem rit_extend {R : Result → Shared → Prop} (hB : B.handled = none) (hv : t.heap.IsItemsView vw d) (r : RawD t.heap d es ep) (n1 : sl ≠ vw) (n2 : d ≠ sl) (res : Value) (c0 : Nat) (hS : t.heap.get? sl = some { cls := .type "list", data := .seq #[] c0 })
    (fin : ∀ g k acc c as, (∀ b o, b ≠ sl → t.heap.get? b = some o → g.get? b = some o) → g.get? sl = some { cls := .type "list", dict := none, data := .seq acc c, slots := #[] } → as.length = es.size → GotI es t.heap.objs.size g as → acc.toList = as.map Value.ref → R (.ok (.ret res)) { t with heap := g, toks := k }) (few : es.size ≤ sizeLine) :
    wpAny (model pg wd) B.in1 (Builtin.List.listExtendWith (.ref sl) (.ref vw) res) (fun f s' => match f with | .done f => R (.ok f) s' | .again c' => c'.quiet = true ∧ codeAny (model pg wd) B c' R s') (fun e s' => R (.error e) s') t := by
  have hsl : sl < t.heap.objs.size := Heap.lt_size hS
  have hdl : d < t.heap.objs.size := r.lt
  have go : ∀ (g : Heap) (c1 k : Nat), (∀ b o, b ≠ sl → (t.heap.push { cls := .type "dict_itemiterator", data := .fields #[.none, .bool false, .ref d, .int 0 0, .int es.size 0, .int ep 0, .none, .none] }).get? b = some o → g.get? b = some o) →
      g.get? sl = some { cls := .type "list", data := .seq #[] c1 } → codeAny (model pg wd) B (.builtin "list.extend.loop" ⟨[.ref sl, .ref t.heap.objs.size, res], []⟩) R { t with heap := g, toks := k } := by
    intro g c1 k kp hS1
    have hI := kp t.heap.objs.size _ (Nat.ne_of_gt hsl) (Heap.get?_push_size _ rfl)
    exact rit_loop (t := t) (g0 := t.heap) hB hsl n2 (Nat.ne_of_lt hdl) few res (fun g' k' acc c as a1 a2 a3 a4 a5 => fin g' k' acc c as (fun b o hb e => a1 b o hb (Nat.ne_of_lt (Heap.lt_size e)) e) a2 a3 a4 a5)
      es.size 0 g k c1 #[] [] (Nat.sub_zero _) (Nat.zero_le _) (.inl ⟨rfl, .none, .none, hI⟩) (r.at fun o e => kp d o n2 (Heap.get?_push_of_some _ e)) (fun b o hb _ e => kp b o hb (Heap.get?_push_of_some _ e)) hS1 rfl rfl ⟨(fun _ ha => nomatch ha), List.Pairwise.nil, (fun j a hj => by cases j <;> cases hj)⟩ (Heap.lt_size hI)
  unfold Builtin.List.listExtendWith
  refine wpAny_bind (wpAny_typeOf (T := "dict_items") hv.typeIs ?_)
  have k1 : Builtin.List.listSameRef (.ref sl) (.ref vw) = false := by simp [Builtin.List.listSameRef, n1]
  have k2 : (Value.type "dict_items" == Value.type "list") = false ∧ (Value.type "dict_items" == Value.type "tuple") = false := by decide
  simp only [k1, k2.1, k2.2, Bool.or_false, Bool.false_eq_true, if_false]
  refine wpAny_bind (raw_itemsIter hv r ?_)
  have hS1 := Heap.get?_push_of_some { cls := .type "dict_itemiterator", data := .fields #[.none, .bool false, .ref d, .int 0 0, .int es.size 0, .int ep 0, .none, .none] } hS
  refine wpAny_bind (wpAny_holding (kdx_hint (let ⟨o, ho, hc, _⟩ := hv; ⟨o, Heap.get?_push_of_some _ ho, hc⟩) ?_))
  refine wpAny_ite_split (fun _ => ?_) (fun _ => wpAny_pure ⟨plainId_quiet PySem.F.plain_extend_loop _, go _ c0 _ (fun b o _ e => e) hS1⟩)
  refine wpAny_bind (wpAny_rule (wpAny_bind ?_))
  show wpAny _ _ (updateSeq sl (·.push .none) >>= fun _ => updateSeq sl (·.pop)) _ _ _
  refine wpAny_bind (wpAny_updateSeq hS1 rfl ?_)
  have hS2 := Heap.get?_update_self (Obj.mapSeq (·.push Value.none)) hS1 rfl
  refine wpAny_updateSeq (hz := by seq_fits) hS2 rfl ?_
  have hS3 := Heap.get?_update_self (Obj.mapSeq (·.pop)) hS2 rfl
  exact wpAny_pure ⟨plainId_quiet PySem.F.plain_extend_loop _, go _ _ _ (fun b o hb e => (Heap.get?_update_other _ _ (Ne.symm hb)).trans ((Heap.get?_update_other _ _ (Ne.symm hb)).trans e)) hS3⟩
theorem rit_collect {R : List Value → Shared → Prop} (hB : B.handled = none) (hv : t.heap.IsItemsView vw d) (r : RawD t.heap d es ep) (few : es.size ≤ sizeLine)
    (go : ∀ (g : Heap) (k : Nat) (as : List Addr), t.heap.objs.size < g.objs.size → (∀ b o, t.heap.get? b = some o → g.get? b = some o) → as.length = es.size → GotI es t.heap.objs.size g as → R (as.map Value.ref) { t with heap := g, toks := k }) : wpAny (model pg wd) B (collect (.ref vw)) R Fx t := by
  have hvl : vw < t.heap.objs.size := let ⟨_, e, _⟩ := hv; Heap.lt_size e
  have hdl : d < t.heap.objs.size := r.lt
  unfold collect
  refine wpAny_bind (wpAny_runValue (codeAny_builtin entry_proto_collect' ?_))
  rw [Around.under_plainId PySem.F.plain_proto_collect _]
  show wpAny _ B.in1 (newList [] >>= fun q => again (.builtin "list.__iadd__" ⟨[q, .ref vw], []⟩)) _ _ t
  refine wpAny_bind (wpAny_newObj_type (wpAny_pure ⟨plainId_quiet PySem.F.plain_list_iadd _, codeAny_builtin entry_list_iadd' ?_⟩))
  rw [Around.under_plainId PySem.F.plain_list_iadd _]
  have at0 : (t.heap.push { cls := .type "list", data := .seq ([] : List Value).toArray }).get? t.heap.objs.size = some { cls := .type "list", data := .seq #[] } := Heap.get?_push_size _ rfl
  show wpAny _ B.in1 (Builtin.List.listExtendWith (.ref t.heap.objs.size) (.ref vw) (.ref t.heap.objs.size)) _ _ _
  have got := rit_extend (pg := pg) (wd := wd) (B := B) (t := { t with heap := t.heap.push { cls := .type "list", data := .seq ([] : List Value).toArray } }) (es := es) (ep := ep)
    (R := fun (res : Result) (t' : Shared) => ∃ (g : Heap) (k : Nat) (xs : Array Value) (c : Nat) (as : List Addr), res = .ok (.ret (.ref t.heap.objs.size)) ∧ t' = { t with heap := g, toks := k } ∧ (∀ b o, t.heap.get? b = some o → g.get? b = some o) ∧ g.get? t.heap.objs.size = some { cls := .type "list", dict := none, data := .seq xs c, slots := #[] } ∧ as.length = es.size ∧ GotI es t.heap.objs.size g as ∧ xs.toList = as.map Value.ref)
    hB (let ⟨o, e, x⟩ := hv; ⟨o, Heap.get?_push_of_some _ e, x⟩) (r.at fun o e => Heap.get?_push_of_some _ e) (Nat.ne_of_gt hvl) (Nat.ne_of_lt hdl) (.ref t.heap.objs.size) 0 at0
    (fun g k xs c as a1 a2 a3 a4 a5 => ⟨g, k, xs, c, as, rfl, rfl, fun b o e => a1 b o (Nat.ne_of_lt (Heap.lt_size e)) (Heap.get?_push_of_some _ e), a2, a3, ⟨fun a ha => Nat.lt_of_le_of_lt (by show t.heap.objs.size ≤ (t.heap.push _).objs.size; rw [Heap.size_push]; exact Nat.le_succ _) (a4.above a ha), a4.rise, a4.at_⟩, a5⟩) few
  refine wpAny_mono got (fun fin t' z => ?_) (fun e t' z => ?_)
  · cases fin with
    | done f =>
      obtain ⟨g, k, xs, c, as, y, rfl, a1, a2, a3, a4, a5⟩ := z
      cases y
      show wpAny _ B (load t.heap.objs.size >>= _) _ _ _
      refine wpAny_bind (wpAny_load a2 (wpAny_pure ?_))
      show R xs.toList _
      rw [a5]
      exact go g k as (Heap.lt_size a2) a1 a3 a4
    | again c₁ =>
      refine ⟨z.1, codeAny_mono z.2 fun res t₂ y => ?_⟩
      obtain ⟨g, k, xs, c, as, rfl, rfl, a1, a2, a3, a4, a5⟩ := y
      show wpAny _ B (load t.heap.objs.size >>= _) _ _ _
      refine wpAny_bind (wpAny_load a2 (wpAny_pure ?_))
      show R xs.toList _
      rw [a5]
      exact go g k as (Heap.lt_size a2) a1 a3 a4
  · obtain ⟨_, _, _, _, _, y, _⟩ := z
    cases y
end
section
variable {X : Cx}
theorem Inv.laidAll {pins : List (Addr × Obj)} {σ : St} {H H' : Hp} {s : Shared} {h' : Heap} {t' : Nat} (I : Inv X pins σ H s) (k : ∀ b u, s.heap.get? b = some u → h'.get? b = some u) (old : ∀ b u, H b = some u → H' b = some u)
    (new : ∀ b u, H' b = some u → H b = some u ∨ (s.heap.objs.size ≤ b ∧ ObjOk X.prog X.w H' h' b u)) : Inv X pins σ H' { s with heap := h', toks := t' } := by
  refine I.step (g' := s.gens) (d' := s.drawn) (ch := []) (fun b hb => by cases hb) (fun b o _ _ _ e _ => k b o e) (fun b o _ _ _ e _ => ⟨o.slots, k b o e⟩) (fun b o _ e n => ?_) (fun b o _ e => ⟨o, k b o e⟩) (fun b xs e => old _ _ e) (fun b _ _ e => old _ _ e) (fun b ps e => ⟨#[], by rw [old _ _ e]; simp⟩) (fun m hm => ?_) (fun b u e => ?_) I.bare
  · cases c : H' b with
    | none => rfl
    | some u =>
      rcases new b u c with z | z
      · rw [n] at z; cases z
      · exact absurd (Heap.lt_size e) (Nat.not_lt.mpr z.1)
  · obtain ⟨o, es, ep, ho, r⟩ := hm
    exact ⟨o, es, ep, k _ o ho, r⟩
  · rcases new b u e with z | z
    · exact (I.hok b u z).stay (fun c v _ q => k c v q) (fun c q => old _ _ q) fun c xs q => old _ _ q
    · exact z.2
def updL (H : Hp) : List (Addr × HO) → Hp
  | [] => H
  | q :: r => upd (updL H r) q.1 q.2
theorem updL_mem {H : Hp} : ∀ {l : List (Addr × HO)} {b : Addr} {u : HO}, updL H l b = some u → H b = some u ∨ (b, u) ∈ l
  | [], _, _, h => .inl h
  | q :: r, b, u, h => by
    by_cases e : b = q.1
    · subst e
      rw [show updL H (q :: r) = upd (updL H r) q.1 q.2 from rfl, upd_same] at h
      cases h
      exact .inr List.mem_cons_self
    · rw [show updL H (q :: r) = upd (updL H r) q.1 q.2 from rfl, upd_ne e] at h
      exact (updL_mem h).imp id fun z => List.mem_cons_of_mem _ z
theorem updL_old {H : Hp} {b : Addr} : ∀ {l : List (Addr × HO)}, (∀ q ∈ l, q.1 ≠ b) → updL H l b = H b
  | [], _ => rfl
  | q :: r, h => by
    rw [show updL H (q :: r) = upd (updL H r) q.1 q.2 from rfl, upd_ne (fun z => h q List.mem_cons_self z.symm)]
    exact updL_old fun x hx => h x (List.mem_cons_of_mem _ hx)
theorem updL_at {H : Hp} {b : Addr} {u : HO} : ∀ {l : List (Addr × HO)}, (l.map (·.1)).Nodup → (b, u) ∈ l → updL H l b = some u
  | q :: r, nd, h => by
    obtain ⟨n1, n2⟩ := List.nodup_cons.mp nd
    rcases List.mem_cons.mp h with h | h
    · subst h
      exact upd_same
    · have ne : b ≠ q.1 := fun z => n1 (List.mem_map.mpr ⟨_, h, z⟩)
      rw [show updL H (q :: r) = upd (updL H r) q.1 q.2 from rfl, upd_ne ne]
      exact updL_at n2 h
theorem call_sortedI (hc : X.calm = true) (hu : X.A.units + 2 < cLine) : CallR X (.builtin "sorted") (fun xs H Q => ∃ (vw d : Addr) (kvs : List (List Key × V)) (ps : List (Int × Int)) (ns : List Int), xs = [.ref vw] ∧ H vw = some (vwO d vw) ∧ H d = some (.dT kvs) ∧ kvs.map (·.1) = ps.map pkey ∧ kvs.map (·.2) = ns.map V.int ∧ ps.length < 1000000 ∧
    ∀ (l : Addr) (ys : List V) (H' : Hp), H l = none → H' l = some (.lst ys) → ys.length = ps.length → (∀ y ∈ ys, ∃ (T b : Addr) (p : Int × Int) (n : Int), p ∈ ps ∧ n ∈ ns ∧ y = .ref T ∧ H' T = some (.tup [.ref b, .int n]) ∧ H' b = some (.tup [.int p.1, .int p.2])) → (∀ b u, H b = some u → H' b = some u) → Q (.ref l) H') := by
  intro pins s σ H xs us Q I r h
  obtain ⟨vw, d, kvs, ps, ns, rfl, hV, hH, hk, hn, hl, q⟩ := h
  obtain ⟨u, rfl, rx⟩ := vals1 r
  cases rx
  obtain ⟨view, _⟩ := (show ObjOk X.prog X.w H s.heap vw (vwO d vw) from I.hok vw _ hV)
  have ok := (show ObjOk X.prog X.w H s.heap d (.dT kvs) from I.hok d _ hH)
  obtain ⟨z, nd, xs0, r0, o, es, ep, ho, hx, hd, _, h5⟩ := id ok
  have hsz := dT_size ok ho hd
  have hlen : kvs.length = ps.length := by have := congrArg List.length hk; rwa [List.length_map, List.length_map] at this
  have hln : kvs.length = ns.length := by have := congrArg List.length hn; rwa [List.length_map, List.length_map] at this
  have ndp : ps.Nodup := by
    rw [kt_keys r0, hk] at h5
    exact (List.pairwise_map.mp h5).imp fun {a b} h z => h (by rw [z])
  have hent : ∀ j, j < ps.length → ∃ (b : Addr) (tk : Tok), es[j]? = some ⟨(tupleKind (mixKind X.prog X.w)).hash (pkey (prAt ps j)), .ref b, .int (ns.getD j 0) tk⟩ ∧ H b = some (.tup [.int (prAt ps j).1, .int (prAt ps j).2]) := fun j hj => by
    have hjk : j < kvs.length := by omega
    have a1 : (kvs.map (·.1))[j]? = some (pkey (prAt ps j)) := by rw [hk, List.getElem?_map, pr_get hj]; rfl
    have a2 : (kvs.map (·.2))[j]? = some (V.int (ns.getD j 0)) := by
      rw [hn, List.getElem?_map, List.getD_eq_getElem?_getD, List.getElem?_eq_getElem (show j < ns.length by omega)]
      rfl
    rw [List.getElem?_map, List.getElem?_eq_getElem hjk] at a1 a2
    have a1 := Option.some.inj a1
    have a2 := Option.some.inj a2
    obtain ⟨b, v, g1, g2, g3⟩ := dT_entry ok ho hd (List.getElem?_eq_getElem hjk)
    have a1 : kvs[j].1 = pkey (prAt ps j) := a1
    have a2 : kvs[j].2 = V.int (ns.getD j 0) := a2
    rw [a1] at g1 g2
    rw [a2] at g3
    obtain ⟨tk, rfl⟩ := g3
    exact ⟨b, tk, g1, g2⟩
  refine Calls.call_function_entry kind_sorted plain_sorted entry_sorted (args_sorted1 _) ?_
  unfold Builtin.«sorted»
  refine wpAny_bind (m := checkCount "sorted" 1 1 _) (wpAny_pure (wpAny_bind (rit_collect (I.ok.hd hc) view ⟨o, ho, hx, hd⟩ (by rw [hsz, sizeLine_eq]; omega) fun h' tk as hle0 hkp hal G => ?_)))
  have hat : ∀ j, j < ps.length → ∃ (a b : Addr) (tk : Tok), as[j]? = some a ∧ h'.get? a = some { cls := .type "tuple", data := .seq #[.ref b, .int (ns.getD j 0) tk] } ∧ H b = some (.tup [.int (prAt ps j).1, .int (prAt ps j).2]) := fun j hj => by
    have hja : j < as.length := by omega
    obtain ⟨e, e1, e2⟩ := G.at_ j _ (List.getElem?_eq_getElem hja)
    obtain ⟨b, tk, g1, g2⟩ := hent j hj
    rw [g1] at e1
    cases e1
    exact ⟨_, b, tk, List.getElem?_eq_getElem hja, e2, g2⟩
  have T0 : TupsN h' (as.map Value.ref) ps := by
    have gen : ∀ (as : List Addr) (ps : List (Int × Int)), as.length = ps.length → (∀ j, j < ps.length → ∃ (a b : Addr) (tk : Tok) (n : Int), as[j]? = some a ∧ h'.get? a = some { cls := .type "tuple", data := .seq #[.ref b, .int n tk] } ∧ H b = some (.tup [.int (prAt ps j).1, .int (prAt ps j).2])) → TupsN h' (as.map Value.ref) ps := by
      intro as
      induction as with
      | nil =>
        intro ps h _
        cases ps with
        | nil => exact .nil
        | cons _ _ => cases h
      | cons a as ih =>
        intro ps h hj
        cases ps with
        | nil => cases h
        | cons p ps =>
          obtain ⟨a', b, tk, n, f1, f2, f3⟩ := hj 0 (Nat.succ_pos _)
          cases f1
          have f3 : H b = some (.tup [.int p.1, .int p.2]) := f3
          obtain ⟨its, r', ⟨ob, hob, hcb, m, hdb⟩, _⟩ := I.tuple (SqT.of (K := X.K) f3)
          obtain ⟨u1, u2, rfl, ⟨t1, rfl⟩, ⟨t2, rfl⟩⟩ := Vals.two r'
          exact .cons f2 rfl rfl (hkp _ _ hob) hcb hdb (ih ps (Nat.succ.inj h) fun j hjl => hj (j + 1) (Nat.succ_lt_succ hjl))
    exact gen as ps (by omega) fun j hj => by
      obtain ⟨a, b, tk, f1, f2, f3⟩ := hat j hj
      exact ⟨a, b, tk, _, f1, f2, f3⟩
  refine wpAny_bind (wpAny_newList ?_ (by rw [List.length_map, sizeLine_eq]; omega))
  have hoL : (h'.push (seqObj "list" (as.map Value.ref).toArray 0)).get? h'.objs.size = some (seqObj "list" (as.map Value.ref).toArray 0) := Heap.get?_push_size _ rfl
  have hle : s.heap.objs.size ≤ h'.objs.size := Nat.le_of_lt hle0
  show wpAny _ _ _ _ _ { s with heap := h'.push (seqObj "list" (as.map Value.ref).toArray 0), toks := tk }
  refine wpAny_bind (wpAny_holding (wpAny_call_entry slot_list_sort ⟨_, hoL, rfl⟩ entry_list_sort (sort_nest (s := { s with heap := h'.push (seqObj "list" (as.map Value.ref).toArray 0), toks := tk }) (by show X.A.units + 1 + 1 < cLine; omega) hoL (T0.keep fun b o e _ => Heap.get?_push_of_some _ e) ndp (by rw [List.length_map]; omega) fun π a1 => ⟨_, rfl, ?_⟩) (args_list_sort _)))
  obtain ⟨e, he⟩ := sortedHeap_at (out := List.toArray (π.map fun i => (as.map Value.ref).getD i Value.none)) hoL
  have hπ : ∀ i ∈ π, i < ps.length := fun i hi => List.mem_range.mp (a1.mem_iff.mp hi)
  have hpl : π.length = ps.length := by rw [a1.length_eq, List.length_range]
  have up : ∀ b ob, h'.get? b = some ob → (sortedHeap (h'.push (seqObj "list" (as.map Value.ref).toArray 0)) h'.objs.size (as.map Value.ref) (List.toArray (π.map fun i => (as.map Value.ref).getD i Value.none))).get? b = some ob := fun b ob hb => by
    have hlt := Heap.lt_size hb
    rw [sortedHeap_old (Nat.ne_of_lt hlt) (by rw [size_push']; exact Nat.lt_succ_of_lt hlt), Heap.get?_push_ne _ _ _ (Nat.ne_of_lt hlt)]
    exact hb
  obtain ⟨bs, hbs⟩ : ∃ bs : List Addr, bs.length = ps.length ∧ ∀ j, j < ps.length → ∃ tk, h'.get? (as.getD j 0) = some { cls := .type "tuple", data := .seq #[.ref (bs.getD j 0), .int (ns.getD j 0) tk] } ∧ H (bs.getD j 0) = some (.tup [.int (prAt ps j).1, .int (prAt ps j).2]) := by
    refine ⟨es.toList.map fun e => match e.key with | .ref b => b | _ => 0, by rw [List.length_map, Array.length_toList]; omega, fun j hj => ?_⟩
    obtain ⟨b, tk', g1, g2⟩ := hent j hj
    obtain ⟨e, e1, e2⟩ := G.at_ j _ (List.getElem?_eq_getElem (show j < as.length by omega))
    rw [g1] at e1
    cases e1
    have eb : (es.toList.map fun e => match e.key with | .ref b => b | _ => 0).getD j 0 = b := by
      rw [List.getD_eq_getElem?_getD, List.getElem?_map, Array.getElem?_toList, g1]
      rfl
    rw [eb, List.getD_eq_getElem?_getD, List.getElem?_eq_getElem (show j < as.length by omega)]
    exact ⟨tk', e2, g2⟩
  have nda : as.Nodup := G.rise.imp fun h => Nat.ne_of_lt h
  generalize hQ : (List.range ps.length).map (fun j => (as.getD j 0, HO.tup [.ref (bs.getD j 0), .int (ns.getD j 0)])) = nw
  have hnm : nw.map (·.1) = as := by
    rw [← hQ, List.map_map]
    refine List.ext_getElem? fun j => ?_
    rw [List.getElem?_map]
    by_cases hj : j < ps.length
    · rw [List.getElem?_range hj, List.getElem?_eq_getElem (show j < as.length by omega)]
      show some (as.getD j 0) = _
      rw [List.getD_eq_getElem?_getD, List.getElem?_eq_getElem (show j < as.length by omega)]
      rfl
    · rw [List.getElem?_eq_none (by rw [List.length_range]; omega), List.getElem?_eq_none (by omega)]
      rfl
  have hmem : ∀ j, j < ps.length → (as.getD j 0, HO.tup [.ref (bs.getD j 0), .int (ns.getD j 0)]) ∈ nw := fun j hj => by rw [← hQ]; exact List.mem_map.mpr ⟨j, List.mem_range.mpr hj, rfl⟩
  have hof : ∀ x ∈ nw, ∃ j, j < ps.length ∧ x = (as.getD j 0, HO.tup [.ref (bs.getD j 0), .int (ns.getD j 0)]) := fun x hx => by
    rw [← hQ] at hx
    obtain ⟨j, hj, rfl⟩ := List.mem_map.mp hx
    exact ⟨j, List.mem_range.mp hj, rfl⟩
  have hasl : ∀ j, j < ps.length → s.heap.objs.size < as.getD j 0 ∧ as.getD j 0 < h'.objs.size := fun j hj => by
    obtain ⟨tk', f1, _⟩ := hbs.2 j hj
    refine ⟨G.above _ ?_, Heap.lt_size f1⟩
    rw [List.getD_eq_getElem?_getD, List.getElem?_eq_getElem (show j < as.length by omega)]
    exact List.getElem_mem _
  generalize hHn : upd (updL H nw) h'.objs.size (.lst (π.map fun i => V.ref (as.getD i 0))) = Hn
  have old : ∀ b u, H b = some u → Hn b = some u := fun b u hb => by
    have hlt := (I.hok b u hb).lt
    rw [← hHn, upd_ne (Nat.ne_of_lt (Nat.lt_of_lt_of_le hlt hle)), updL_old fun x hx => by
      obtain ⟨j, hj, rfl⟩ := hof x hx
      exact Nat.ne_of_gt (Nat.lt_trans hlt (hasl j hj).1)]
    exact hb
  have hTn : ∀ j, j < ps.length → Hn (as.getD j 0) = some (.tup [.ref (bs.getD j 0), .int (ns.getD j 0)]) := fun j hj => by
    rw [← hHn, upd_ne (Nat.ne_of_lt (hasl j hj).2)]
    exact updL_at (by rw [hnm]; exact nda) (hmem j hj)
  have hln' : Hn h'.objs.size = some (.lst (π.map fun i => V.ref (as.getD i 0))) := by rw [← hHn]; exact upd_same
  refine wpAny_pure ⟨_, rfl, .ref _, Hn, I.laidAll (t' := tk) (fun b ob qq => up b ob (hkp b ob qq)) old (fun b u hb => ?_), rfl, q _ _ Hn (I.hok.fresh hle) hln' (by rw [List.length_map, hpl]) (fun y hy => ?_) old⟩
  · rw [← hHn] at hb
    by_cases eb : b = h'.objs.size
    · subst eb
      rw [upd_same] at hb
      cases hb
      refine .inr ⟨hle, by rw [List.length_map, sizeLine_eq]; omega, π.map fun i => (as.map Value.ref).getD i Value.none, e, ?_, he⟩
      refine vals_of (by rw [List.length_map, List.length_map]) fun j x u hx hu => ?_
      rw [List.getElem?_map] at hx hu
      cases hp : π[j]? with
      | none => rw [hp] at hx; cases hx
      | some i =>
        rw [hp] at hx hu
        cases hx
        cases hu
        have hi := hπ i (List.mem_of_getElem? hp)
        show RelV (.ref (as.getD i 0)) ((as.map Value.ref).getD i Value.none)
        have e1 : (as.map Value.ref).getD i Value.none = .ref (as.getD i 0) := by
          rw [List.getD_eq_getElem?_getD, List.getElem?_map, List.getD_eq_getElem?_getD, List.getElem?_eq_getElem (show i < as.length by omega)]
          rfl
        rw [e1]
        rfl
    · rw [upd_ne eb] at hb
      rcases updL_mem hb with hb | hb
      · exact .inl hb
      · obtain ⟨j, hj, ej⟩ := hof _ hb
        injection ej with e1 e2
        subst e1 e2
        obtain ⟨tk', f1, f2⟩ := hbs.2 j hj
        refine .inr ⟨Nat.le_of_lt (hasl j hj).1, by show 2 ≤ sizeLine; decide, [.ref (bs.getD j 0), .int (ns.getD j 0) tk'], .cons rfl (.cons ⟨tk', rfl⟩ .nil), _, up _ _ f1, rfl, _, rfl⟩
  · obtain ⟨i, hi, rfl⟩ := List.mem_map.mp hy
    obtain ⟨tk', f1, f2⟩ := hbs.2 i (hπ i hi)
    exact ⟨_, bs.getD i 0, prAt ps i, ns.getD i 0, List.mem_of_getElem? (pr_get (hπ i hi)), (by rw [List.getD_eq_getElem?_getD, List.getElem?_eq_getElem (show i < ns.length by have := hπ i hi; omega)]; exact List.getElem_mem _), rfl, hTn i (hπ i hi), old _ _ f2⟩
end
end L2
namespace L2
open PySem PySem.W PySem.Spec PyProof.Rows
inductive HitsR (pg : Program) (wd : World) (B : Around) (t : Shared) (b : Addr) (fs : Array DictEntry) : List DictEntry → Bool → Prop
  | nil : HitsR pg wd B t b fs [] true
  | miss {e : DictEntry} {r : List DictEntry} (h : ∀ (Q : Option Nat → Shared → Prop) (Ex : Value → Shared → Prop), Q none t → wpAny (model pg wd) B (dictFind b e.key e.hash) Q Ex t) : HitsR pg wd B t b fs (e :: r) false
  | hit {e f : DictEntry} {r : List DictEntry} {j : Nat} {c z : Bool} (h : ∀ (Q : Option Nat → Shared → Prop) (Ex : Value → Shared → Prop), Q (some j) t → wpAny (model pg wd) B (dictFind b e.key e.hash) Q Ex t) (hf : fs[j]? = some f) (hv : SeqAt.EqAt B t e.val f.val c) (rest : HitsR pg wd B t b fs r z) : HitsR pg wd B t b fs (e :: r) (c && z)
section
variable {pg : Program} {wd : World} {B : Around} {Fx : Value → Shared → Prop} {t : Shared} {a b : Addr} {es fs : Array DictEntry} {ep eq : Nat} {r : Bool}
theorem same_raw {nm : String} {R : Bool → Shared → Prop} (na : (a == sysModules) = false) (nb : (b == sysModules) = false) (ra : RawD t.heap a es ep) (rb : RawD t.heap b fs eq) (hits : es.size = fs.size → HitsR pg wd B t b fs es.toList r) (q : R (es.size == fs.size && r) t) :
    wpAny (model pg wd) B (Builtin.Dict.samePairs nm a b) R Fx t := by
  obtain ⟨oa, a1, _, a3⟩ := ra
  obtain ⟨ob, b1, _, b3⟩ := rb
  unfold Builtin.Dict.samePairs Builtin.Dict.showsAll
  rw [if_neg (by rw [na]; decide), if_neg (by rw [nb]; decide)]
  refine wpAny_bind (wpAny_pure (wpAny_bind (wpAny_pure (wpAny_bind (wpAny_dictEntries a1 a3 ?_))))); dsimp only; refine wpAny_bind (wpAny_dictEntries b1 b3 ?_)
  by_cases hz : es.size = fs.size
  case neg =>
    have hf : (es.size == fs.size) = false := by simpa using hz
    rw [hf, Bool.false_and] at q
    rw [if_pos (by simpa using hz)]; exact wpAny_bind (wpAny_rule (wpAny_pure q))
  case pos =>
    have q' : R r t := by simpa [hz] using q
    have hs := hits hz
    rw [if_neg (by rw [hz]; simp)]; refine wpAny_bind (wpAny_dictEpoch a1 a3 (wpAny_bind ?_))
    rw [Std.Legacy.Range.forIn_eq_forIn_range']; simp only [Std.Legacy.Range.size, Nat.sub_zero, Nat.add_sub_cancel, Nat.div_one]
    refine wpAny_forIn_list _ (fun rest x s' => s' = t ∧ x = (none, ()) ∧ ∃ i, rest = List.range' i (es.size - i) ∧ i ≤ es.size ∧ HitsR pg wd B t b fs (es.toList.drop i) r) _ ?_ ?_ _ _ ⟨rfl, rfl, 0, by simp, Nat.zero_le _, hs⟩
    · rintro x rest y s' ⟨rfl, rfl, i, hr, hi, hp⟩
      have hlt : i < es.size := Nat.lt_of_not_le fun z => by rw [Nat.sub_eq_zero_of_le z] at hr; cases hr
      rw [show es.size - i = (es.size - (i + 1)) + 1 by omega, List.range'_succ] at hr
      injection hr with hr1 hr2
      subst hr1
      have hdr : es.toList.drop x = es[x] :: es.toList.drop (x + 1) := by
        rw [List.drop_eq_getElem_cons (by rw [Array.length_toList]; exact hlt)]
        rfl
      rw [hdr] at hp
      refine wpAny_bind (wpAny_dictEntries a1 a3 ?_)
      rw [Array.getElem?_eq_getElem hlt]
      show wpAny _ _ (holding [es[x].key, es[x].val] _ >>= _) _ _ _
      generalize es[x] = e at hp
      generalize hl : e :: es.toList.drop (x + 1) = l at hp
      cases hp with
      | nil => cases hl
      | miss h =>
        injection hl with e1 e2
        subst e1
        refine wpAny_bind (wpAny_holding (wpAny_bind (h _ _ (wpAny_pure ?_))))
        show wpAny _ _ (if (!false) = true then _ else _) _ _ _
        rw [if_pos (by decide)]; exact wpAny_pure (wpAny_pure q')
      | @hit e' f r' j c z h hf hv hrest =>
        injection hl with e1 e2
        subst e1 e2
        refine wpAny_bind (wpAny_holding (wpAny_bind (h _ _ (wpAny_bind (wpAny_dictEntries b1 b3 ?_)))))
        rw [hf]
        refine wpAny_holding (hv pg wd _ _ ?_)
        cases c with
        | false =>
          rw [Bool.false_and] at q'
          show wpAny _ _ (if (!false) = true then _ else _) _ _ _
          rw [if_pos (by decide)]; exact wpAny_pure (wpAny_pure q')
        | true =>
          rw [Bool.true_and] at q' ⊢
          show wpAny _ _ (if (!true) = true then _ else _) _ _ _
          rw [if_neg (by decide)]; refine wpAny_bind (wpAny_dictEpoch a1 a3 ?_)
          rw [if_neg (by simp)]; exact wpAny_pure ⟨rfl, rfl, x + 1, hr2, hlt, hrest⟩
    · rintro x s' ⟨rfl, rfl, i, hr, hi, hp⟩
      have hie : i = es.size := Nat.le_antisymm hi (Nat.le_of_not_lt fun z => by rw [show es.size - i = (es.size - (i + 1)) + 1 by omega, List.range'_succ] at hr; cases hr)
      rw [hie, ← Array.length_toList, List.drop_length] at hp
      refine wpAny_pure ?_
      cases hp
      exact q'
theorem eq_raw {R : Value → Shared → Prop} (hu : B.units < cLine) (na : (a == sysModules) = false) (nb : (b == sysModules) = false) (ra : RawD t.heap a es ep) (rb : RawD t.heap b fs eq) (hits : es.size = fs.size → HitsR pg wd B.in1 t b fs es.toList r) (q : R (.bool (es.size == fs.size && r)) t) :
    wpAny (model pg wd) B (compareOp .Eq (.ref a) (.ref b)) R Fx t := by
  refine wpAny_richCompare_same_room (op := .Eq) ra.ty rb.ty PySem.F.slot_dict_eq (wpAny_call_entry PySem.F.slot_dict_eq ra.ty PySem.F.entry_dict_eq ?_ (PySem.F.args_dict_eq_2 _ _)) hu
  show wpAny _ _ (Builtin.Dict.dictSlotArgs "__eq__" ⟨[.ref a, .ref b], []⟩ >>= _) _ _ t
  unfold Builtin.Dict.dictSlotArgs
  refine wpAny_bind (wpAny_bind (wpAny_notOrdered_dict ra.ty ?_)); show wpAny _ _ (pure (Value.ref a, Value.ref b)) _ _ t; refine wpAny_pure (wpAny_bind (wpAny_isInstance (T := "dict") rb.ty PySem.F.sub_dict_dict ?_))
  simp only [Bool.not_true, Bool.false_eq_true, if_false]; refine wpAny_bind (wpAny_pure (wpAny_bind (wpAny_pure (wpAny_bind (same_raw na nb ra rb hits (wpAny_pure ⟨_, rfl, (fun x => nomatch x), ?_⟩))))))
  simpa using q
theorem ne_raw {R : Value → Shared → Prop} (hu : B.units < cLine) (na : (a == sysModules) = false) (nb : (b == sysModules) = false) (ra : RawD t.heap a es ep) (rb : RawD t.heap b fs eq) (hits : es.size = fs.size → HitsR pg wd B.in1 t b fs es.toList r) (q : R (.bool (!(es.size == fs.size && r))) t) :
    wpAny (model pg wd) B (compareOp .NotEq (.ref a) (.ref b)) R Fx t := by
  refine wpAny_richCompare_same_room (op := .NotEq) ra.ty rb.ty PySem.F.slot_dict_ne (wpAny_call_entry PySem.F.slot_dict_ne ra.ty PySem.F.entry_dict_ne ?_ (PySem.F.args_dict_ne_2 _ _)) hu
  show wpAny _ _ (Builtin.Dict.dictSlotArgs "__ne__" ⟨[.ref a, .ref b], []⟩ >>= _) _ _ t
  unfold Builtin.Dict.dictSlotArgs
  refine wpAny_bind (wpAny_bind (wpAny_notOrdered_dict ra.ty ?_)); show wpAny _ _ (pure (Value.ref a, Value.ref b)) _ _ t; refine wpAny_pure (wpAny_bind (wpAny_isInstance (T := "dict") rb.ty PySem.F.sub_dict_dict ?_))
  simp only [Bool.not_true, Bool.false_eq_true, if_false]; refine wpAny_bind (wpAny_pure (wpAny_bind (wpAny_pure (wpAny_bind (same_raw na nb ra rb hits (wpAny_pure ⟨_, rfl, (fun x => nomatch x), ?_⟩))))))
  simpa using q
end
def eqTT (ka kb : List (List Key × V)) : Bool := (ka.length == kb.length) && ka.all fun kv => match valV kb kv.1 with
  | some (.int n) => eqN kv.2 n
  | _ => false
section
variable {X : Cx} {pins : List (Addr × Obj)} {σ : St} {H : Hp} {s : Shared}
theorem find_dT {A : Around} {b : Addr} {kb : List (List Key × V)} {k : List Key} {c : Addr} {o : Obj} {fs : Array DictEntry} {eq : Nat} (I : Inv X pins σ H s) (hu : A.units < cLine) (hb : H b = some (.dT kb)) (hc : H c = some (.tup (k.map kV))) (ho : s.heap.get? b = some o) (hd : o.data = .dict fs eq) :
    (valV kb k = none ∧ ∀ (Q : Option Nat → Shared → Prop) (Ex : Value → Shared → Prop), Q none s → wpAny (model X.prog X.w) A (dictFind b (.ref c) ((tupleKind (mixKind X.prog X.w)).hash k)) Q Ex s) ∨
    ∃ (j : Nat) (f : DictEntry) (v : V), valV kb k = some v ∧ fs[j]? = some f ∧ RelV v f.val ∧ ∀ (Q : Option Nat → Shared → Prop) (Ex : Value → Shared → Prop), Q (some j) s → wpAny (model X.prog X.w) A (dictFind b (.ref c) ((tupleKind (mixKind X.prog X.w)).hash k)) Q Ex s := by
  obtain ⟨_, _, xs, r, o2, es2, ep2, h1, h2, h3, h4, h5, h6⟩ := dt_of I.hok hb
  have e1 : o2 = o := Option.some.inj (h1.symm.trans ho)
  subst e1
  rw [hd] at h3
  have e2 : fs = es2 := by injection h3
  subst e2
  have hv := r.val k
  by_cases hx : ∃ (j : Nat) (p : Addr × Value), xs[j]? = some (k, p)
  · obtain ⟨j, p, hj⟩ := hx
    rw [atKey_of_get h6 hj] at hv
    cases hvv : valV kb k with
    | none => rw [hvv] at hv; exact hv.elim
    | some v =>
      rw [hvv] at hv
      refine .inr ⟨j, entryOfKey (tupleKind (mixKind X.prog X.w)) (k, p), v, rfl, (by rw [entry_at h4 j, hj]; rfl), hv, fun Q Ex q => ?_⟩
      refine wpAny_dictFind_heap hu (key_of I.hok hc) ho hd h4 h5 h6 (fun no => absurd hj (no j p)) fun j' p' hj' => ?_
      rw [idxH_unique h6 hj' hj]
      exact q
  · have no : ∀ (j : Nat) (p : Addr × Value), xs[j]? ≠ some (k, p) := fun j p z => hx ⟨j, p, z⟩
    rw [atKey_none_of_get no] at hv
    refine .inl ⟨?_, fun Q Ex q => wpAny_dictFind_heap hu (key_of I.hok hc) ho hd h4 h5 h6 (fun _ => q) fun j p hj => absurd hj (no j p)⟩
    cases hvv : valV kb k with
    | none => rfl
    | some v => rw [hvv] at hv; exact hv.elim
theorem hits_dT {A : Around} {b : Addr} {kb : List (List Key × V)} {o : Obj} {fs : Array DictEntry} {eq : Nat} (I : Inv X pins σ H s) (hu : A.units < cLine) (hb : H b = some (.dT kb)) (ho : s.heap.get? b = some o) (hd : o.data = .dict fs eq) (hn : ∀ k v, valV kb k = some v → ∃ n, v = .int n) :
    ∀ {ka : List (List Key × V)} {xs : List (List Key × Addr × Value)}, Paired (fun (p : List Key × V) (q : List Key × Addr × Value) => p.1 = q.1 ∧ H q.2.1 = some (.tup (p.1.map kV)) ∧ RelV p.2 q.2.2) ka xs → (∀ kv ∈ ka, Vs H kv.2) →
      HitsR X.prog X.w A s b fs (xs.map (entryOfKey (tupleKind (mixKind X.prog X.w)))) (ka.all fun kv => match valV kb kv.1 with | some (.int n) => eqN kv.2 n | _ => false)
  | _, _, .nil, _ => .nil
  | kv :: ka, x :: xs, .cons ⟨f1, f2, f3⟩ r, hv => by
    have ih := hits_dT I hu hb ho hd hn r fun y hy => hv y (List.mem_cons_of_mem _ hy)
    rw [List.map_cons, List.all_cons]
    have ek : (entryOfKey (tupleKind (mixKind X.prog X.w)) x) = ⟨(tupleKind (mixKind X.prog X.w)).hash kv.1, .ref x.2.1, x.2.2⟩ := by rw [f1]; rfl
    rw [ek]
    rcases find_dT I hu hb f2 ho hd with ⟨g1, g2⟩ | ⟨j, f, v, g1, g2, g3, g4⟩
    · rw [g1]
      exact .miss g2
    · obtain ⟨n, rfl⟩ := hn _ _ g1
      rw [g1]
      exact .hit g4 g2 (Vs.at I hu (hv kv List.mem_cons_self) f3 g3) ih
def rTT (neg : Bool) : R2 := fun x y H Q => ∃ (p q : Addr) (ka kb : List (List Key × V)), x = .ref p ∧ y = .ref q ∧ H p = some (.dT ka) ∧ H q = some (.dT kb) ∧ (∀ kv ∈ ka, Vs H kv.2) ∧ (∀ k v, valV kb k = some v → ∃ n, v = .int n) ∧ Q (.bl (if neg then !eqTT ka kb else eqTT ka kb)) H
theorem op_eqTT (hu : X.A.units + 1 < cLine) : OpR X (compareOp .Eq) (rTT false) := by
  intro pins s σ H x y v u Q I rx ry h
  obtain ⟨p, q, ka, kb, rfl, rfl, hp, hq, hv, hn, k⟩ := h
  cases rx
  cases ry
  have oka := (show ObjOk X.prog X.w H s.heap p (.dT ka) from I.hok p _ hp)
  have okb := (show ObjOk X.prog X.w H s.heap q (.dT kb) from I.hok q _ hq)
  obtain ⟨_, na, xs, r, o, es, ep, a1, a2, a3, a4, _⟩ := id oka
  obtain ⟨_, nb, xs', r', o', fs, eq, b1, b2, b3, b4, _⟩ := id okb
  have za := dT_size oka a1 a3
  have zb := dT_size okb b1 b3
  refine eq_raw (by omega) na nb ⟨o, a1, a2, a3⟩ ⟨o', b1, b2, b3⟩ (fun _ => by rw [a4]; exact hits_dT I (A := X.A.in1) (by show X.A.units + 1 < cLine; exact hu) hq b1 b3 hn r hv) ?_
  rw [za, zb]
  exact ⟨.bl (eqTT ka kb), H, I, rfl, k⟩
theorem op_neTT (hu : X.A.units + 1 < cLine) : OpR X (compareOp .NotEq) (rTT true) := by
  intro pins s σ H x y v u Q I rx ry h
  obtain ⟨p, q, ka, kb, rfl, rfl, hp, hq, hv, hn, k⟩ := h
  cases rx
  cases ry
  have oka := (show ObjOk X.prog X.w H s.heap p (.dT ka) from I.hok p _ hp)
  have okb := (show ObjOk X.prog X.w H s.heap q (.dT kb) from I.hok q _ hq)
  obtain ⟨_, na, xs, r, o, es, ep, a1, a2, a3, a4, _⟩ := id oka
  obtain ⟨_, nb, xs', r', o', fs, eq, b1, b2, b3, b4, _⟩ := id okb
  have za := dT_size oka a1 a3
  have zb := dT_size okb b1 b3
  refine ne_raw (by omega) na nb ⟨o, a1, a2, a3⟩ ⟨o', b1, b2, b3⟩ (fun _ => by rw [a4]; exact hits_dT I (A := X.A.in1) (by show X.A.units + 1 < cLine; exact hu) hq b1 b3 hn r hv) ?_
  rw [za, zb]
  exact ⟨.bl (!eqTT ka kb), H, I, rfl, k⟩
end
section
variable {pg : Program} {wd : World} {B : Around} {Fx : Value → Shared → Prop} {t : Shared}
theorem find_text {b c : Addr} {o : Obj} {h0 h : Int} {v : Value} {eq : Nat} {k : List Key} {x : Str} {tk : Tok} {Q : Option Nat → Shared → Prop} (hu : B.units < cLine) (ho : t.heap.get? b = some o) (hd : o.data = .dict #[⟨h0, .ref c, v⟩] eq) (hk : IsTupleKey (mixKind pg wd) t.heap k c) (q : Q none t) : wpAny (model pg wd) B (dictFind b (.str x tk) h) Q Fx t := by
  obtain ⟨ot, its, n, q1, q2, q3, _⟩ := id hk
  have hq : t.heap.IsTuple c its := ⟨ot, q1, q2, n, q3⟩
  unfold dictFind
  refine wpAny_holding (wpAny_bind (wpAny_dictEntries ho hd ?_))
  dsimp only
  rw [if_neg (by simp [isExactStrKey])]
  by_cases e : (h0 == h) = true
  · have hp : placesWithHash (#[(⟨h0, .ref c, v⟩ : DictEntry)]).size (fun i => (#[(⟨h0, .ref c, v⟩ : DictEntry)])[i]?.map (·.hash)) h = [0] := by
      rw [placesWithHash]
      show List.filter _ [0] = _
      rw [List.filter_cons]
      simp [e]
    rw [hp]
    rw [if_neg (by intro z; cases z)]
    show wpAny _ _ ((if ([Value.ref c] == [Value.str x tk]) = true then _ else _) >>= _) _ _ t
    rw [if_neg (by intro z; have := eq_of_beq z; cases this)]
    refine wpAny_bind ?_
    rw [eqIsQuiet_byValue _ (show carriedByValue (Value.str x tk) = true from rfl)]
    refine wpAny_bind (wpAny_pure ?_)
    simp only [Bool.not_true, Bool.false_eq_true, if_false]
    refine wpAny_bind ?_
    show wpAny _ _ (forIn [Value.ref c] _ _) _ _ t
    rw [List.forIn_cons]
    refine wpAny_bind (wpAny_bind (wpAny_eqIsQuiet_tuple hk ?_))
    simp only [Bool.not_true, Bool.false_eq_true, if_false]
    refine wpAny_pure ?_
    dsimp only
    rw [List.forIn_nil]
    refine wpAny_pure (wpAny_pure ?_)
    simp only [Bool.false_and, Bool.false_eq_true, if_false]
    refine wpAny_bind ?_
    rw [List.forIn_cons]
    refine wpAny_bind ?_
    show wpAny _ _ (if (h0 == h) = true then _ else _) _ _ t
    rw [if_pos e]
    refine wpAny_bind (wpAny_dictEpoch ho hd (wpAny_bind (SeqAt.EqAt.tuple_str x tk hq hu pg wd _ _ (wpAny_bind (wpAny_dictEpoch ho hd ?_)))))
    show wpAny _ _ (if (eq != eq) = true then _ else _) _ _ t
    rw [if_neg (by simp)]
    simp only [Bool.false_eq_true, if_false]
    refine wpAny_bind (wpAny_rule ?_)
    refine wpAny_pure ?_
    dsimp only
    rw [List.forIn_nil]
    exact wpAny_pure (wpAny_pure q)
  · have hp : placesWithHash (#[(⟨h0, .ref c, v⟩ : DictEntry)]).size (fun i => (#[(⟨h0, .ref c, v⟩ : DictEntry)])[i]?.map (·.hash)) h = [] := by
      rw [placesWithHash]
      show List.filter _ [0] = _
      rw [List.filter_cons]
      simp [e]
    rw [hp]
    rw [if_pos (by rfl)]
    unfold dictWalkPlain
    refine wpAny_bind ?_
    rw [List.forIn_nil]
    exact wpAny_pure (wpAny_pure q)
end
section
variable {X : Cx}
def rKT : R2 := fun x y H Q => ∃ (p q : Addr) (z : Str) (w : V) (kb : List (List Key × V)), x = .ref p ∧ y = .ref q ∧ H p = some (.dK [(.inr z, w)]) ∧ H q = some (.dT kb) ∧ Q (.bl false) H
theorem op_eqKT (hu : X.A.units + 1 < cLine) : OpR X (compareOp .Eq) rKT := by
  intro pins s σ H x y v u Q I rx ry h
  obtain ⟨p, q, z, w, kb, rfl, rfl, hp, hq, k⟩ := h
  cases rx
  cases ry
  have oka := (show ObjOk X.prog X.w H s.heap p (.dK [(.inr z, w)]) from I.hok p _ hp)
  have okb := (show ObjOk X.prog X.w H s.heap q (.dT kb) from I.hok q _ hq)
  obtain ⟨_, na, vs, r, o, es, ep, a1, a2, a3, _⟩ := id oka
  obtain ⟨_, nb, xs', r', o', fs, eq, b1, b2, b3, b4, _⟩ := id okb
  have za := ent_size (.inr ⟨_, rfl⟩) oka a1 a3
  have za : es.size = 1 := za
  have zb := dT_size okb b1 b3
  obtain ⟨e, kx, vx, g1, g2, g3, g4⟩ := ent_at (i := 0) (.inr ⟨_, rfl⟩) oka a1 a3 (show 0 < 1 by decide)
  obtain ⟨kv, g5, g6, _⟩ := g2
  cases g5
  rw [g6] at g3
  obtain ⟨tk, g3⟩ := (show ∃ t, e.key = Value.str z t from g3)
  have hes : es.toList = [e] := by
    have h0 : 0 < es.size := by omega
    have : es.toList[0]? = some e := by rw [Array.getElem?_toList]; exact g1
    match hl : es.toList, this with
    | [], z => cases z
    | [y], z => cases z; rfl
    | y :: y' :: l, _ =>
      have := congrArg List.length hl
      rw [Array.length_toList, za] at this
      cases this
  refine eq_raw (r := false) (by omega) na nb ⟨o, a1, a2, a3⟩ ⟨o', b1, b2, b3⟩ (fun hz => ?_) ?_
  · rw [hes]
    refine .miss fun Q' Ex q' => ?_
    have hk0 : kb[0]? = some (kb[0]'(by omega)) := List.getElem?_eq_getElem _
    obtain ⟨c, v, f1, f2, f3⟩ := dT_entry okb b1 b3 hk0
    have hfs : fs = #[⟨(tupleKind (mixKind X.prog X.w)).hash (kb[0]'(by omega)).1, .ref c, v⟩] := by
      apply Array.toList_inj.mp
      have : fs.toList[0]? = some ⟨(tupleKind (mixKind X.prog X.w)).hash (kb[0]'(by omega)).1, .ref c, v⟩ := by rw [Array.getElem?_toList]; exact f1
      match hl : fs.toList, this with
      | [], z => cases z
      | [y], z => cases z; rfl
      | y :: y' :: l, _ =>
        have := congrArg List.length hl
        rw [Array.length_toList, ← hz, za] at this
        cases this
    rw [g3]
    rw [hfs] at b3
    exact find_text (B := X.A.in1) (by show X.A.units + 1 < cLine; exact hu) b1 b3 (key_of I.hok f2) q'
  · rw [Bool.and_false]
    exact ⟨.bl false, H, I, rfl, k⟩
end
end L2
namespace L2
open PySem PySem.W PySem.Spec PyProof.Rows
def thash (p : Int × Int) : Int := reduceHash (Builtin.Tuple.tupleHashOf [hashInt p.1, hashInt p.2])
section
variable {pg : Program} {wd : World} {B : Around} {Fx : Value → Shared → Prop} {t : Shared} {d o : Addr} {es : Array DictEntry} {ep eq : Nat}
theorem quiet_tup {c : Addr} {R : Bool → Shared → Prop} (hc : t.TypeIs (.ref c) "tuple") (q : R false t) : wpAny (model pg wd) B (Builtin.Dict.quietEq (.ref c)) R Fx t := by
  unfold Builtin.Dict.quietEq
  exact wpAny_bind (wpAny_specialOf hc F.slot_tuple_eq.lookup (wpAny_pure q))
theorem copy_entries {id : String} {R : Array DictEntry → Shared → Prop} (r : RawD t.heap o es ep) (hk : ∀ e ∈ es.toList, ∃ c, e.key = .ref c ∧ t.TypeIs (.ref c) "tuple") (nd : (es.toList.map (·.hash)).Nodup) (q : R es t) : wpAny (model pg wd) B (Builtin.Dict.entriesForEmpty id o) R Fx t := by
  obtain ⟨ob, e1, _, e3⟩ := r
  unfold Builtin.Dict.entriesForEmpty
  refine wpAny_bind (wpAny_dictEntries e1 e3 (wpAny_bind ?_))
  rw [← Array.forIn_toList]
  refine wpAny_forIn_list _ (fun rest _ s' => s' = t ∧ ∀ e ∈ rest, e ∈ es.toList) _ ?_ ?_ _ _ ⟨rfl, fun e he => he⟩
  · rintro e rest x s' ⟨rfl, hr⟩
    have he := hr e List.mem_cons_self
    obtain ⟨c, k1, k2⟩ := hk e he
    have one : ¬ (es.filter (·.hash == e.hash)).size > 1 := by
      rw [← Array.length_toList, Array.toList_filter]
      have gen : ∀ l : List DictEntry, (l.map (·.hash)).Nodup → (l.filter (·.hash == e.hash)).length ≤ 1 := fun l => by
        induction l with
        | nil => intro _; exact Nat.zero_le _
        | cons y l ih =>
          intro h
          obtain ⟨h1, h2⟩ := List.nodup_cons.mp h
          rw [List.filter_cons]
          by_cases c : (y.hash == e.hash) = true
          · rw [if_pos c]
            have : l.filter (·.hash == e.hash) = [] := List.filter_eq_nil_iff.mpr fun z hz hzz => h1 (List.mem_map.mpr ⟨z, hz, (eq_of_beq hzz).trans (eq_of_beq c).symm⟩)
            rw [this]
            exact Nat.le_refl _
          · rw [if_neg c]
            exact ih h2
      have := gen es.toList nd
      omega
    rw [k1]
    refine wpAny_bind (quiet_tup k2 ?_)
    simp only [Bool.not_false, if_true]
    rw [if_neg one]
    exact wpAny_pure ⟨rfl, fun y hy => hr y (List.mem_cons_of_mem _ hy)⟩
  · rintro x s' ⟨rfl, _⟩
    exact wpAny_pure q
theorem copy_raw {nm : String} {R : Unit → Shared → Prop} (hdo : d ≠ o) (no : (o == sysModules) = false) (rd : RawD t.heap d #[] eq) (r : RawD t.heap o es ep) (hk : ∀ e ∈ es.toList, ∃ c, e.key = .ref c ∧ t.TypeIs (.ref c) "tuple") (nd : (es.toList.map (·.hash)).Nodup) (hz : es.size ≤ sizeLine)
    (q : ∀ g ep', RawD g d es ep' → Heap.SameBut d t.heap g → R () { t with heap := g }) : wpAny (model pg wd) B (Builtin.Dict.mergeDict nm d o) R Fx t := by
  have rd' := rd
  obtain ⟨od, d1, d2, d3⟩ := rd
  obtain ⟨oo, o1, o2, o3⟩ := id r
  unfold Builtin.Dict.mergeDict Builtin.Dict.showsAll
  rw [if_neg (by simpa using hdo), if_neg (by rw [no]; decide)]
  refine wpAny_bind (wpAny_pure (wpAny_bind (wpAny_dictEntries o1 o3 ?_)))
  dsimp only
  by_cases h0 : es = #[]
  · subst h0
    rw [if_neg (by simp)]
    refine wpAny_bind (wpAny_dictEpoch o1 o3 (wpAny_bind (wpAny_dictEntries o1 o3 (wpAny_bind ?_))))
    rw [Std.Legacy.Range.forIn_eq_forIn_range']
    simp only [Std.Legacy.Range.size, Nat.sub_zero, Nat.add_sub_cancel, Nat.div_one]
    show wpAny _ _ (forIn ([] : List Nat) _ _) _ _ _
    rw [List.forIn_nil]
    exact wpAny_pure (wpAny_pure (q _ _ rd' (Heap.SameBut.refl _ _)))
  · have few : (decide (es.size ≤ 8) && es.all fun e => (keyPart e.key).isSome) = false := by
      have : (es.all fun e => (keyPart e.key).isSome) = false := by
        rw [← Array.all_toList]
        cases hl : es.toList with
        | nil => exact absurd (Array.toList_inj.mp (by rw [hl])) h0
        | cons e l =>
          obtain ⟨c, k1, _⟩ := hk e (by rw [hl]; exact List.mem_cons_self)
          rw [List.all_cons, k1]
          rfl
      rw [this, Bool.and_false]
    rw [few]
    simp only [Bool.not_false, if_true]
    refine wpAny_bind (wpAny_dictEntries d1 d3 ?_)
    rw [if_pos (by rfl)]
    refine wpAny_bind (copy_entries r hk nd ?_)
    rw [if_pos (by
      cases hl : es.isEmpty with
      | false => rfl
      | true => exact absurd (Array.isEmpty_iff.mp hl) h0)]
    refine wpAny_bind (wpAny_updateDictKeysTo d1 d3 (wpAny_pure (q _ _ ⟨_, Heap.get?_update_self _ d1 (Obj.isFreed_of_dict (Obj.data_mapDictKeys d3 _)), d2.mapDictKeys _, Obj.data_mapDictKeys d3 _⟩ (Heap.SameBut.update ..))) (by omega))
end
section
variable {X : Cx}
theorem call_dictC : CallR X (.type "dict") (fun xs H Q => ∃ (p : Addr) (kvs : List (List Key × V)) (ps : List (Int × Int)), xs = [.ref p] ∧ H p = some (.dT kvs) ∧ kvs.map (·.1) = ps.map pkey ∧ (ps.map thash).Nodup ∧ ∀ d, H d = none → Q (.ref d) (upd H d (.dT kvs))) := by
  intro pins s σ H xs us Q I r h
  obtain ⟨p, kvs, ps, rfl, hp, hk, nd, q⟩ := h
  obtain ⟨u, rfl, rx⟩ := vals1 r
  cases rx
  have hnone : H s.heap.objs.size = none := I.hok.fresh (Nat.le_refl _)
  have I0 : Inv X pins σ (upd H s.heap.objs.size (.dT [])) { s with heap := s.heap.push { cls := .type "dict", data := .dict #[] } } := I.laid (a := s.heap.objs.size) (o := .dT []) (t' := s.toks) (fun _ _ q => Heap.get?_push_of_some _ q) (Nat.le_refl _) (dt_empty s.heap I.big)
  have np : p ≠ s.heap.objs.size := ne_of_none hp hnone
  have hp0 : upd H s.heap.objs.size (.dT []) p = some (.dT kvs) := by rw [upd_ne np]; exact hp
  have hS : Shared.TypeIs { s with heap := s.heap.push { cls := .type "dict", data := .dict #[] } } (.ref s.heap.objs.size) "dict" := ⟨_, Heap.get?_push_size _ rfl, rfl⟩
  have ok := (show ObjOk X.prog X.w _ (s.heap.push { cls := .type "dict", data := .dict #[] }) p (.dT kvs) from I0.hok p _ hp0)
  obtain ⟨hz, nm, xs0, r0, o, es, ep, e1, e2, e3, e4, e5⟩ := id ok
  have hsz := dT_size ok e1 e3
  have hTp : Shared.TypeIs { s with heap := s.heap.push { cls := .type "dict", data := .dict #[] } } (.ref p) "dict" := ⟨o, e1, e2.1⟩
  refine callType_codes (Q₁ := fun v s1 => v = .ref s.heap.objs.size ∧ s1 = { s with heap := s.heap.push { cls := .type "dict", data := .dict #[] } }) PySem.F.kt_called_dict (PySem.F.kt_typeCall_dict_1 _) PySem.F.entry_dict_init (kt_code_dict_new _ ⟨rfl, rfl⟩) ?_
  rintro v s1 ⟨rfl, rfl⟩
  refine ⟨hS, PySem.F.args_dict_init_2 _ _, ?_⟩
  unfold Builtin.«dict.__init__» Builtin.Dict.selfAndRest
  refine wpAny_bind (wpAny_bind (wpAny_notOrdered_dict hS ?_))
  refine wpAny_pure ?_
  show wpAny _ _ (Builtin.Dict.updateFrom "dict.__init__" s.heap.objs.size (.ref p) [] .none) _ _ _
  unfold Builtin.Dict.updateFrom Builtin.Dict.merge Builtin.Dict.readDirectly
  refine wpAny_bind (wpAny_typeOf hTp ?_)
  rw [if_neg (by decide)]
  refine wpAny_bind (wpAny_bind (wpAny_bind (wpAny_isInstance hTp isSubtype_dict_dict ?_)))
  simp only [Bool.not_true, Bool.false_eq_true, if_false]
  refine wpAny_bind (wpAny_specialOf hTp F.slot_dict_iter.lookup (wpAny_pure ?_))
  simp only [beq_self_eq_true, if_true]
  have hent : ∀ j, j < es.size → ∃ (c : Addr) (v : Value), es[j]? = some ⟨thash (prAt ps j), .ref c, v⟩ ∧ upd H s.heap.objs.size (.dT []) c = some (.tup ((pkey (prAt ps j)).map kV)) := fun j hj => by
    have hjk : j < kvs.length := by omega
    have hlen : kvs.length = ps.length := by have := congrArg List.length hk; rwa [List.length_map, List.length_map] at this
    have a1 : (kvs.map (·.1))[j]? = some (pkey (prAt ps j)) := by rw [hk, List.getElem?_map, pr_get (by omega)]; rfl
    rw [List.getElem?_map, List.getElem?_eq_getElem hjk] at a1
    have a1 : kvs[j].1 = pkey (prAt ps j) := Option.some.inj a1
    obtain ⟨b, v, g1, g2, g3⟩ := dT_entry ok e1 e3 (List.getElem?_eq_getElem hjk)
    rw [a1] at g1 g2
    exact ⟨b, v, g1, g2⟩
  have hsl : es.size = ps.length := by have := congrArg List.length hk; rw [List.length_map, List.length_map] at this; omega
  refine wpAny_bind (wpAny_pure (copy_raw (Ne.symm np) nm ⟨_, Heap.get?_push_size _ rfl, ⟨rfl, rfl, rfl⟩, rfl⟩ ⟨o, e1, e2, e3⟩ (fun e he => ?_) ?_ (by omega) fun g ep' rg sb => ?_))
  · obtain ⟨j, hj⟩ := List.getElem?_of_mem he
    rw [Array.getElem?_toList] at hj
    obtain ⟨c, v, g1, g2⟩ := hent j (Array.getElem?_eq_some_iff.mp hj).1
    rw [g1] at hj
    cases hj
    obtain ⟨oc, its, m, c1, c2, _⟩ := key_of I0.hok g2
    exact ⟨c, rfl, oc, c1, c2⟩
  · have : es.toList.map (·.hash) = ps.map thash := by
      refine List.ext_getElem? fun j => ?_
      rw [List.getElem?_map, List.getElem?_map, Array.getElem?_toList]
      by_cases hj : j < es.size
      · obtain ⟨c, v, g1, _⟩ := hent j hj
        rw [g1, pr_get (by omega)]
        rfl
      · rw [Array.getElem?_eq_none (by omega), List.getElem?_eq_none (by omega)]
        rfl
    rw [this]
    exact nd
  · show wpAny _ _ (Builtin.Dict.addKeywords s.heap.objs.size [] >>= _) _ _ _
    refine wpAny_bind (wpAny_pure (wpAny_pure ?_))
    obtain ⟨og, g1, g2, g3⟩ := rg
    have hd0 : (s.heap.objs.size == sysModules) = false := by
      have := I.big
      exact beq_eq_false_iff_ne.mpr (Nat.ne_of_gt this)
    have I2 : Inv X pins σ (upd (upd H s.heap.objs.size (.dT [])) s.heap.objs.size (.dT kvs)) { s with heap := g } :=
      d_write (s := { s with heap := s.heap.push { cls := .type "dict", data := .dict #[] } }) (t' := s.toks) I0 (by rw [upd_same]; exact True.intro) sb ⟨og, g1⟩
        ⟨hz, hd0, xs0, Paired.mapP r0 fun a b z => ⟨z.1, by rw [upd_ne (fun e => by rw [e, upd_same] at z; cases z.2.1)]; exact z.2.1, z.2.2⟩, og, es, ep', g1, g2, g3, e4, e5⟩
    rw [upd_upd] at I2
    exact ⟨rfl, .ref s.heap.objs.size, _, I2, rfl, q _ hnone⟩
end
end L2
namespace L2
open PySem PySem.Spec PyProof.Rows
def putAllT (kvs : List (List Key × V)) : List (List Key × V) → List (List Key × V)
  | [] => kvs
  | (k, v) :: r => putAllT (putK kvs k v) r
section
variable {X : Cx} {pins : List (Addr × Obj)} {σ : St} {A : Around}
theorem dict_loopT {a it d : Addr} (room : A.units + 1 < cLine) (hh : A.handled = none) (nd : d ≠ it) : ∀ (ps : List (List Key × V)) (done : List V) (refs : List V) (i : Int) (t : Tok) (s : Shared) (H : Hp) (kvs : List (List Key × V)) (R : Result → Shared → Prop), Inv X pins σ H s → FpOk X pins H it → s.heap.IsListIter it a done.length →
    H a = some (.lst (done ++ refs)) → H d = some (.dT kvs) → kvs.length + ps.length < sizeLine → refs.length = ps.length → (∀ (j : Nat) (k : List Key) (v : V), ps[j]? = some (k, v) → ∃ q b, refs[j]? = some (.ref q) ∧ H q = some (.tup [.ref b, v]) ∧ H b = some (.tup (k.map kV))) →
    (∀ s', Inv X pins σ (upd H d (.dT (putAllT kvs ps))) s' → R (.ok (.ret .none)) s') → codeAny (model X.prog X.w) A (.builtin "dict.update.loop" ⟨[.ref d, .ref it, .int i t, .none], []⟩) R s
  | [], done, refs, i, t, s, H, kvs, R, I, hf, st, ha, hd, hz, hl, hp, h => by
    obtain rfl : refs = [] := List.eq_nil_of_length_eq_zero hl
    obtain ⟨its, rv, pl, _⟩ := I.list (SqL.of (K := X.K) ha)
    obtain ⟨f0, f1, f2, f3, f4, f5⟩ := hf
    have hlen := rv.length
    refine codeAny_builtin entry_dul ?_
    rw [Around.under_plainId plain_dul _]
    unfold Builtin.«dict.update.loop»
    dsimp only
    refine wpAny_bind (wpAny_pyNext_list_end (by rw [Around.in1_handled]; exact hh) st pl.isList (by rw [List.append_nil] at hlen; simp; omega) fun h' eb => ?_)
    refine wpAny_bind (wpAny_pure (wpAny_pure (h _ ?_)))
    have I1 : Inv X pins σ H { s with heap := h' } := I.turned (t' := s.toks) (fun b o hb e => eb b o hb e) f0 f1 f3 f4 f5
    have e : upd H d (.dT kvs) = H := funext fun b => by
      by_cases hb : b = d
      · subst hb; rw [upd_same, hd]
      · rw [upd_ne hb]
    show Inv X pins σ (upd H d (.dT kvs)) _
    rw [e]
    exact I1
  | (k, v) :: ps, done, [], i, t, s, H, kvs, R, I, hf, st, ha, hd, hz, hl, hp, h => by cases hl
  | (k, v) :: ps, done, r :: refs, i, t, s, H, kvs, R, I, hf, st, ha, hd, hz, hl, hp, h => by
    obtain ⟨q, b, hr, hq, hb⟩ := hp 0 k v rfl
    obtain rfl : r = .ref q := Option.some.inj hr
    obtain ⟨its, rv, pl, _⟩ := I.list (SqL.of (K := X.K) ha)
    obtain ⟨u, hu, ru⟩ := rv.get (show (done ++ V.ref q :: refs)[done.length]? = some (.ref q) by simp)
    obtain rfl : u = Value.ref q := ru
    have hf' := hf
    obtain ⟨f0, f1, f2, f3, f4, f5⟩ := hf
    refine codeAny_builtin entry_dul ?_
    rw [Around.under_plainId plain_dul _]
    unfold Builtin.«dict.update.loop»
    dsimp only
    refine wpAny_bind (wpAny_pyNext_list_item st pl.isList (x := .ref q) (by simpa using hu) fun h1 st1 sb1 => ?_)
    have I1 : Inv X pins σ H { s with heap := h1 } := I.turned (t' := s.toks) (fun b o hb e => (sb1.2 b hb).trans e) f0 f1 f3 f4 f5
    obtain ⟨its2, rv2, p2, _⟩ := I1.tuple (SqT.of (K := X.K) hq)
    obtain ⟨kt, vv, rfl, rk, rvv⟩ := vals2 rv2
    obtain rfl : kt = Value.ref b := rk
    obtain ⟨oq, hoq, hcq, nq, hdq⟩ := (show h1.IsTuple q _ from p2)
    have hT : Shared.TypeIs { s with heap := h1 } (.ref q) "tuple" := ⟨oq, hoq, hcq⟩
    obtain ⟨z0, hsys, vs, rel, dd⟩ := dt_of I1.hok hd
    refine wpAny_bind (wpAny_holding (wpAny_bind (wpAny_tryCatch ?_)))
    unfold Builtin.Dict.pairItems
    refine wpAny_bind (wpAny_typeOf hT ?_)
    rw [if_pos (by decide)]
    refine wpAny_bind (wpAny_seqItems hoq hdq (wpAny_pure ?_))
    show wpAny _ _ (holding [Value.ref b, vv] (dictSet d (.ref b) vv)) _ _ _
    refine wpAny_holding (wpAny_dictSet_heap (knd := tupleKind (mixKind X.prog X.w)) (k := k) (by show A.in1.units < cLine; exact room) (key_of I1.hok hb) dd (fun h2 dd2 sb2 => ?_) (by rw [← Paired.length rel]; exact z0))
    have hl2 : (putK kvs k v).length ≤ sizeLine := by have := length_putK kvs k v; simp only [List.length_cons] at hz; omega
    obtain ⟨q2, es2, ep2, c1, c2, c3, c4, _, c5⟩ := id dd2
    have I2 : Inv X pins σ (upd H d (.dT (putK kvs k v))) { s with heap := h2, toks := s.toks + (tupleKind (mixKind X.prog X.w)).draws k } := d_write (s := { s with heap := h1 }) (t' := s.toks + (tupleKind (mixKind X.prog X.w)).draws k) I1 (by rw [hd]; exact True.intro) sb2 ⟨q2, c1⟩ ⟨hl2, hsys, _, (rel.put k hb rvv).keeps fun c ys ec => by rw [upd_ne (ne_of ec hd (fun z => nomatch z))]; exact ec, q2, es2, ep2, c1, c2, c3, c4, c5⟩
    refine wpAny_pure ⟨plainId_quiet plain_dul _, ?_⟩
    have na : a ≠ d := ne_of ha hd (fun z => nomatch z)
    have st2 : h2.IsListIter it a (done ++ [V.ref q]).length := by
      rw [List.length_append]
      obtain ⟨o, e, r⟩ := st1
      exact ⟨o, (sb2.2 it (Ne.symm nd)).trans e, r⟩
    refine dict_loopT room hh nd ps (done ++ [V.ref q]) refs _ _ _ _ (putK kvs k v) R I2 ⟨?_, f1, f2, f3, f4, f5⟩ st2 ?_ upd_same ?_ (by simpa using hl) (fun j k' v' e => ?_) fun s' I' => h s' ?_
    · rw [upd_ne (Ne.symm nd)]; exact f0
    · rw [upd_ne na, List.append_assoc]; exact ha
    · have := length_putK kvs k v; simp only [List.length_cons] at hz; omega
    · obtain ⟨q', b', e1, e2, e3⟩ := hp (j + 1) k' v' (by simpa using e)
      exact ⟨q', b', by simpa using e1, by rw [upd_ne (ne_of e2 hd (fun z => nomatch z))]; exact e2, by rw [upd_ne (ne_of e3 hd (fun z => nomatch z))]; exact e3⟩
    · rw [upd_upd] at I'
      exact I'
theorem call_dictPT (hc : X.calm = true) (hu : X.A.units + 2 < cLine) : CallR X (.type "dict") (fun xs H Q => ∃ (p : Addr) (refs : List V) (ps : List (List Key × V)), xs = [.ref p] ∧ H p = some (.lst refs) ∧ refs.length = ps.length ∧ ps.length < 100000 ∧ (∀ (j : Nat) (k : List Key) (v : V), ps[j]? = some (k, v) → ∃ q b, refs[j]? = some (.ref q) ∧ H q = some (.tup [.ref b, v]) ∧ H b = some (.tup (k.map kV))) ∧
    ∀ d, H d = none → Q (.ref d) (upd H d (.dT (putAllT [] ps)))) := by
  intro pins s σ H xs us Q I r h
  obtain ⟨p, refs, ps, rfl, hp, hl, hz, hpairs, q⟩ := h
  obtain ⟨u, rfl, rx⟩ := vals1 r
  cases rx
  have hh := I.ok.hd hc
  have hnone : H s.heap.objs.size = none := I.hok.fresh (Nat.le_refl _)
  have I0 : Inv X pins σ (upd H s.heap.objs.size (.dT [])) { s with heap := s.heap.push { cls := .type "dict", data := .dict #[] } } := I.laid (a := s.heap.objs.size) (o := .dT []) (t' := s.toks) (fun _ _ q => Heap.get?_push_of_some _ q) (Nat.le_refl _) (dt_empty s.heap I.big)
  have np : p ≠ s.heap.objs.size := ne_of_none hp hnone
  have hp0 : upd H s.heap.objs.size (.dT []) p = some (.lst refs) := by rw [upd_ne np]; exact hp
  have hS : Shared.TypeIs { s with heap := s.heap.push { cls := .type "dict", data := .dict #[] } } (.ref s.heap.objs.size) "dict" := ⟨_, Heap.get?_push_size _ rfl, rfl⟩
  obtain ⟨_, its, n, rv, _, e0⟩ := I0.lstM hp0
  have hTl : Shared.TypeIs { s with heap := s.heap.push { cls := .type "dict", data := .dict #[] } } (.ref p) "list" := ⟨_, e0, rfl⟩
  refine callType_codes (Q₁ := fun v s1 => v = .ref s.heap.objs.size ∧ s1 = { s with heap := s.heap.push { cls := .type "dict", data := .dict #[] } }) PySem.F.kt_called_dict (PySem.F.kt_typeCall_dict_1 _) PySem.F.entry_dict_init (kt_code_dict_new _ ⟨rfl, rfl⟩) ?_
  rintro v s1 ⟨rfl, rfl⟩
  refine ⟨hS, PySem.F.args_dict_init_2 _ _, ?_⟩
  unfold Builtin.«dict.__init__» Builtin.Dict.selfAndRest
  refine wpAny_bind (wpAny_bind (wpAny_notOrdered_dict hS ?_))
  refine wpAny_pure ?_
  show wpAny _ _ (Builtin.Dict.updateFrom "dict.__init__" s.heap.objs.size (.ref p) [] .none) _ _ _
  unfold Builtin.Dict.updateFrom
  refine wpAny_bind (wpAny_typeOf hTl ?_)
  rw [if_pos (by decide)]
  refine wpAny_bind (ask_keys (by simpa using hh) e0 fun h1 tk1 kk => ?_)
  rw [if_pos (by rfl)]
  have I1 : Inv X pins σ (upd H s.heap.objs.size (.dT [])) { s with heap := h1, toks := tk1 } := I0.kept (t' := tk1) kk
  refine wpAny_bind (wpAny_rule (wpAny_bind ?_))
  have pl : h1.IsList p its.toArray := ⟨_, kk _ _ e0, rfl, n, rfl⟩
  refine wpAny_pyIter_list pl ?_
  have I2 : Inv X pins σ (upd H s.heap.objs.size (.dT [])) { s with heap := h1.push { cls := .type "list_iterator", data := .fields #[.ref p, .int 0 0] }, toks := tk1 } := I1.kept (t' := tk1) fun b o e => Heap.get?_push_of_some _ e
  have dlt : s.heap.objs.size < h1.objs.size := Heap.lt_size (kk _ _ (Heap.get?_push_size _ rfl))
  refine wpAny_pure ⟨plainId_quiet plain_dul _, ?_⟩
  refine dict_loopT (X := X) (pins := pins) (σ := σ) (a := p) (it := h1.objs.size) (d := s.heap.objs.size) (A := X.A.in1) (by show X.A.units + 1 + 1 < cLine; exact hu) (by rw [Around.in1_handled]; exact hh) (Nat.ne_of_lt dlt) ps [] refs 0 0 _ (upd H s.heap.objs.size (.dT [])) [] _ I2 (I1.fpOk (Nat.le_refl _) (I1.hok.fresh (Nat.le_refl _))) ⟨_, Heap.get?_push_size _ rfl, rfl, rfl⟩ hp0 upd_same (by rw [sizeLine_eq]; show 0 + ps.length < _; omega) hl (fun j k v e => ?_) fun s' I' => ⟨rfl, .ref _, _, I', rfl, ?_⟩
  · obtain ⟨q', b', e1, e2, e3⟩ := hpairs j k v e
    exact ⟨q', b', e1, by rw [upd_ne (ne_of_none e2 hnone)]; exact e2, by rw [upd_ne (ne_of_none e3 hnone)]; exact e3⟩
  · rw [upd_upd]
    exact q _ hnone
end
section
variable {pg : Program} {wd : World} {B : Around} {Fx : Value → Shared → Prop} {t : Shared}
theorem map_erase {α β : Type} (f : α → β) : ∀ (l : List α) (i : Nat), (l.map f).eraseIdx i = (l.eraseIdx i).map f
  | [], _ => rfl
  | _ :: _, 0 => rfl
  | a :: l, i + 1 => by
    show f a :: (l.map f).eraseIdx i = f a :: (l.eraseIdx i).map f
    rw [map_erase f l i]
theorem pop_none {d : Addr} {key x : Value} {ep : Nat} {R : Value → Shared → Prop} (nd : (d == sysModules) = false) (hk : (keyPart key).isSome = false) (r : RawD t.heap d #[] ep) (q : R x t) : wpAny (model pg wd) B (call (.builtin "dict.pop") [.ref d, key, x]) R Fx t := by
  refine wpAny_call_entry F.slot_dict_pop r.ty F.entry_dict_pop ?_ (F.args_dict_pop_3 _ _ _)
  have ty := r.ty
  obtain ⟨o, e1, _, e3⟩ := r
  unfold Builtin.«dict.pop» Builtin.Dict.keyAndDefault
  refine wpAny_bind (wpAny_bind (wpAny_notOrdered_dict ty ?_))
  show wpAny _ _ (pure (d, key, some x)) _ _ t
  refine wpAny_pure ?_
  dsimp only
  rw [if_neg (by rw [hk]; decide)]
  refine wpAny_bind (wpAny_dictEntries e1 e3 (wpAny_bind (wpAny_pure ?_)))
  rw [if_pos (by rfl)]
  refine wpAny_bind (wpAny_rule (wpAny_bind (wpAny_pure ?_)))
  rw [if_pos (by rfl)]
  unfold Builtin.Dict.missedRemoval
  rw [if_neg (by rw [nd]; decide)]
  refine wpAny_bind (wpAny_pure ?_)
  exact wpAny_bind (wpAny_rule (wpAny_pure ⟨_, rfl, q⟩))
theorem pop_there {d c : Addr} {xs : List (List Key × Addr × Value)} {k : List Key} {j : Nat} {p : Addr × Value} {x : Value} {R : Value → Shared → Prop} (hu : B.units + 1 < cLine) (hm : t.heap.DictOfH (tupleKind (mixKind pg wd)) d xs) (hk : (tupleKind (mixKind pg wd)).is t.heap k c) (hj : xs[j]? = some (k, p)) (hz : xs.length ≤ sizeLine)
    (q : ∀ g k', g.DictOfH (tupleKind (mixKind pg wd)) d (xs.eraseIdx j) → Heap.SameBut d t.heap g → R p.2 { t with heap := g, toks := k' }) : wpAny (model pg wd) B (call (.builtin "dict.pop") [.ref d, .ref c, x]) R Fx t := by
  refine wpAny_call_entry F.slot_dict_pop hm.typeIs F.entry_dict_pop ?_ (F.args_dict_pop_3 _ _ _)
  have ty := hm.typeIs
  obtain ⟨o, es, ep, ho, hc, hd, he, his, hn⟩ := hm
  have hse := size_of_entries he
  have hjl : j < xs.length := (List.getElem?_eq_some_iff.mp hj).1
  unfold Builtin.«dict.pop» Builtin.Dict.keyAndDefault
  refine wpAny_bind (wpAny_bind (wpAny_notOrdered_dict ty ?_))
  show wpAny _ _ (pure (d, Value.ref c, some x)) _ _ t
  refine wpAny_pure ?_
  dsimp only
  rw [if_neg (show ¬ (keyPart (Value.ref c)).isSome = true by intro z; cases z)]
  refine wpAny_bind (wpAny_dictEntries ho hd (wpAny_bind (wpAny_pure ?_)))
  rw [if_neg (by
    intro z
    have := Array.isEmpty_iff.mp z
    rw [this] at hse
    have : 0 = xs.length := hse
    omega)]
  unfold Builtin.Dict.takeOut
  refine wpAny_bind (wpAny_holding (wpAny_bind ((tupleKind (mixKind pg wd)).pyHash (by show B.in1.units < cLine; exact hu) hk (wpAny_bind (wpAny_dictFind_heap (s := { t with toks := t.toks + (tupleKind (mixKind pg wd)).draws k }) (by show B.in1.units < cLine; exact hu) hk ho hd he his hn (fun no => absurd hj (no j p)) fun j' p' hj' => ?_)))))
  have ej : j' = j := idxH_unique hn hj' hj
  rw [ej] at hj' ⊢
  rw [hj] at hj'
  have ep' : p' = p := by injection hj' with z; injection z with _ z; exact z.symm
  subst ep'
  refine wpAny_bind (wpAny_dictEntries (s := { t with toks := t.toks + (tupleKind (mixKind pg wd)).draws k }) ho hd ?_)
  rw [entry_at he, hj]
  refine wpAny_bind (wpAny_updateDictKeys (hz := by omega) (s := { t with toks := t.toks + (tupleKind (mixKind pg wd)).draws k }) ho hd (wpAny_pure ?_))
  simp only [Option.isNone_some, Bool.false_eq_true, if_false]
  refine wpAny_bind (wpAny_letGo (wpAny_pure ⟨_, rfl, q _ _ ⟨_, _, ep + 1, Heap.get?_update_self _ ho (Obj.isFreed_of_dict (Obj.data_mapDictKeys hd _)), hc.mapDictKeys _, Obj.data_mapDictKeys hd _, ?_, ?_, ?_⟩ (Heap.SameBut.update ..)⟩))
  · show (es.eraseIdxIfInBounds j).toList = _
    rw [Array.toList_eraseIdxIfInBounds, he, map_erase]
  · intro y hy
    exact (tupleKind (mixKind pg wd)).keeps (his y (List.mem_of_mem_eraseIdx hy)) ho hd (Heap.SameBut.update ..)
  · rw [← map_erase]
    exact List.Pairwise.sublist (List.eraseIdx_sublist _ _) hn
end
theorem paired_erase {α β : Type} {F : α → β → Prop} : ∀ {l : List α} {m : List β} (i : Nat), Paired F l m → Paired F (l.eraseIdx i) (m.eraseIdx i)
  | _, _, _, .nil => .nil
  | _, _, 0, .cons _ r => r
  | _, _, i + 1, .cons h r => .cons h (paired_erase i r)
section
variable {X : Cx}
theorem mt_popT (hu : X.A.units + 1 < cLine) : MtR X "dict.pop" (fun x vs H Q => ∃ (d b : Addr) (y : V), x = .ref d ∧ vs = [.ref b, y] ∧ ((H d = some (.dT []) ∧ Q y H) ∨ ∃ (kvs : List (List Key × V)) (k : List Key) (j : Nat) (v : V), H d = some (.dT kvs) ∧ H b = some (.tup (k.map kV)) ∧ kvs[j]? = some (k, v) ∧ Q v (upd H d (.dT (kvs.eraseIdx j))))) := by
  intro pins s σ H x xs v us Q I rx rs h
  obtain ⟨d, b, y, rfl, rfl, h⟩ := h
  cases rx
  obtain ⟨u1, u2, rfl, r1, r2⟩ := vals2 rs
  obtain rfl : u1 = Value.ref b := r1
  rcases h with ⟨hd, q⟩ | ⟨kvs, k, j, w, hd, hb, hj, q⟩
  · have ok := (show ObjOk X.prog X.w H s.heap d (.dT []) from I.hok d _ hd)
    obtain ⟨_, nd, xs, r, o, es, ep, h1, h2, h3, h4, _⟩ := ok
    cases r
    have : es = #[] := Array.toList_inj.mp h4
    subst this
    exact pop_none nd rfl ⟨o, h1, h2, h3⟩ ⟨y, H, I, r2, q⟩
  · obtain ⟨z, nd, xs, rel, dd⟩ := dt_of I.hok hd
    obtain ⟨x, hx, f1, f2, f3⟩ := paired_at rel hj
    have f1 : k = x.1 := f1
    have hx' : xs[j]? = some (k, x.2) := by rw [hx, f1]
    refine pop_there hu dd (key_of I.hok hb) hx' (by rw [← Paired.length rel]; exact z) fun g k' dd' sb => ?_
    obtain ⟨q2, es2, ep2, c1, c2, c3, c4, _, c5⟩ := dd'
    have hl : (kvs.eraseIdx j).length ≤ sizeLine := Nat.le_trans (List.length_eraseIdx_le _ _) z
    exact ⟨w, _, d_write (ob := .dT (kvs.eraseIdx j)) (t' := k') I (by rw [hd]; exact True.intro) sb ⟨q2, c1⟩ ⟨hl, nd, _, L2.Paired.mapP (paired_erase j rel) fun a c e => ⟨e.1, by rw [upd_ne (ne_of e.2.1 hd (fun z => nomatch z))]; exact e.2.1, e.2.2⟩, q2, es2, ep2, c1, c2, c3, c4, c5⟩, f3, q⟩
end
end L2
namespace L2
open PySem PySem.Spec PyProof.Rows PySem.SeqAt PySem.MeetsSeq
inductive RdT (H : Hp) : List (List Key × V) → List (PyData × PyData) → Prop
  | nil : RdT H [] []
  | cons {p : Int × Int} {v : V} {d : PyData} {r : List (List Key × V)} {ds : List (PyData × PyData)} : RdW H v d → RdT H r ds → RdT H ((pkey p, v) :: r) ((.tuple [.int p.1, .int p.2], d) :: ds)
theorem RdT.mono {H H' : Hp} (s : Same H H') : ∀ {k : List (List Key × V)} {d : List (PyData × PyData)}, RdT H k d → RdT H' k d
  | _, _, .nil => .nil
  | _, _, .cons a b => .cons (a.mono s) (RdT.mono s b)
section
variable {X : Cx} {pins : List (Addr × Obj)} {σ : St} {H : Hp} {s : Shared}
theorem RdT.reads (I : Inv X pins σ H s) : ∀ {kvs : List (List Key × V)} {kds : List (PyData × PyData)} {xs : List (List Key × Addr × Value)}, RdT H kvs kds → Paired (fun (p : List Key × V) (q : List Key × Addr × Value) => p.1 = q.1 ∧ H q.2.1 = some (.tup (p.1.map kV)) ∧ RelV p.2 q.2.2) kvs xs →
    (∃ as, ReadsAll s.heap (xs.map fun x => Value.ref x.2.1) (kds.map (·.1)) as ∧ ∀ a ∈ as, H a ≠ none) ∧ ∃ bs, ReadsAll s.heap (xs.map fun x => x.2.2) (kds.map (·.2)) bs ∧ ∀ a ∈ bs, H a ≠ none
  | _, _, _, .nil, .nil => ⟨⟨_, .nil, fun a h => by cases h⟩, ⟨_, .nil, fun a h => by cases h⟩⟩
  | _, _, _, .cons (p := p) rv r, .cons ⟨f1, f2, f3⟩ q => by
    obtain ⟨⟨as, a1, a2⟩, ⟨bs, b1, b2⟩⟩ := RdT.reads I r q
    obtain ⟨cs, c1, c2⟩ := rv.reads I f3
    have hk : RdW H (.ref _) (.tuple [.int p.1, .int p.2]) := .tup f2 (.cons (.int _) (.cons (.int _) .nil))
    obtain ⟨es, e1, e2⟩ := hk.reads I rfl
    refine ⟨⟨_, .cons e1 a1, fun a hm => ?_⟩, ⟨_, .cons c1 b1, fun a hm => ?_⟩⟩
    · rcases List.mem_append.mp hm with hm | hm
      · exact e2 a hm
      · exact a2 a hm
    · rcases List.mem_append.mp hm with hm | hm
      · exact c2 a hm
      · exact b2 a hm
theorem call_reprT (hg : X.A.guards = some []) (hu : X.A.units + 64 < cLine) (hm : ∃ o, X.base.get? sysModules = some o) : CallR X (.builtin "repr") (fun xs H Q => ∃ (p : Addr) (kvs : List (List Key × V)) (kds : List (PyData × PyData)), xs = [.ref p] ∧ H p = some (.dT kvs) ∧ RdT H kvs kds ∧ (PyData.dict kds).showable = true ∧ (PyData.dict kds).depth ≤ 40 ∧ (PyData.dict kds).shown.length ≤ sizeLine ∧ Q (.str (PyData.dict kds).shown) H) := by
  intro pins s σ H xs us Q I r h
  obtain ⟨p, kvs, kds, rfl, hp, hr, hs, hdp, hz, q⟩ := h
  obtain ⟨u, rfl, ru⟩ := vals1 r
  cases ru
  obtain ⟨_, nd, xs, rel, o, es, ep, h1, h2, h3, h4, h5⟩ := (show ObjOk X.prog X.w H s.heap p (.dT kvs) from I.hok p _ hp)
  obtain ⟨⟨as, a1, a2⟩, ⟨bs, b1, b2⟩⟩ := hr.reads I rel
  obtain ⟨om, ho⟩ := hm
  have rd : Reads s.heap (.ref p) (.dict kds) (p :: (as ++ bs)) := by
    refine .dict h1 h2.1 h3 (as := as) (bs := bs) ?_ ?_
    · rw [h4, List.map_map]
      exact a1
    · rw [h4, List.map_map]
      exact b1
  have hno : sysModules ∉ p :: (as ++ bs) := fun z => by
    have hn := (I.bs _ _ ho).2
    rcases List.mem_cons.mp z with z | z
    · rw [z] at hn; rw [hn] at hp; cases hp
    · rcases List.mem_append.mp z with z | z
      · exact a2 _ z hn
      · exact b2 _ z hn
  exact repr_of_reads' rd hs (fun _ => hno) hg (by omega) (fun _ _ e => e) (fun h' tk t' hk => ⟨.str _, H, I.kept hk, ⟨_, rfl⟩, q⟩) hz
end
end L2
namespace L2
open PySem PySem.Spec PyProof.Rows PySem.SeqAt PySem.MeetsSeq PySem.Calls
section
variable {X : Cx}
theorem call_any2 {f : Value} {r1 r2 : List V → Hp → VK → Prop} (h1 : CallR X f r1) (h2 : CallR X f r2) : CallR X f (fun xs H Q => r1 xs H Q ∨ r2 xs H Q) := by
  intro pins s σ H xs us Q I r h
  rcases h with h | h
  · exact h1 pins s σ H xs us Q I r h
  · exact h2 pins s σ H xs us Q I r h
end
section
variable {pg : Program} {wd : World} {B : Around} {Fx : Value → Shared → Prop} {t : Shared} {d : Addr} {es : Array DictEntry} {ep : Nat}
theorem len_raw {R : Value → Shared → Prop} (nd : (d == sysModules) = false) (r : RawD t.heap d es ep) (hz : es.size ≤ sizeLine) (q : ∀ k k', R (.int (es.size : Int) k) { t with toks := k' }) : wpAny (model pg wd) B (call (.builtin "len") [.ref d]) R Fx t := by
  refine Calls.call_function_entry kind_len plain_len entry_len (args_len1 _) ?_
  have hz' : (es.size : Int) < 2 ^ 63 := by rw [sizeLine_eq] at hz; omega
  have me : MeetsIn pg wd (Builtin.«dict.__len__» ⟨[.ref d], []⟩) (fun _ R s => (∃ ep', RawD s.heap d es ep') ∧ R (.ok (.ret (.int (es.size : Int) s.toks))) { s with toks := s.toks + 1 }) :=
    .of_wp fun A R s ⟨⟨ep', o, e1, _, e3⟩, h⟩ => by
      show wpAny _ _ (dictSize d >>= _) _ _ s
      unfold dictSize
      refine wpAny_bind (wpAny_bind (wpAny_dictEntries e1 e3 (wpAny_pure ?_))); show wpAny _ _ (Builtin.Dict.pendingCount d >>= _) _ _ s
      refine wpAny_bind (wpAny_pendingCount_other nd (wpAny_ret_mkInt ?_))
      rw [Nat.add_zero]; exact h
  unfold Builtin.«len»
  refine wpAny_bind (m := oneArg "len" _) (wpAny_pure (wpAny_bind (m := callSpecial? (.ref d) (Str.ofString "__len__")) (wpAny_callSpecial?_slot (name := Str.ofString "__len__") r.ty F.slot_dict_len (call_meetsIn F.slot_dict_len r.ty F.entry_dict_len (F.args_dict_len_1 _) me ⟨⟨ep, r⟩, ?_⟩))))
  show wpAny _ _ _ _ _ { t with toks := t.toks + 1 }
  refine wpAny_bind (wpAny_holding (wpAny_pure (wpAny_bind (wpAny_letGo ?_))))
  show wpAny _ _ (if ((es.size : Nat) : Int) < 0 then _ else _) _ _ _; rw [if_neg (by omega)]
  show wpAny _ _ (if ((es.size : Nat) : Int) ≥ 2 ^ 63 then _ else _) _ _ _; rw [if_neg (by omega)]
  exact wpAny_bind (wpAny_mkInt (wpAny_pure ⟨_, rfl, q _ _⟩))
end
section
variable {X : Cx}
theorem call_lenU : CallR X (.builtin "len") (fun xs H Q => ∃ (d : Addr) (u : HO), xs = [.ref d] ∧ H d = some u ∧ IsDU u ∧ Q (.int (lenU u : Nat)) H) := by
  intro pins s σ H xs us Q I r z
  obtain ⟨d, u, rfl, hd, hu, q⟩ := z
  obtain ⟨v, rfl, ru⟩ := vals1 r
  cases ru
  have ok := I.hok d _ hd
  obtain ⟨nd, es, ep, o, e1, e2, e3⟩ := hu.raw ok
  have hs := ent_size hu ok e1 e3
  have hz : lenU u ≤ sizeLine := by
    rcases hu with ⟨k, rfl⟩ | ⟨k, rfl⟩
    · exact (show ObjOk X.prog X.w H s.heap d (.dT k) from ok).1
    · exact (show ObjOk X.prog X.w H s.heap d (.dK k) from ok).1
  refine len_raw nd ⟨o, e1, e2, e3⟩ (by omega) fun k k' => ⟨.int (lenU u : Nat), H, I.tok _, ?_, q⟩
  rw [hs]
  exact ⟨k, rfl⟩
end
end L2
namespace L2
open PySem PySem.Spec PyProof.Rows
theorem call_isTK {X : Cx} {K : PySem.W.Frag} (h : X.K = K) : CallR X (.builtin "isinstance") (fun xs H Q => ∃ x T t b, xs = [x, .ty T] ∧ TyOf K H x t ∧ PySem.W.kitOne K t (.type T) = some b ∧ Q (.bl b) H) := h ▸ call_isT
end L2
namespace L2
open PySem PySem.Spec PyProof.Rows
section
variable {X : Cx} {a b : Expr} {rest : List Expr} {pos : Pos} {ta tb : TE}
def tOrT (ta tb : TE) : TE := fun σ H Q => ta σ H fun x H1 => ∃ z : Str, x = .str z ∧ z.length ≤ sizeLine ∧ if z.length = 0 then tb σ H1 Q else Q (.str z) H1
theorem op_any2 {f : Value → Value → Sem Value} {r1 r2 : R2} (h1 : OpR X f r1) (h2 : OpR X f r2) : OpR X f (fun x y H Q => r1 x y H Q ∨ r2 x y H Q) := by
  intro pins s σ H x y v u Q I rx ry h
  rcases h with h | h
  · exact h1 pins s σ H x y v u Q I rx ry h
  · exact h2 pins s σ H x y v u Q I rx ry h
end
end L2
namespace L2
open PySem PySem.Spec PyProof.Rows PySem.SeqAt PySem.MeetsSeq
def TopD (K : PySem.W.Frag) (a : Addr) (kvs : List (Key × V)) : Prop :=
  ∃ (o : Obj) (es : Array DictEntry) (ep : Nat) (vs : List (Key × Value)), K.lookup a = some o ∧ o.ExactDict ∧ o.data = .dict es ep ∧ (∀ (P : Program) (w : World), KeysOf (mixKind P w) es ∧ Pairs (mixKind P w) es.toList vs) ∧ (vs.map (·.1)).Nodup ∧ KV kvs vs ∧ (a == sysModules) = false
section
variable {X : Cx} {o i : Expr} {pos : Pos} {td ty : TE} {a : Addr} {kvs : List (Key × V)}
def tTGet (a : Addr) (kvs : List (Key × V)) (td ty : TE) : TE := fun σ H Q => td σ H fun x H1 => ty σ H1 fun y H2 => ∃ k v, x = .ref a ∧ y = kV k ∧ valV kvs k = some v ∧ Q v H2
end
end L2
namespace Mr
open PySem L2
def kyP (p : Nat × Nat) : List Key := ky p.1 p.2
theorem kyP_inj {p q : Nat × Nat} (h : kyP p = kyP q) : p = q := Prod.ext (ky_inj h).1 (ky_inj h).2
def NK (kvs : List (List Key × V)) : Prop := ∃ ps : List (Nat × Nat), kvs.map (·.1) = ps.map kyP ∧ ps.Nodup
theorem NK.nil : NK [] := ⟨[], rfl, .nil⟩
theorem put_keys {κ : Type} [DecidableEq κ] {kvs : List (κ × V)} {k : κ} {v : V} : (putK kvs k v).map (·.1) = if k ∈ kvs.map (·.1) then kvs.map (·.1) else kvs.map (·.1) ++ [k] := by
  unfold putK
  have ha : (kvs.any fun kv => decide (kv.1 = k)) = true ↔ k ∈ kvs.map (·.1) := by
    rw [List.any_eq_true, List.mem_map]
    exact ⟨fun ⟨x, h1, h2⟩ => ⟨x, h1, of_decide_eq_true h2⟩, fun ⟨x, h1, h2⟩ => ⟨x, h1, decide_eq_true h2⟩⟩
  by_cases h : k ∈ kvs.map (·.1)
  · rw [if_pos (ha.mpr h), if_pos h, List.map_map]
    refine List.map_congr_left fun x _ => ?_
    show (if x.1 = k then (x.1, v) else x).1 = x.1
    split <;> rfl
  · rw [if_neg (fun z => h (ha.mp z)), if_neg h, List.map_append]
    rfl
theorem NK.put {kvs : List (List Key × V)} (h : NK kvs) (a b : Nat) (v : V) : NK (putK kvs (ky a b) v) := by
  obtain ⟨ps, h1, h2⟩ := h
  by_cases c : ky a b ∈ kvs.map (·.1)
  · exact ⟨ps, by rw [put_keys, if_pos c, h1], h2⟩
  · refine ⟨ps ++ [(a, b)], by rw [put_keys, if_neg c, h1, List.map_append]; rfl, List.nodup_append.mpr ⟨h2, List.nodup_cons.mpr ⟨List.not_mem_nil, .nil⟩, fun x hx y hy e => c ?_⟩⟩
    rw [h1]
    rw [List.mem_singleton.mp hy] at e
    exact List.mem_map.mpr ⟨x, hx, by rw [e]; rfl⟩
theorem valV_of {κ : Type} [DecidableEq κ] : ∀ {kvs : List (κ × V)} {k : κ} {v : V}, (kvs.map (·.1)).Nodup → (k, v) ∈ kvs → valV kvs k = some v
  | [], _, _, _, h => by cases h
  | q :: r, k, v, nd, h => by
    obtain ⟨n1, n2⟩ := List.nodup_cons.mp nd
    rcases List.mem_cons.mp h with h | h
    · subst h
      exact valV_pos rfl
    · rw [valV_neg (fun z => n1 (List.mem_map.mpr ⟨_, h, z.symm⟩))]
      exact valV_of n2 h
theorem valV_in {κ : Type} [DecidableEq κ] : ∀ {kvs : List (κ × V)} {k : κ} {v : V}, valV kvs k = some v → (k, v) ∈ kvs
  | [], _, _, h => by cases h
  | q :: r, k, v, h => by
    by_cases e : q.1 = k
    · rw [valV_pos e] at h
      cases h
      subst e
      exact List.mem_cons_self
    · rw [valV_neg e] at h
      exact List.mem_cons_of_mem _ (valV_in h)
def TabX (l : List Nat) (kvs : List (List Key × V)) : Prop := TabW l kvs ∧ NK kvs
theorem NK.nd {kvs : List (List Key × V)} (h : NK kvs) : (kvs.map (·.1)).Nodup := by
  obtain ⟨ps, h1, h2⟩ := h
  rw [h1]
  exact List.pairwise_map.mpr (h2.imp fun h z => h (kyP_inj z))
theorem TabX.at {l : List Nat} {kvs : List (List Key × V)} (h : TabX l kvs) {k : List Key} {v : V} (hm : (k, v) ∈ kvs) : ∃ a b : Nat, a < b ∧ b ≤ l.length ∧ k = ky a b ∧ v = .int (mendL l (b - a) a : Nat) := by
  obtain ⟨ps, h1, h2⟩ := id h.2
  have hk : k ∈ kvs.map (·.1) := List.mem_map.mpr ⟨_, hm, rfl⟩
  rw [h1] at hk
  obtain ⟨p, _, rfl⟩ := List.mem_map.mp hk
  have hv := valV_of h.2.nd hm
  have ht := h.1 p.1 p.2
  rw [show ky p.1 p.2 = kyP p from rfl, hv] at ht
  by_cases c : p.1 < p.2 ∧ p.2 ≤ l.length ∧ (p.2 - p.1 < l.length + 1 ∨ (p.2 - p.1 = l.length + 1 ∧ p.1 < 0))
  · rw [if_pos c] at ht
    exact ⟨p.1, p.2, c.1, c.2.1, rfl, Option.some.inj ht⟩
  · rw [if_neg c] at ht
    cases ht
theorem TabX.get {l : List Nat} {kvs : List (List Key × V)} (h : TabX l kvs) {a b : Nat} (h1 : a < b) (h2 : b ≤ l.length) : valV kvs (ky a b) = some (.int (mendL l (b - a) a : Nat)) := h.1.in_ h1 h2 (by omega)
theorem TabX.val {l : List Nat} {ka kb : List (List Key × V)} (h : TabX l ka) (h' : TabX l kb) (k : List Key) : valV ka k = valV kb k := by
  have one : ∀ {ka kb : List (List Key × V)}, TabX l ka → TabX l kb → ∀ v, valV ka k = some v → valV kb k = some v := fun h h' v hv => by
    obtain ⟨a, b, h1, h2, rfl, rfl⟩ := h.at (valV_in hv)
    exact h'.get h1 h2
  cases ha : valV ka k with
  | some v => exact (one h h' v ha).symm
  | none =>
    cases hb : valV kb k with
    | none => rfl
    | some v =>
      have := one h' h v hb
      rw [ha] at this
      cases this
theorem TabX.keys {l : List Nat} {kvs : List (List Key × V)} (h : TabX l kvs) (k : List Key) : k ∈ kvs.map (·.1) ↔ ∃ a b : Nat, a < b ∧ b ≤ l.length ∧ k = ky a b := by
  constructor
  · intro hk
    obtain ⟨⟨k', v⟩, hm, rfl⟩ := List.mem_map.mp hk
    obtain ⟨a, b, h1, h2, h3, _⟩ := h.at hm
    exact ⟨a, b, h1, h2, h3⟩
  · rintro ⟨a, b, h1, h2, rfl⟩
    exact List.mem_map.mpr ⟨_, valV_in (h.get h1 h2), rfl⟩
theorem TabX.len {l : List Nat} {ka kb : List (List Key × V)} (h : TabX l ka) (h' : TabX l kb) : ka.length = kb.length := by
  have := ((List.perm_ext_iff_of_nodup h.2.nd h'.2.nd).mpr fun k => (h.keys k).trans (h'.keys k).symm).length_eq
  rwa [List.length_map, List.length_map] at this
theorem TabX.prs {l : List Nat} {kvs : List (List Key × V)} (h : TabX l kvs) : ∃ ps : List (Int × Int), kvs.map (·.1) = ps.map pkey ∧ ps.Nodup ∧ ∀ p ∈ ps, ∃ a b : Nat, a < b ∧ b ≤ l.length ∧ p = ((a : Int), (b : Int)) := by
  obtain ⟨ps, h1, h2⟩ := id h.2
  refine ⟨ps.map fun p => ((p.1 : Int), (p.2 : Int)), by rw [h1, List.map_map]; rfl, List.pairwise_map.mpr (h2.imp fun {a b} h z => h (by injection z with z1 z2; exact Prod.ext (by omega) (by omega))), fun p hp => ?_⟩
  · obtain ⟨q, hq, rfl⟩ := List.mem_map.mp hp
    have : kyP q ∈ kvs.map (·.1) := by rw [h1]; exact List.mem_map.mpr ⟨q, hq, rfl⟩
    obtain ⟨a, b, k1, k2, k3⟩ := (h.keys _).mp this
    obtain ⟨e1, e2⟩ := ky_inj k3
    exact ⟨a, b, k1, k2, by show ((q.1 : Int), (q.2 : Int)) = _; rw [e1, e2]⟩
theorem nodup_lenG {α : Type} [BEq α] [LawfulBEq α] : ∀ {l m : List α}, l.Nodup → (∀ x ∈ l, x ∈ m) → l.length ≤ m.length
  | [], _, _, _ => Nat.zero_le _
  | x :: l, m, nd, h => by
    obtain ⟨hx, nd'⟩ := List.nodup_cons.mp nd
    have hm := h x List.mem_cons_self
    have := nodup_lenG (m := m.erase x) nd' fun y hy => (List.mem_erase_of_ne (show y ≠ x from fun e => hx (by rw [← e]; exact hy))).mpr (h y (List.mem_cons_of_mem _ hy))
    rw [List.length_erase_of_mem hm] at this
    have : 0 < m.length := List.length_pos_of_mem hm
    rw [List.length_cons]
    omega
def pairsT (n : Nat) : List (Int × Int) := (List.range (n + 1)).flatMap fun (i : Nat) => (List.range (n + 1)).map fun (j : Nat) => ((i : Int), (j : Int))
theorem mem_pairsT {n a b : Nat} (h1 : a ≤ n) (h2 : b ≤ n) : ((a : Int), (b : Int)) ∈ pairsT n := List.mem_flatMap.mpr ⟨a, List.mem_range.mpr (by omega), List.mem_map.mpr ⟨b, List.mem_range.mpr (by omega), rfl⟩⟩
theorem TabX.few {l : List Nat} {kvs : List (List Key × V)} (h : TabX l kvs) (hl : l.length ≤ 11) : kvs.length ≤ 144 := by
  obtain ⟨ps, h1, h2, h3⟩ := h.prs
  have := nodup_lenG h2 (m := pairsT 11) fun p hp => by
    obtain ⟨a, b, k1, k2, rfl⟩ := h3 p hp
    exact mem_pairsT (by omega) (by omega)
  have e : (pairsT 11).length = 144 := by decide +kernel
  have h4 := congrArg List.length h1
  rw [List.length_map, List.length_map] at h4
  omega
theorem thash_nd : ((pairsT 10).map thash).Nodup := by decide +kernel
theorem inj_of_nd {α β : Type} {f : α → β} : ∀ {m : List α}, (m.map f).Nodup → ∀ {x y : α}, x ∈ m → y ∈ m → f x = f y → x = y
  | [], _, _, _, h, _, _ => by cases h
  | z :: m, nd, x, y, hx, hy, e => by
    obtain ⟨n1, n2⟩ := List.nodup_cons.mp nd
    rcases List.mem_cons.mp hx with h1 | h1 <;> rcases List.mem_cons.mp hy with h2 | h2
    · rw [h1, h2]
    · exact absurd (List.mem_map.mpr ⟨y, h2, by rw [← e, h1]⟩) n1
    · exact absurd (List.mem_map.mpr ⟨x, h1, by rw [e, h2]⟩) n1
    · exact inj_of_nd n2 h1 h2 e
theorem nd_map {α β : Type} {f : α → β} {l m : List α} (nd : l.Nodup) (hs : ∀ x ∈ l, x ∈ m) (hm : (m.map f).Nodup) : (l.map f).Nodup :=
  List.pairwise_map.mpr (nd.imp_of_mem fun {a b} ha hb hab z => hab (inj_of_nd hm (hs a ha) (hs b hb) z))
theorem TabX.hash {l : List Nat} {kvs : List (List Key × V)} (h : TabX l kvs) (hl : l.length ≤ 10) {ps : List (Int × Int)} (h1 : kvs.map (·.1) = ps.map pkey) : (ps.map thash).Nodup := by
  obtain ⟨qs, k1, k2, k3⟩ := h.prs
  have e : ps = qs := by
    have : ps.map pkey = qs.map pkey := h1.symm.trans k1
    exact (List.map_inj_right fun x y z => pkey_inj z).mp this
  subst e
  exact nd_map k2 (fun p hp => by obtain ⟨a, b, z1, z2, rfl⟩ := k3 p hp; exact mem_pairsT (by omega) (by omega)) thash_nd
def MT (told kvs : List (List Key × V)) : Prop := kvs.length = told.length ∧ ∀ kv ∈ kvs, valV told kv.1 = some kv.2
theorem MT.other {l : List Nat} {ka kb kvs : List (List Key × V)} (h : TabX l ka) (h' : TabX l kb) : MT ka kvs ↔ MT kb kvs := by
  unfold MT
  rw [h.len h']
  refine and_congr_right fun _ => forall_congr' fun kv => imp_congr_right fun _ => ?_
  rw [h.val h']
theorem mt_self {l : List Nat} {ka kb : List (List Key × V)} (h : TabX l ka) (h' : TabX l kb) : MT ka kb := ⟨h'.len h, fun kv hk => by rw [h.val h']; exact valV_of h'.2.nd hk⟩
theorem eqN_int {m n : Int} : eqN (.int m) n = true ↔ m = n := by
  show (m == n) = true ↔ _
  exact beq_iff_eq
theorem mt_right {l : List Nat} {due kvs : List (List Key × V)} (h : TabX l due) : (eqTT kvs due = true ∧ ∀ kv ∈ kvs, wholeV kv.2 = true) ↔ MT due kvs := by
  unfold eqTT MT
  rw [Bool.and_eq_true, beq_iff_eq, List.all_eq_true]
  constructor
  · rintro ⟨⟨h1, h2⟩, h3⟩
    refine ⟨h1, fun kv hk => ?_⟩
    have a := h2 kv hk
    have b := h3 kv hk
    cases hv : valV due kv.1 with
    | none => rw [hv] at a; cases a
    | some v =>
      obtain ⟨_, _, _, _, _, rfl⟩ := h.at (valV_in hv)
      rw [hv] at a
      obtain ⟨k, w⟩ := kv
      cases w with
      | int m => rw [eqN_int.mp a]
      | _ => cases b
  · rintro ⟨h1, h2⟩
    refine ⟨⟨h1, fun kv hk => ?_⟩, fun kv hk => ?_⟩
    · have hv := h2 kv hk
      obtain ⟨_, _, _, _, _, e⟩ := h.at (valV_in hv)
      rw [hv, e]
      show eqN (.int _) _ = true
      exact eqN_int.mpr rfl
    · obtain ⟨_, _, _, _, _, e⟩ := h.at (valV_in (h2 kv hk))
      rw [e]
      rfl
theorem TabX.ints {l : List Nat} {kvs : List (List Key × V)} (h : TabX l kvs) : ∀ k v, valV kvs k = some v → ∃ n, v = .int n := fun k v hv => by
  obtain ⟨_, _, _, _, _, e⟩ := h.at (valV_in hv)
  exact ⟨_, e⟩
theorem TabX.nums {l : List Nat} {kvs : List (List Key × V)} (h : TabX l kvs) : ∃ ns : List Int, kvs.map (·.2) = ns.map V.int ∧ ∀ n ∈ ns, 0 ≤ n ∧ n ≤ l.length := by
  have gen : ∀ m : List (List Key × V), (∀ x ∈ m, x ∈ kvs) → ∃ ns : List Int, m.map (·.2) = ns.map V.int ∧ ∀ n ∈ ns, 0 ≤ n ∧ n ≤ l.length := fun m => by
    induction m with
    | nil => exact fun _ => ⟨[], rfl, fun n hn => by cases hn⟩
    | cons x m ih =>
      intro hx
      obtain ⟨ns, h1, h2⟩ := ih fun y hy => hx y (List.mem_cons_of_mem _ hy)
      obtain ⟨a, b, k1, k2, _, e⟩ := h.at (k := x.1) (v := x.2) (hx x List.mem_cons_self)
      refine ⟨(mendL l (b - a) a : Int) :: ns, by rw [List.map_cons, List.map_cons, h1, e], fun n hn => ?_⟩
      rcases List.mem_cons.mp hn with rfl | hn
      · have := mendL_le l (b - a) a
        omega
      · exact h2 n hn
  exact gen kvs fun x hx => hx
end Mr
namespace Mr
open PySem L2
def spMendX : Sp := fun vs H Q _ => ∃ l : List Nat, vs = [.str (tx l)] ∧ rowL l = true ∧ l.length ≤ 60 ∧ ∀ (p : Addr) (kvs : List (List Key × V)) (H' : Hp), H p = none → H' p = some (.dT kvs) → TabX l kvs → Same H H' → Q (.ref p) H'
def TabA (l : List Nat) (f j : Nat) (kvs : List (List Key × V)) : Prop :=
  ∀ a b : Nat, valV kvs (ky a b) = if a < b ∧ b ≤ l.length ∧ (f < a ∨ (a = f ∧ b < j)) then some (.int (mendL l (b - a) a : Nat)) else none
theorem TabA.in_ {l : List Nat} {f j : Nat} {kvs : List (List Key × V)} (h : TabA l f j kvs) {a b : Nat} (h1 : a < b) (h2 : b ≤ l.length) (h3 : f < a ∨ (a = f ∧ b < j)) : valV kvs (ky a b) = some (.int (mendL l (b - a) a : Nat)) := by rw [h a b, if_pos ⟨h1, h2, h3⟩]
theorem TabA.nil {l : List Nat} : TabA l l.length 0 [] := fun a b => by
  rw [if_neg (by omega)]
  rfl
theorem TabA.put {l : List Nat} {f j : Nat} {kvs : List (List Key × V)} (h : TabA l f j kvs) (hf : f < j) (hj : j ≤ l.length) : TabA l f (j + 1) (putK kvs (ky f j) (.int (mendL l (j - f) f : Nat))) := fun a b => by
  rw [valV_put, h a b]
  by_cases e : ky a b = ky f j
  · obtain ⟨rfl, rfl⟩ := ky_inj e
    rw [if_pos rfl, if_pos (by omega)]
  · rw [if_neg e]
    by_cases c : a < b ∧ b ≤ l.length ∧ (f < a ∨ (a = f ∧ b < j))
    · rw [if_pos c, if_pos (by omega)]
    · rw [if_neg c, if_neg]
      rintro ⟨h1, h2, h3⟩
      rcases h3 with h3 | ⟨h3, h4⟩
      · exact c ⟨h1, h2, .inl h3⟩
      · by_cases h5 : b < j
        · exact c ⟨h1, h2, .inr ⟨h3, h5⟩⟩
        · exact e (by rw [h3, show b = j by omega])
theorem TabA.start {l : List Nat} {f j : Nat} {kvs : List (List Key × V)} (h : TabA l (f + 1) j kvs) (hj : l.length < j ∨ l.length ≤ f + 1) : TabA l f (f + 1) kvs := fun a b => by
  rw [h a b]
  by_cases c : a < b ∧ b ≤ l.length ∧ (f + 1 < a ∨ (a = f + 1 ∧ b < j))
  · rw [if_pos c, if_pos (by omega)]
  · rw [if_neg c, if_neg (by omega)]
theorem TabA.whole {l : List Nat} {j : Nat} {kvs : List (List Key × V)} (h : TabA l 0 j kvs) (hj : l.length < j ∨ l.length = 0) : TabW l kvs := fun a b => by
  rw [h a b]
  by_cases c : a < b ∧ b ≤ l.length ∧ (0 < a ∨ (a = 0 ∧ b < j))
  · rw [if_pos c, if_pos (by omega)]
  · rw [if_neg c, if_neg (by omega)]
theorem mend_eq {l : List Nat} {n f : Nat} (hn : 2 ≤ n) (e : l[f]? = l[f + n - 1]?) : mendL l n f = mendL l (n - 2) (f + 1) := by
  match n, hn with
  | n + 2, _ =>
    rw [mendL, if_pos (by rw [show f + n + 1 = f + (n + 2) - 1 by omega]; exact e)]
    rfl
def DT (K : PySem.W.Frag) (H : Hp) (kvs : List (List Key × V)) : Prop := kvs.length ≤ 200 ∧ (∃ ps : List (Int × Int), kvs.map (·.1) = ps.map pkey ∧ ps.Nodup ∧ ∀ p ∈ ps, p.1 ≠ p.2 ∧ 0 ≤ p.1 ∧ p.1 ≤ 100 ∧ 0 ≤ p.2 ∧ p.2 ≤ 100) ∧ ∀ kv ∈ kvs, El K H kv.2
def NoD (K : PySem.W.Frag) (H : Hp) (x : V) : Prop := ∃ t, TyOf K H x t ∧ PySem.W.kitOne K t (.type "dict") = some false
def spIsMend (K : PySem.W.Frag) : Sp := fun vs H Q _ => ∃ (x : V) (l : List Nat), vs = [x, .str (tx l)] ∧ rowL l = true ∧ l.length ≤ 11 ∧
  ((∃ (p : Addr) (kvs : List (List Key × V)), x = .ref p ∧ H p = some (.dT kvs) ∧ DT K H kvs ∧ ∀ (r : Bool) (H' : Hp), (∀ told, TabX l told → (r = true ↔ MT told kvs)) → Same H H' → Q (.bl r) H') ∨
   (∃ (p : Addr) (z : Str) (i : Int), x = .ref p ∧ H p = some (.dK [(.inr z, .int i)]) ∧ ∀ H', Same H H' → Q (.bl false) H') ∨
   (NoD K H x ∧ ∀ H', Same H H' → Q (.bl false) H'))
theorem El.vs {K : PySem.W.Frag} {H : Hp} {x : V} (h : El K H x) : Vs H x := by
  obtain ⟨d, r, _⟩ := h.2
  cases r with
  | non => trivial
  | bl b => trivial
  | int i => trivial
  | str z => trivial
  | lst hq _ => exact .inl ⟨_, hq⟩
  | tup hq _ => exact .inr (.inl ⟨_, hq⟩)
  | dic hq => exact .inr (.inr ⟨_, hq⟩)
theorem DT.same {K : PySem.W.Frag} {H H' : Hp} {kvs : List (List Key × V)} (s : Same H H') (h : DT K H kvs) : DT K H' kvs := ⟨h.1, h.2.1, fun kv hk => (h.2.2 kv hk).same s⟩
theorem TabX.dt {K : PySem.W.Frag} {H : Hp} {l : List Nat} {kvs : List (List Key × V)} (h : TabX l kvs) (hl : l.length ≤ 11) : DT K H kvs := by
  obtain ⟨ps, h1, h2, h3⟩ := h.prs
  refine ⟨Nat.le_trans (h.few hl) (by decide), ⟨ps, h1, h2, fun p hp => ?_⟩, fun kv hk => ?_⟩
  · obtain ⟨a, b, k1, k2, rfl⟩ := h3 p hp
    show (a : Int) ≠ (b : Int) ∧ 0 ≤ (a : Int) ∧ (a : Int) ≤ 100 ∧ 0 ≤ (b : Int) ∧ (b : Int) ≤ 100
    omega
  · obtain ⟨a, b, k1, k2, _, e⟩ := h.at (k := kv.1) (v := kv.2) hk
    rw [e]
    have := mendL_le l (b - a) a
    exact el_int (Nat.lt_of_le_of_lt (show ((mendL l (b - a) a : Nat) : Int).natAbs ≤ 11 by omega) (by decide))
end Mr
namespace Mr
open PySem L2
def spLTable : Sp := fun vs H Q _ => ∃ l : List Nat, vs = [.str (tx l)] ∧ l.length ≤ 60 ∧ ∀ (p : Addr) (kvs : List (List Key × V)) (H' : Hp), H p = none → H' p = some (.dT kvs) → TabX l kvs → Same H H' → Q (.ref p) H'
end Mr
namespace Mr
open PySem L2
theorem if_ya {c : Bool} {p q : Prop} (h : c = true) (x : p) : if c = true then p else q := by rw [if_pos h]; exact x
theorem if_no {c : Bool} {p q : Prop} (h : c = false) (x : q) : if c = true then p else q := by rw [if_neg (by rw [h]; decide)]; exact x
end Mr
namespace Mr
open PySem L2
theorem El.kind {K : PySem.W.Frag} {H H' : Hp} {x : V} (h : El K H x) (k : ∀ b u, (∀ kv, u ≠ .dT kv) → H b = some u → H' b = some u) : Scal x ∨ NoInt K H' x := by
  obtain ⟨d, r, _⟩ := h.2
  cases r with
  | non => exact .inl trivial
  | bl b => exact .inl trivial
  | int i => exact .inl trivial
  | str z => exact .inl trivial
  | lst hq _ => exact .inr ⟨rfl, _, .lst (k _ _ (fun _ z => by cases z) hq), by rfl⟩
  | tup hq _ => exact .inr ⟨rfl, _, .tup (k _ _ (fun _ z => by cases z) hq), by rfl⟩
  | dic hq => exact .inr ⟨rfl, _, .dK (k _ _ (fun _ z => by cases z) hq), by rfl⟩
end Mr
namespace Mr
open PySem L2
theorem mem_putK {κ : Type} [DecidableEq κ] {kvs : List (κ × V)} {k : κ} {v : V} {x : κ × V} (h : x ∈ putK kvs k v) : x.2 = v ∨ x ∈ kvs := by
  unfold putK at h
  split at h
  · obtain ⟨y, hy, e⟩ := List.mem_map.mp h
    by_cases c : y.1 = k
    · rw [if_pos c] at e
      rw [← e]
      exact .inl rfl
    · rw [if_neg c] at e
      rw [← e]
      exact .inr hy
  · rcases List.mem_append.mp h with h | h
    · exact .inr h
    · rw [List.mem_singleton.mp h]
      exact .inl rfl
def SmP (p : Int × Int) : Prop := p.1 ≠ p.2 ∧ 0 ≤ p.1 ∧ p.1 ≤ 100 ∧ 0 ≤ p.2 ∧ p.2 ≤ 100
def DTn (K : PySem.W.Frag) (H : Hp) (n : Nat) (kvs : List (List Key × V)) : Prop := kvs.length ≤ n ∧ (∃ ps : List (Int × Int), kvs.map (·.1) = ps.map pkey ∧ ps.Nodup ∧ ∀ p ∈ ps, SmP p) ∧ ∀ kv ∈ kvs, El K H kv.2
theorem DTn.dt {K : PySem.W.Frag} {H : Hp} {n : Nat} {kvs : List (List Key × V)} (h : DTn K H n kvs) (hn : n ≤ 200) : DT K H kvs := ⟨Nat.le_trans h.1 hn, h.2.1, h.2.2⟩
theorem TabX.dtn {K : PySem.W.Frag} {H : Hp} {l : List Nat} {kvs : List (List Key × V)} (h : TabX l kvs) (hl : l.length ≤ 11) : DTn K H 144 kvs := let d := h.dt (K := K) (H := H) hl; ⟨h.few hl, d.2.1, d.2.2⟩
theorem DTn.put {K : PySem.W.Frag} {H : Hp} {n : Nat} {kvs : List (List Key × V)} (h : DTn K H n kvs) {p : Int × Int} {v : V} (hp : SmP p) (hv : El K H v) : DTn K H (n + 1) (putK kvs (pkey p) v) := by
  obtain ⟨h1, ⟨ps, h2, h3, h4⟩, h5⟩ := h
  refine ⟨by have := length_putK kvs (pkey p) v; omega, ?_, fun kv hk => ?_⟩
  · by_cases c : pkey p ∈ kvs.map (·.1)
    · exact ⟨ps, by rw [put_keys, if_pos c, h2], h3, h4⟩
    · refine ⟨ps ++ [p], by rw [put_keys, if_neg c, h2, List.map_append]; rfl, List.nodup_append.mpr ⟨h3, List.nodup_cons.mpr ⟨List.not_mem_nil, .nil⟩, fun x hx y hy e => c ?_⟩, fun x hx => ?_⟩
      · rw [h2]
        rw [List.mem_singleton.mp hy] at e
        exact List.mem_map.mpr ⟨x, hx, by rw [e]⟩
      · rcases List.mem_append.mp hx with hx | hx
        · exact h4 x hx
        · rw [List.mem_singleton.mp hx]; exact hp
  · rcases mem_putK hk with z | z
    · rw [z]; exact hv
    · exact h5 kv z
theorem DTn.erase {K : PySem.W.Frag} {H : Hp} {n : Nat} {kvs : List (List Key × V)} (h : DTn K H n kvs) (j : Nat) : DTn K H n (kvs.eraseIdx j) := by
  obtain ⟨h1, ⟨ps, h2, h3, h4⟩, h5⟩ := h
  refine ⟨Nat.le_trans (List.length_eraseIdx_le _ _) h1, ⟨ps.eraseIdx j, by rw [← map_erase, h2, map_erase], List.Pairwise.sublist (List.eraseIdx_sublist _ _) h3, fun p hp => h4 p (List.mem_of_mem_eraseIdx hp)⟩, fun kv hk => h5 kv (List.mem_of_mem_eraseIdx hk)⟩
def T54 (K : PySem.W.Frag) (H : Hp) (y : V) : Prop := (∃ (p : Addr) (kvs : List (List Key × V)), y = .ref p ∧ H p = some (.dT kvs) ∧ DT K H kvs) ∨ (∃ (p : Addr) (z : Str) (i : Int), y = .ref p ∧ H p = some (.dK [(.inr z, .int i)]) ∧ Gd H y 3 1000) ∨ (NoD K H y ∧ Gd H y 4 200000)
theorem T54.same {K : PySem.W.Frag} {H H' : Hp} {y : V} (s : Same H H') (h : T54 K H y) : T54 K H' y := by
  rcases h with ⟨p, kvs, h1, h2, h3⟩ | ⟨p, z, i, h1, h2, h3⟩ | ⟨⟨t, h1, h2⟩, h3⟩
  · exact .inl ⟨p, kvs, h1, s _ _ h2, h3.same s⟩
  · exact .inr (.inl ⟨p, z, i, h1, s _ _ h2, h3.same s⟩)
  · exact .inr (.inr ⟨⟨t, TyOf.same s h1, h2⟩, h3.same s⟩)
theorem El.t54 {K : PySem.W.Frag} {H : Hp} {y : V} (h : El K H y) : T54 K H y := by
  have g := h.2
  obtain ⟨d, r, _⟩ := h.2
  have m3 : Gd H y 4 200000 := g.mono (by decide) (by decide)
  cases r with
  | non => exact .inr (.inr ⟨⟨_, .non, by rfl⟩, m3⟩)
  | bl b => exact .inr (.inr ⟨⟨_, .bl b, by rfl⟩, m3⟩)
  | int i => exact .inr (.inr ⟨⟨_, .int i, by rfl⟩, m3⟩)
  | str z => exact .inr (.inr ⟨⟨_, .str z, by rfl⟩, m3⟩)
  | lst hq _ => exact .inr (.inr ⟨⟨_, .lst hq, by rfl⟩, m3⟩)
  | tup hq _ => exact .inr (.inr ⟨⟨_, .tup hq, by rfl⟩, m3⟩)
  | dic hq => exact .inr (.inl ⟨_, _, _, rfl, hq, g.mono (by decide) (by decide)⟩)
theorem rdt_of {K : PySem.W.Frag} {H : Hp} : ∀ {kvs : List (List Key × V)} {ps : List (Int × Int)}, kvs.map (·.1) = ps.map pkey → (∀ p ∈ ps, SmP p) → (∀ kv ∈ kvs, El K H kv.2) →
    ∃ kds, RdT H kvs kds ∧ PyData.showableKv kds = true ∧ PyData.depthKv kds ≤ 2 ∧ PyData.leavesShortKv 50 kds = true ∧ PyData.weightKv kds ≤ 1100 * kvs.length
  | [], _, _, _, _ => ⟨[], .nil, by simp only [PyData.showableKv], by simp only [PyData.depthKv]; omega, by simp only [PyData.leavesShortKv], by simp only [PyData.weightKv]; omega⟩
  | kv :: kvs, [], h, _, _ => by cases h
  | kv :: kvs, p :: ps, h, hp, hv => by
    rw [List.map_cons, List.map_cons] at h
    obtain ⟨h1, h2⟩ := List.cons.inj h
    obtain ⟨kds, r, z1, z2, z3, z4⟩ := rdt_of h2 (fun q hq => hp q (List.mem_cons_of_mem _ hq)) fun x hx => hv x (List.mem_cons_of_mem _ hx)
    obtain ⟨d, rd, y1, y2, y3, y4⟩ := (hv kv List.mem_cons_self).2
    obtain ⟨_, g2, g3, g4, g5⟩ := hp p List.mem_cons_self
    have i1 := sh_int (i := p.1) (Nat.lt_of_le_of_lt (show p.1.natAbs ≤ 100 by omega) (by decide))
    have i2 := sh_int (i := p.2) (Nat.lt_of_le_of_lt (show p.2.natAbs ≤ 100 by omega) (by decide))
    obtain ⟨x1, x2, x3, x4⟩ := Sh2s.tup (Sh2s.cons i1 (Sh2s.cons i2 (Sh2s.nil 0 0)))
    have ekv : kv = (pkey p, kv.2) := by rw [← h1]
    refine ⟨(.tuple [.int p.1, .int p.2], d) :: kds, by rw [ekv]; exact .cons rd r, ?_, ?_, ?_, ?_⟩
    · simp only [PyData.showableKv, x1, y1, z1, Bool.and_self]
    · simp only [PyData.depthKv]; omega
    · simp only [PyData.leavesShortKv, x3, y3, z3, Bool.and_self]
    · simp only [PyData.weightKv]
      rw [List.length_cons, Nat.mul_succ]
      omega
theorem DT.shown {K : PySem.W.Frag} {H : Hp} {kvs : List (List Key × V)} (h : DT K H kvs) : ∃ kds, RdT H kvs kds ∧ (PyData.dict kds).showable = true ∧ (PyData.dict kds).depth ≤ 40 ∧ (PyData.dict kds).shown.length ≤ sizeLine := by
  obtain ⟨h1, ⟨ps, h2, _, h4⟩, h5⟩ := h
  obtain ⟨kds, r, z1, z2, z3, z4⟩ := rdt_of h2 h4 h5
  refine ⟨kds, r, by simp only [PyData.showable]; exact z1, by simp only [PyData.depth]; omega, ?_⟩
  refine Sh2.size (n := 3) (w := 220000) ⟨by simp only [PyData.showable]; exact z1, by simp only [PyData.depth]; omega, by simp only [PyData.leavesShort]; exact z3, ?_⟩ (by decide)
  simp only [PyData.weight]
  omega
def spTurned (K : PySem.W.Frag) : Sp := fun vs H Q _ => ∃ (b pd : Addr) (x : V) (n : Int) (l : List Nat) (due : List (List Key × V)), vs = [.ref b, .ref pd, x] ∧ H b = some (.lst [.int n]) ∧ H pd = some (.dT due) ∧ TabX l due ∧ l.length ≤ 10 ∧ El K (off b H) x ∧
  ∀ (y : V) (n' : Int) (H' : Hp), T54 K (off b H') y → H' b = some (.lst [.int n']) → But b H H' → Q y H'
end Mr
namespace Mr
open PySem L2
theorem put_all {K : PySem.W.Frag} {H : Hp} : ∀ {r kvs : List (List Key × V)} {n : Nat}, DTn K H n kvs → (∀ x ∈ r, (∃ p, x.1 = pkey p ∧ SmP p) ∧ El K H x.2) → DTn K H (n + r.length) (putAllT kvs r)
  | [], kvs, n, h, _ => h
  | (k, v) :: r, kvs, n, h, hr => by
    obtain ⟨⟨p, e, hp⟩, hv⟩ := hr _ List.mem_cons_self
    have e : k = pkey p := e
    subst e
    have := put_all (r := r) (h.put hp hv) fun x hx => hr x (List.mem_cons_of_mem _ hx)
    rw [List.length_cons, show n + (r.length + 1) = n + 1 + r.length by omega]
    exact this
theorem dtn_nil {K : PySem.W.Frag} {H : Hp} : DTn K H 0 [] := ⟨Nat.le_refl _, ⟨[], rfl, .nil, fun p hp => by cases hp⟩, fun kv hk => by cases hk⟩
theorem el_small {K : PySem.W.Frag} {H : Hp} {i : Int} (h : i.natAbs ≤ 100) : El K H (.int i) := el_int (Nat.lt_of_le_of_lt h (by decide))
theorem el_digits {K : PySem.W.Frag} {H : Hp} {n : Nat} (h : n ≤ 11) : El K H (.str (toString (n : Int) : String)) := by
  have : n = 0 ∨ n = 1 ∨ n = 2 ∨ n = 3 ∨ n = 4 ∨ n = 5 ∨ n = 6 ∨ n = 7 ∨ n = 8 ∨ n = 9 ∨ n = 10 ∨ n = 11 := by omega
  rcases this with rfl | rfl | rfl | rfl | rfl | rfl | rfl | rfl | rfl | rfl | rfl | rfl <;> exact ⟨.inl trivial, (gd_str _ (by decide +kernel) (by decide +kernel)).mono (by decide) (by decide)⟩
end Mr
namespace Mr
open PySem L2
theorem prAt_mem54 {ps : List (Int × Int)} {i : Nat} (h : i < ps.length) : prAt ps i ∈ ps := List.mem_of_getElem? (pr_get h)
end Mr
namespace Mr
open PySem L2
theorem prs_rev {H : Hp} {ys : List V} {qs : List (Int × Int)} (h : PrsV H ys qs) : PrsV H ys.reverse qs.reverse := by
  refine ⟨by rw [List.length_reverse, List.length_reverse, h.1], fun i hi => ?_⟩
  rw [List.length_reverse] at hi
  have hl := h.1
  obtain ⟨r, e1, e2⟩ := h.2 (qs.length - 1 - i) (by omega)
  refine ⟨r, by rw [List.getElem?_reverse (by omega), hl]; exact e1, ?_⟩
  have : prAt qs.reverse i = prAt qs (qs.length - 1 - i) := by
    unfold prAt
    rw [List.getD_eq_getElem?_getD, List.getElem?_reverse hi, List.getD_eq_getElem?_getD]
  rw [this]
  exact e2
end Mr
namespace Mr
open PySem L2
theorem thaw_same {H Hx : Hp} {p : Addr} {o : Obj} {kvs : List (List Key × V)} (hp : H p = some (.dT kvs)) (s : Same (upd H p (.frz o (.dT kvs))) Hx) : Same H (upd Hx p (.dT kvs)) := fun b u hb => by
  by_cases e : b = p
  · subst e
    rw [upd_same]
    rw [hp] at hb
    exact hb
  · rw [upd_ne e]
    refine s _ _ ?_
    rw [upd_ne e]
    exact hb
theorem dget_frz {H : Hp} {p b : Addr} {o : Obj} {kvs : List (List Key × V)} {k : List Key} {v : V} (hp : H p = some (.frz o (.dT kvs))) (hb : H b = some (.tup (k.map kV))) (hv : valV kvs k = some v) : DGet H p (.ref b) (some v) := .inr ⟨kvs, k, b, .inr ⟨o, hp⟩, rfl, hb, hv.symm⟩
theorem rep_bl {i : Nat} : (List.replicate (i + 1) true).map V.bl = (List.replicate i true).map V.bl ++ [.bl true] := by
  rw [List.replicate_succ', List.map_append]
  rfl
theorem rep_all (n : Nat) : (List.replicate n true).all id = true := by
  rw [List.all_eq_true]
  intro x hx
  exact (List.mem_replicate.mp hx).2
end Mr
namespace Mr
open PySem L2
def top (i : Nat) : Stmt := PySem.Challenge.pw_mirrorruns_k54_mend_tables.main.body.getD i (.Pass ⟨0, 0, 0, 0⟩)
abbrev sWhole : Stmt := top 5
abbrev s_is_same_number : Stmt := top 6
abbrev sStretch : Stmt := top 7
abbrev sIsRow : Stmt := top 11
abbrev sNeedRow : Stmt := top 12
abbrev s_need_short : Stmt := top 15
abbrev s_signs_more : Stmt := top 16
abbrev s_mend_table : Stmt := top 17
abbrev s_more_for : Stmt := top 18
abbrev s_is_mend_table : Stmt := top 19
abbrev sBox : Stmt := top 21
abbrev sTake : Stmt := top 22
abbrev s_law_whole : Stmt := top 23
abbrev sOdd : Stmt := top 24
abbrev sRow : Stmt := top 25
abbrev s_law_table : Stmt := top 26
abbrev s_law_turned : Stmt := top 27
abbrev sLaw : Stmt := top 28
end Mr
namespace Mr
open PySem L2
section
variable {P : Program} {w : World} {K : PySem.W.Frag} {mg : Str → Option Value} {base : Heap}
theorem scIsRow : FnScope ["thing"] ["thing"] (defScope sIsRow) := ⟨rfl, rfl, rfl, by decide +kernel, rfl, by decide +kernel, by decide +kernel⟩
theorem ok_isrow (a : At K mg "is_row" sIsRow ["thing"]) (zi : mg "isinstance" = none) (zs : mg "str" = none) (zl : mg "len" = none) (za : mg "all" = none) {tM tL : Tok} (hM : mg "MOST_SIGNS" = some (.int 200 tM)) (hL : mg "LETTERS" = some (.str (tx lets) tL)) :
    Df P w K mg base 1 "is_row" ["thing"] (spIsRow K) := by
  refine a.df fun f fd F => ?_
  refine F.ok scIsRow (fun vs H Q E h => ?_) (fun cdv A outer s H vs Q E hr h => ?_)
  · obtain ⟨_, rfl, _⟩ := h
    rfl
  · obtain ⟨x, rfl, hT, q⟩ := h
    refine ⟨_, pss_cons (ps_if (pw_or (pt_not (pt_val (pe_callB call_isT (by rfl) zi bt_isinstance (pa_cons (pv 0) (pa_cons (pe_bltn (v := .ty "str") (by rfl) zs bt_str rfl) pa_nil)))))
        (pw_or1 (pt_cmpR op_gt (pe_callB call_len_str (by rfl) zl bt_len (pa_cons (pv 0) pa_nil)) (pe_glob (v := .int 200) (by rfl) hM ⟨_, rfl⟩) (nomark _)))).pt (pss_one (ps_ret pe_bl)) pss_nil)
      (pss_one (ps_ret (pe_callB (call_allB rfl) (by rfl) za bt_all (pa_cons (pe_comp (ys := []) (ix := []) ⟨rfl, by decide +kernel, rfl, by decide +kernel, rfl, by decide +kernel, trivial, rfl, trivial⟩ rfl
        (pi_str (pv 0)) (fun C fp s H => pts_nil) (fun C fp s H => pe_cmpR op_inS (pv 0) (pe_glob (X := cmpCx _ _ _ _ C fp s H) (v := .str (tx lets)) (by rfl) hL ⟨_, rfl⟩) (by with_unfolding_all rfl))) pa_nil)))), ?_⟩
    rcases hT with ⟨l, rfl, hl⟩ | ⟨hrow, _, t, ty, hk⟩
    · have hz : l.length ≤ sizeLine := by rw [sizeLine_eq]; omega
      refine ⟨_, rfl, _, "str", _, true, rfl, .str _, by rfl, _, rfl, iteF ?_⟩
      refine ⟨_, rfl, tx l, rfl, by rw [tx_len]; exact hz, _, _, rfl, rfl, _, rfl, ite2 (fun h1 => ?_) (fun h1 => ?_)⟩
      · have h2 : 200 < l.length := by have := of_decide_eq_true h1; rw [tx_len] at this; omega
        have e : rowV (.str (tx l)) = false := by
          show rowL l = false
          unfold rowL
          rw [decide_eq_false (by omega)]; rfl
        have q' := q H (Same.refl _)
        rw [e] at q'
        exact q'
      · have h2 : l.length ≤ 200 := by
          have : ¬ ((200 : Int) < ((tx l).length : Int)) := fun z => h1 (decide_eq_true z)
          rw [tx_len] at this; omega
        refine ⟨_, rfl, l, rfl, comp_str (l := l) hz (fun i ys H' => H' = H ∧ ys = (l.take i).map fun c => V.bl (decide (c ∈ lets))) ⟨rfl, rfl⟩ ?_ ?_⟩
        · rintro i c ys H' N hc hy ⟨rfl, rfl⟩ hN
          refine yes_ok (iteT ⟨_, rfl, c, lets, rfl, rfl, hN _ _ (by simp; omega) ⟨rfl, ?_⟩⟩)
          rw [List.take_succ, hc]
          simp
        · rintro ys H' hy ⟨rfl, rfl⟩ p hp
          refine ⟨p, l.map fun c => decide (c ∈ lets), rfl, SqL.of (by rw [upd_same, List.take_of_length_le (Nat.le_refl _), List.map_map]; rfl), ?_⟩
          have e : rowV (.str (tx l)) = (l.map fun c => decide (c ∈ lets)).all id := by
            show rowL l = _
            unfold rowL
            rw [decide_eq_true h2, Bool.true_and, List.all_map]; rfl
          rw [← e]
          exact q _ (Same.upd hp)
    · refine ⟨_, rfl, _, "str", _, false, rfl, ty, hk, _, rfl, iteT (iteT ?_)⟩
      have q' := q H (Same.refl _)
      rw [hrow] at q'
      exact q'
end
end Mr
namespace Mr
open PySem L2
section
variable {P : Program} {w : World} {K : PySem.W.Frag} {mg : Str → Option Value} {base : Heap}
theorem scNeed : FnScope ["thing"] ["thing"] (defScope sNeedRow) := ⟨rfl, rfl, rfl, by decide +kernel, rfl, by decide +kernel, by decide +kernel⟩
theorem ok_need (a : At K mg "need_row" sNeedRow ["thing"]) (dR : Df P w K mg base 1 "is_row" ["thing"] (spIsRow K)) : Df P w K mg base 2 "need_row" ["thing"] spNeed := by
  refine a.df fun f fd F => ?_
  refine F.ok scNeed (fun vs H Q E h => ?_) (fun cdv A outer s H vs Q E hr h => ?_)
  · obtain ⟨_, rfl, _⟩ := h
    rfl
  · obtain ⟨l, rfl, hrow, q⟩ := h
    refine ⟨_, pss_one (ps_if (pt_not (pt_val (pe_df dR hr rfl (pa_cons (pv 0) pa_nil)))) pss_never pss_nil), ?_⟩
    refine ⟨_, rfl, _, rfl, row_thing hrow, fun H' hs => ⟨_, rfl, ?_⟩⟩
    have e : rowV (.str (tx l)) = true := hrow
    rw [e]
    exact iteF (q H' hs)
end
end Mr
namespace Mr
open PySem L2
section
variable {P : Program} {w : World} {K : PySem.W.Frag} {mg : Str → Option Value} {base : Heap}
theorem scWhole : FnScope ["thing"] ["thing"] (defScope sWhole) := ⟨rfl, rfl, rfl, by decide +kernel, rfl, by decide +kernel, by decide +kernel⟩
theorem ok_whole (a : At K mg "is_whole" sWhole ["thing"]) (zi : mg "isinstance" = none) (zn : mg "int" = none) (zb : mg "bool" = none) : Df P w K mg base 1 "is_whole" ["thing"] spWhole := by
  refine a.df fun f fd F => ?_
  refine F.ok scWhole (fun vs H Q E h => ?_) (fun cdv A outer s H vs Q E hr h => ?_)
  · obtain ⟨_, rfl, _⟩ := h
    rfl
  · obtain ⟨x, rfl, hS, q⟩ := h
    refine ⟨_, (pss_one (ps_ret (pe_and (pe_callB call_isT (by rfl) zi bt_isinstance (pa_cons (pv 0) (pa_cons (pe_bltn (v := .ty "int") (by rfl) zn bt_int rfl) pa_nil))) (pe_one (pe_not (pe_callB call_isT (by rfl) zi bt_isinstance (pa_cons (pv 0) (pa_cons (pe_bltn (v := .ty "bool") (by rfl) zb bt_bool rfl) pa_nil)))))))), ?_⟩
    cases x with
    | non => exact ⟨_, rfl, _, "int", _, false, rfl, .non, rfl, _, rfl, iteF q⟩
    | str z => exact ⟨_, rfl, _, "int", _, false, rfl, .str _, rfl, _, rfl, iteF q⟩
    | int i => exact ⟨_, rfl, _, "int", _, true, rfl, .int _, rfl, _, rfl, iteT ⟨_, rfl, _, "bool", _, false, rfl, .int _, rfl, _, rfl, q⟩⟩
    | bl b => exact ⟨_, rfl, _, "int", _, true, rfl, .bl _, rfl, _, rfl, iteT ⟨_, rfl, _, "bool", _, true, rfl, .bl _, rfl, _, rfl, q⟩⟩
    | _ => exact hS.elim
end
end Mr
namespace Mr
open PySem L2
section
variable {P : Program} {w : World} {K : PySem.W.Frag} {mg : Str → Option Value} {base : Heap}
theorem scStretch : FnScope ["thing", "length"] ["thing", "length"] (defScope sStretch) := ⟨rfl, rfl, rfl, by decide +kernel, rfl, by decide +kernel, by decide +kernel⟩
theorem ok_stretch (a : At K mg "is_stretch" sStretch ["thing", "length"]) (dW : Df P w K mg base 1 "is_whole" ["thing"] spWhole) (zi : mg "isinstance" = none) (zt : mg "tuple" = none) (zl : mg "len" = none) : Df P w K mg base 2 "is_stretch" ["thing", "length"] (spStretch K) := by
  refine a.df fun f fd F => ?_
  refine F.ok scStretch (fun vs H Q E h => ?_) (fun cdv A outer s H vs Q E hr h => ?_)
  · obtain ⟨_, _, rfl, _⟩ := h
    rfl
  · obtain ⟨x, n, rfl, h⟩ := h
    refine ⟨_, (pss_cons (ps_if (PW.pt (pw_or (pt_not (pt_val (pe_callB call_isT (by rfl) zi bt_isinstance (pa_cons (pv 0) (pa_cons (pe_bltn (v := .ty "tuple") (by rfl) zt bt_tuple rfl) pa_nil))))) (pw_or1 (pt_cmpR op_ne (pe_callB call_len_seq (by rfl) zl bt_len (pa_cons (pv 0) pa_nil)) pe_int (nomark _))))) (pss_one (ps_ret pe_bl)) pss_nil)
      (pss_cons (ps_if (PW.pt (pw_or (pt_not (pt_val (pe_df dW hr rfl (pa_cons (pe_ix ix_tup (pv 0) pe_int (fun _ _ => rfl)) pa_nil)))) (pw_or1 (pt_not (pt_val (pe_df dW hr rfl (pa_cons (pe_ix ix_tup (pv 0) pe_int (fun _ _ => rfl)) pa_nil))))))) (pss_one (ps_ret pe_bl)) pss_nil)
      (pss_one (ps_ret (pe_chain3 op_le op_le op_le pe_int (pe_ix ix_tup (pv 0) pe_int (fun _ _ => rfl)) (pe_ix ix_tup (pv 0) pe_int (fun _ _ => rfl)) (pv 1)))))), ?_⟩
    rcases h with ⟨⟨t, ty, hk⟩, q⟩ | ⟨p, xs, rfl, hp, hs, q⟩
    · exact ⟨_, rfl, _, "tuple", _, false, rfl, ty, hk, _, rfl, iteT (iteT q)⟩
    · refine ⟨_, rfl, _, "tuple", _, true, rfl, .tup hp, by rfl, _, rfl, iteF ⟨_, rfl, p, xs, rfl, .inr (SqT.of hp), rfl, _, rfl, ?_⟩⟩
      by_cases hl : xs.length = 2
      · rw [decide_eq_true (by rw [hl]; rfl : V.int (xs.length : Int) = V.int 2)]
        refine iteF ?_
        obtain ⟨y0, y1, rfl⟩ : ∃ y0 y1, xs = [y0, y1] := by
          match xs, hl with
          | [y0, y1], _ => exact ⟨y0, y1, rfl⟩
        have s0 : Scal y0 := hs rfl y0 (by simp)
        have s1 : Scal y1 := hs rfl y1 (by simp)
        refine ⟨_, rfl, p, _, _, y0, rfl, rfl, SqT.of hp, atI_nat (j := 0) rfl, y0, rfl, s0, _, rfl, ?_⟩
        by_cases h0 : wholeV y0 = true
        · rw [h0]
          refine iteF ⟨_, rfl, p, _, _, y1, rfl, rfl, SqT.of hp, atI_nat (j := 1) rfl, y1, rfl, s1, _, rfl, ?_⟩
          by_cases h1 : wholeV y1 = true
          · rw [h1]
            refine iteF ?_
            cases y0 <;> cases h0
            rename_i i
            cases y1 <;> cases h1
            rename_i j
            refine ⟨_, rfl, p, _, _, _, rfl, rfl, SqT.of hp, atI_nat (j := 0) rfl, _, _, rfl, rfl, _, rfl, ?_⟩
            have e : stL n [V.int i, V.int j] = (decide (0 ≤ i) && (decide (i ≤ j) && decide (j ≤ n))) := rfl
            rw [e] at q
            by_cases c0 : 0 ≤ i
            · rw [decide_eq_true c0] at q ⊢
              refine iteT ⟨_, rfl, p, _, _, _, rfl, rfl, SqT.of hp, atI_nat (j := 1) rfl, _, _, rfl, rfl, _, rfl, ?_⟩
              by_cases c1 : i ≤ j
              · rw [decide_eq_true c1] at q ⊢
                exact iteT ⟨_, rfl, _, _, rfl, rfl, q⟩
              · rw [decide_eq_false c1] at q ⊢
                exact iteF q
            · rw [decide_eq_false c0] at q ⊢
              exact iteF q
          · have h1' : wholeV y1 = false := by simpa using h1
            rw [h1']
            rw [stL_not (.inr h1')] at q
            exact iteT q
        · have h0' : wholeV y0 = false := by simpa using h0
          rw [h0']
          rw [stL_not (.inl h0')] at q
          exact iteT (iteT q)
      · rw [decide_eq_false (by intro z; exact hl (by have := V.int.inj z; omega) : ¬ V.int (xs.length : Int) = V.int 2)]
        rw [stL_ne hl] at q
        exact iteT q
end
end Mr
namespace Mr
open PySem L2
section
variable {P : Program} {w : World} {K : PySem.W.Frag} {mg : Str → Option Value} {base : Heap}
theorem scTake4 : FnScope ["_law_box_here", "_law_many", "_law_left", "_law_digit"] ["_law_box_here", "_law_many"] (defScope sTake) := ⟨rfl, rfl, rfl, by decide +kernel, rfl, by decide +kernel, by decide +kernel⟩
theorem ok_take4 (a : At K mg "_law_take" sTake ["_law_box_here", "_law_many"]) (zd : mg "divmod" = none) : Df P w K mg base 1 "_law_take" ["_law_box_here", "_law_many"] spTakeI := by
  refine a.df fun f fd F => ?_
  refine F.ok scTake4 (fun vs H Q E h => ?_) (fun cdv A outer s H vs Q E hr h => ?_)
  · obtain ⟨_, _, _, rfl, _⟩ := h
    rfl
  · obtain ⟨b, n, m, rfl, hb, h1, h2, q⟩ := h
    refine ⟨_, pss_cons (ps_asg (pe_callB call_divmod (by rfl) zd bt_divmod (pa_cons (pe_ix ix_list (pv 0) pe_int (fun _ _ => rfl)) (pa_cons (pv 1) pa_nil)))
        (pg_tup rfl (pgs_cons (pg_name (i := 2) scTake4.nd rfl (Or.inl rfl)) (pgs_cons (pg_name (i := 3) scTake4.nd rfl (Or.inl rfl)) pgs_nil))))
      (pss_cons (ps_asg (pv 2) (pg_sub (pv 0) pe_int set_list)) (pss_one (ps_ret (pv 3)))), ?_⟩
    refine ⟨_, rfl, b, _, _, _, rfl, rfl, SqL.of hb, atI_nat (j := 0) rfl, _, rfl, _, _, rfl, ⟨h1, by omega⟩, fun p hp => ?_⟩
    have nb : b ≠ p := ne_of_none hb hp
    refine ⟨p, _, rfl, SqT.of upd_same, rfl, _, _, rfl, _, _, rfl, rfl, ?_⟩
    refine ⟨_, rfl, _, rfl, b, _, _, 0, rfl, rfl, (by rw [upd_ne nb]; exact hb), rfl, ?_⟩
    refine ⟨_, rfl, ?_⟩
    refine q _ (n / m) _ (Int.emod_nonneg _ (by omega)) (Int.emod_lt_of_pos _ h1) upd_same fun c o e hc => ?_
    rw [upd_ne hc, upd_ne (ne_of_none e hp)]
    exact e
end
end Mr
namespace Mr
open PySem L2
section
variable {P : Program} {w : World} {K : PySem.W.Frag} {mg : Str → Option Value} {base : Heap}
theorem scBox4 : FnScope ["_law_script", "_law_k", "_law_here", "_law_number", "_law_j", "_law_part"] ["_law_script", "_law_k"] (defScope sBox) := ⟨rfl, rfl, rfl, by decide +kernel, rfl, by decide +kernel, by decide +kernel⟩
set_option maxHeartbeats 4000000 in
theorem ok_box4 (a : At K mg "_law_box" sBox ["_law_script", "_law_k"]) (z_len : mg "len" = none) (z_range : mg "range" = none) : Df P w K mg base 2 "_law_box" ["_law_script", "_law_k"] (spBoxI K) := by
  refine a.df fun f fd F => ?_
  refine F.ok scBox4 (fun vs H Q E h => ?_) (fun cdv A outer s H vs Q E hr h => ?_)
  · obtain ⟨_, _, _, rfl, _⟩ := h
    rfl
  · obtain ⟨a, ns, k, rfl, hS, h0, q⟩ := h
    refine ⟨_, (pss_cons (ps_set (i := 2) scBox4.nd rfl (Or.inl rfl) (pe_op op_add (pe_op op_mul pe_int (pv 1)) pe_int))
      (pss_cons (ps_if (pt_cmpR op_lt (pv 1) (pe_callB call_len_seq (by rfl) z_len bt_len (pa_cons (pv 0) pa_nil)) (nomark _)) (pss_one (ps_set (i := 2) scBox4.nd rfl (Or.inl rfl) (pe_ix ix_list (pv 0) (pv 1) (fun _ _ => rfl)))) pss_nil)
      (pss_cons (ps_if (pt_cmpR op_eq (pe_op op_mod (pv 2) pe_int) pe_int (nomark _)) (pss_one (ps_ret (pe_lst (pa_cons (pe_op op_fdiv (pv 2) pe_int) pa_nil)))) pss_nil)
      (pss_cons (ps_set (i := 3) scBox4.nd rfl (Or.inl rfl) pe_int)
      (pss_cons (ps_for PassesOwn.never rfl (pi_range1 rfl z_range (pa_cons pe_int pa_nil)) (pg_name (i := 4) scBox4.nd rfl (Or.inl rfl)) (pss_cons (ps_set (i := 5) scBox4.nd rfl (Or.inl rfl) (pe_op op_mod (pe_op op_add (pe_op op_add (pe_op op_mul (pe_op op_mod (pv 2) pe_int) pe_int) (pe_op op_mul pe_int (pv 4))) pe_int) pe_int))
      (pss_cons (ps_set (i := 5) scBox4.nd rfl (Or.inl rfl) (pe_op op_mod (pe_op op_mul (pv 5) (pv 5)) pe_int))
      (pss_one (ps_set (i := 3) scBox4.nd rfl (Or.inl rfl) (pe_op op_add (pe_op op_mul (pv 3) pe_int) (pe_op op_mod (pe_op op_mul (pv 5) (pe_op op_add (pv 5) pe_int)) pe_int)))))))
      (pss_one (ps_ret (pe_lst (pa_cons (pv 3) pa_nil))))))))), ?_⟩
    refine ⟨_, rfl, _, _, rfl, rfl, .inl ⟨by decide, by decide⟩, _, _, rfl, rfl, ?_⟩
    refine ⟨_, rfl, _, rfl, a, _, rfl, .inl hS, _, _, rfl, rfl, _, rfl, ?_⟩
    refine ite2 (fun h1 => ?_) (fun _ => ?_)
    · obtain ⟨z, hz⟩ := int_at (ns := ns) (k := k) h0 (by have := of_decide_eq_true h1; exact this)
      refine ⟨_, rfl, _, rfl, a, _, _, _, rfl, rfl, hS, hz, ?_⟩
      refine ⟨_, rfl, _, _, rfl, rfl, (by show (0 : Int) < 2; decide), rfl, _, rfl, ?_⟩
      refine ite2 (fun _ => ?_) (fun _ => ?_)
      · refine ⟨_, rfl, _, _, rfl, rfl, ⟨by decide, by decide⟩, by show 1 ≤ sizeLine; decide, fun p hp => ?_⟩
        exact q p _ _ hp upd_same (Same.upd hp)
      · refine ⟨16, rfl, by decide, by decide, for_range (n := 16) (fun i σ H' => ∃ (n : Int) (w4 w5 : Option V), σ = [some (.ref a), some (.int k), some (.int z), some (.int n), w4, w5] ∧ H' = H) ⟨0, none, none, rfl, rfl⟩ ?_ ?_⟩
        · rintro i σ H' hi ⟨n, w4, w5, rfl, rfl⟩
          have hc0 := Int.emod_nonneg z (show (2147483647 : Int) ≠ 0 by decide)
          have hc1 := Int.emod_lt_of_pos z (show (0 : Int) < 2147483647 by decide)
          refine ⟨_, rfl, _, _, rfl, rfl, (by show (0 : Int) < 2147483647; decide), _, _, rfl, rfl, .inl ⟨by omega, by omega⟩, _, rfl, _, _, rfl, rfl, .inl ⟨by decide, by decide⟩, _, _, rfl, rfl, _, _, rfl, rfl, _, _, rfl, rfl, (by show (0 : Int) < 2147483647; decide), ?_⟩
          generalize (z % 2147483647 * 48271 + 7919 * (0 + (i : Int)) + 1) = z
          have z0 := Int.emod_nonneg z (show (2147483647 : Int) ≠ 0 by decide)
          have z1 := Int.emod_lt_of_pos z (show (0 : Int) < 2147483647 by decide)
          generalize z % 2147483647 = y at z0 z1
          refine ⟨_, rfl, _, rfl, _, _, rfl, rfl, .inl ⟨by omega, by omega⟩, _, _, rfl, rfl, (by show (0 : Int) < 2147483629; decide), ?_⟩
          have y0 := Int.emod_nonneg (y * y) (show (2147483629 : Int) ≠ 0 by decide)
          have y1 := Int.emod_lt_of_pos (y * y) (show (0 : Int) < 2147483629 by decide)
          generalize y * y % 2147483629 = v at y0 y1
          refine ⟨_, rfl, _, _, rfl, rfl, .inr ⟨by decide, by decide⟩, _, rfl, _, rfl, _, _, rfl, rfl, _, _, rfl, rfl, .inl ⟨by omega, by omega⟩, _, _, rfl, rfl, (by show (0 : Int) < 2147483647; decide), _, _, rfl, rfl, ?_⟩
          exact ⟨_, _, _, rfl, rfl⟩
        · rintro σ H' ⟨n, w4, w5, rfl, rfl⟩
          exact ⟨_, rfl, by show 1 ≤ sizeLine; decide, fun p hp => q p n _ hp upd_same (Same.upd hp)⟩
    · refine ⟨_, rfl, _, _, rfl, rfl, (by show (0 : Int) < 2; decide), rfl, _, rfl, ?_⟩
      refine ite2 (fun _ => ?_) (fun _ => ?_)
      · refine ⟨_, rfl, _, _, rfl, rfl, ⟨by decide, by decide⟩, by show 1 ≤ sizeLine; decide, fun p hp => ?_⟩
        exact q p _ _ hp upd_same (Same.upd hp)
      · refine ⟨16, rfl, by decide, by decide, for_range (n := 16) (fun i σ H' => ∃ (n : Int) (w4 w5 : Option V), σ = [some (.ref a), some (.int k), some (.int (7919 * k + 13)), some (.int n), w4, w5] ∧ H' = H) ⟨0, none, none, rfl, rfl⟩ ?_ ?_⟩
        · rintro i σ H' hi ⟨n, w4, w5, rfl, rfl⟩
          have hc0 := Int.emod_nonneg (7919 * k + 13) (show (2147483647 : Int) ≠ 0 by decide)
          have hc1 := Int.emod_lt_of_pos (7919 * k + 13) (show (0 : Int) < 2147483647 by decide)
          refine ⟨_, rfl, _, _, rfl, rfl, (by show (0 : Int) < 2147483647; decide), _, _, rfl, rfl, .inl ⟨by omega, by omega⟩, _, rfl, _, _, rfl, rfl, .inl ⟨by decide, by decide⟩, _, _, rfl, rfl, _, _, rfl, rfl, _, _, rfl, rfl, (by show (0 : Int) < 2147483647; decide), ?_⟩
          generalize ((7919 * k + 13) % 2147483647 * 48271 + 7919 * (0 + (i : Int)) + 1) = z
          have z0 := Int.emod_nonneg z (show (2147483647 : Int) ≠ 0 by decide)
          have z1 := Int.emod_lt_of_pos z (show (0 : Int) < 2147483647 by decide)
          generalize z % 2147483647 = y at z0 z1
          refine ⟨_, rfl, _, rfl, _, _, rfl, rfl, .inl ⟨by omega, by omega⟩, _, _, rfl, rfl, (by show (0 : Int) < 2147483629; decide), ?_⟩
          have y0 := Int.emod_nonneg (y * y) (show (2147483629 : Int) ≠ 0 by decide)
          have y1 := Int.emod_lt_of_pos (y * y) (show (0 : Int) < 2147483629 by decide)
          generalize y * y % 2147483629 = v at y0 y1
          refine ⟨_, rfl, _, _, rfl, rfl, .inr ⟨by decide, by decide⟩, _, rfl, _, rfl, _, _, rfl, rfl, _, _, rfl, rfl, .inl ⟨by omega, by omega⟩, _, _, rfl, rfl, (by show (0 : Int) < 2147483647; decide), _, _, rfl, rfl, ?_⟩
          exact ⟨_, _, _, rfl, rfl⟩
        · rintro σ H' ⟨n, w4, w5, rfl, rfl⟩
          exact ⟨_, rfl, by show 1 ≤ sizeLine; decide, fun p hp => q p n _ hp upd_same (Same.upd hp)⟩
end
end Mr
namespace Mr
open PySem L2
section
variable {P : Program} {w : World} {K : PySem.W.Frag} {mg : Str → Option Value} {base : Heap}
theorem scRow4 : FnScope ["_law_box_here", "_law_most", "_law_letters", "_law_row_here", "_law_k", "_law_mode"] ["_law_box_here", "_law_most"] (defScope sRow) := ⟨rfl, rfl, rfl, by decide +kernel, rfl, by decide +kernel, by decide +kernel⟩
set_option maxHeartbeats 8000000 in
theorem ok_row4 (a : At K mg "_law_row" sRow ["_law_box_here", "_law_most"]) (d_law_take : Df P w K mg base 1 "_law_take" ["_law_box_here", "_law_many"] spTakeI) (z_len : mg "len" = none) (z_range : mg "range" = none) : Df P w K mg base 3 "_law_row" ["_law_box_here", "_law_most"] spRowI := by
  refine a.df fun f fd F => ?_
  refine F.ok scRow4 (fun vs H Q E h => ?_) (fun cdv A outer s H vs Q E hr h => ?_)
  · obtain ⟨_, _, _, rfl, _⟩ := h
    rfl
  · obtain ⟨b, n, most, rfl, hb, hm0, hm1, q⟩ := h
    refine ⟨_, (@pss_cons _ _ _ _ _ (@ps_set _ _ 2 _ _ _ _ scRow4.nd rfl (Or.inl rfl) (pe_slice sl_strS pe_str po_none (po_some (@pe_op _ _ _ _ _ _ _ _ op_add pe_int (pe_df d_law_take hr rfl (pa_cons (pv 0) (pa_cons pe_int pa_nil)))))) rfl (Or.inl rfl))
      (@pss_cons _ _ _ _ _ (@ps_set _ _ 3 _ _ _ _ scRow4.nd rfl (Or.inl rfl) pe_str rfl (Or.inl rfl))
      (@pss_cons _ _ _ _ _ (ps_for PassesOwn.never rfl (pi_range1 rfl z_range (pa_cons (pe_df d_law_take hr rfl (pa_cons (pv 0) (pa_cons (@pe_op _ _ _ _ _ _ _ _ op_add (pv 1) pe_int) pa_nil))) pa_nil)) (pg_name (i := 4) scRow4.nd rfl (Or.inl rfl)) (@pss_one _ _ _ (@ps_set _ _ 3 _ _ _ _ scRow4.nd rfl (Or.inl rfl) (@pe_op _ _ _ _ _ _ _ _ op_addS (pv 3) (@pe_ix _ _ _ _ _ _ _ ix_strS (pv 2) (pe_df d_law_take hr rfl (pa_cons (pv 0) (pa_cons (pe_callB call_len_str (by rfl) z_len bt_len (pa_cons (pv 2) pa_nil)) pa_nil))) (fun _ _ => rfl))) rfl (Or.inl rfl))))
      (@pss_cons _ _ _ _ _ (@ps_set _ _ 5 _ _ _ _ scRow4.nd rfl (Or.inl rfl) (pe_df d_law_take hr rfl (pa_cons (pv 0) (pa_cons pe_int pa_nil))) rfl (Or.inl rfl))
      (@pss_cons _ _ _ _ _ (@ps_if _ _ _ _ _ _ _ _ (pt_cmpR op_eq (pv 5) pe_int (nomark _)) (@pss_one _ _ _ (@ps_set _ _ 3 _ _ _ _ scRow4.nd rfl (Or.inl rfl) (pe_slice sl_strS (@pe_op _ _ _ _ _ _ _ _ op_addS (pv 3) (pe_rev (pv 3) (pe_un un_neg pe_int))) po_none (po_some (pv 1))) rfl (Or.inl rfl))) pss_nil)
      (@pss_cons _ _ _ _ _ (@ps_if _ _ _ _ _ _ _ _ (pt_cmpR op_eq (pv 5) pe_int (nomark _)) (@pss_one _ _ _ (@ps_set _ _ 3 _ _ _ _ scRow4.nd rfl (Or.inl rfl) (pe_slice sl_strS (@pe_op _ _ _ _ _ _ _ _ op_addS (pv 3) (pe_slice sl_strS (pe_rev (pv 3) (pe_un un_neg pe_int)) (po_some pe_int) po_none)) po_none (po_some (pv 1))) rfl (Or.inl rfl))) pss_nil)
      (@pss_one _ _ _ (@ps_ret _ _ _ _ (pv 3))))))))), ?_⟩
    refine ⟨_, rfl, b, n, 4, rfl, hb, by decide, by decide, fun d1 n1 H1 hd1 hd1' hb1 k1 => ⟨_, _, rfl, rfl, _, rfl, [97, 98, 99, 122], congrArg V.str e_abcz, by decide, ?_⟩⟩
    obtain ⟨d, rfl⟩ := Int.eq_ofNat_of_zero_le hd1
    have ed : (1 : Int) + (d : Int) = ((1 + d : Nat) : Int) := by omega
    rw [ed, cut_to]
    have hA : Abcz (([97, 98, 99, 122] : List Nat).take (1 + d)) := fun c h => by
      have := List.mem_of_mem_take h
      simpa using this
    have hl0 : 0 < (([97, 98, 99, 122] : List Nat).take (1 + d)).length := by rw [List.length_take]; show 0 < min _ 4; omega
    have hl1 : (([97, 98, 99, 122] : List Nat).take (1 + d)).length ≤ 4 := by rw [List.length_take]; show min _ 4 ≤ 4; omega
    generalize ([97, 98, 99, 122] : List Nat).take (1 + d) = lt at hA hl0 hl1
    refine ⟨_, rfl, _, rfl, _, _, rfl, rfl, b, n1, most + 1, rfl, hb1, by omega, by omega, fun d2 n2 H2 hd2 hd2' hb2 k2 => ?_⟩
    obtain ⟨many, rfl⟩ := Int.eq_ofNat_of_zero_le hd2
    refine ⟨_, rfl, by omega, by omega, ?_⟩
    have e0 : ((many : Int)).toNat = many := by omega
    rw [e0]
    refine for_range (fun i σ H' => ∃ (cs : List Nat) (n' : Int) (w4 : Option V), σ = [some (.ref b), some (.int most), some (.str (tx lt)), some (.str (tx cs)), w4, none] ∧ Abcz cs ∧ cs.length = i ∧ H' b = some (.lst [.int n']) ∧ But b H H') ⟨[], n2, none, (by rw [← e_nil]; rfl), Abcz.nil, rfl, hb2, k1.trans k2⟩ ?_ ?_
    · rintro i σ H3 hi ⟨cs, n3, w4, rfl, hc, hcl, hb3, k3⟩
      refine ⟨_, rfl, _, rfl, _, rfl, _, rfl, tx lt, rfl, (by rw [tx_len, sizeLine_eq]; omega), b, n3, _, rfl, hb3, (by rw [tx_len]; omega), (by rw [tx_len]; omega), fun d3 n4 H4 hd3 hd3' hb4 k4 => ?_⟩
      rw [tx_len] at hd3'
      obtain ⟨c, hc1, hc2⟩ := at_ofInt (xs := lt) hd3 hd3'
      refine ⟨lt, _, c, rfl, rfl, (by rw [sizeLine_eq]; omega), hc1, cs, [c], rfl, rfl, (by rw [sizeLine_eq]; show _ + 1 ≤ _; omega), ?_⟩
      refine ⟨cs ++ [c], n4, _, rfl, hc.app fun z hz => ?_, by simp; omega, hb4, k3.trans k4⟩
      have e : z = c := by simpa using hz
      subst e
      exact hA z hc2
    · rintro σ H3 ⟨cs, n3, w4, rfl, hc, hcl, hb3, k3⟩
      refine ⟨_, rfl, b, n3, 4, rfl, hb3, by decide, by decide, fun d4 n4 H4 _ _ hb4 k4 => ?_⟩
      have k4' := k3.trans k4
      have hcm : (cs.length : Int) ≤ most := by omega
      refine ⟨_, rfl, rfl, _, rfl, ite2 (fun _ => ?_) (fun _ => ?_)⟩
      · refine ⟨_, rfl, _, rfl, _, rfl, cs, rfl, rfl, (by rw [sizeLine_eq]; omega), cs, _, rfl, rfl, (by rw [List.length_reverse, sizeLine_eq]; omega), _, rfl, _, rfl, _, rfl, (by rw [List.length_append, List.length_reverse, sizeLine_eq]; omega), ?_⟩
        have hA2 : Abcz (cutL (cs ++ cs.reverse) none (some most)) := (hc.app hc.rev).cut _ _
        have hl2 : ((cutL (cs ++ cs.reverse) none (some most)).length : Int) ≤ most := by
          obtain ⟨mo, rfl⟩ := Int.eq_ofNat_of_zero_le hm0
          rw [cut_to, List.length_take]; omega
        generalize cutL (cs ++ cs.reverse) none (some most) = ms at hA2 hl2
        refine ⟨_, rfl, rfl, _, rfl, ite2 (fun _ => ?_) (fun _ => ?_)⟩
        · refine ⟨_, rfl, _, rfl, _, rfl, ms, rfl, rfl, (by rw [sizeLine_eq]; omega), _, rfl, ms.reverse, rfl, (by rw [List.length_reverse, sizeLine_eq]; omega), ms, _, rfl, rfl, ?_, _, rfl, _, rfl, _, rfl, ?_, ?_⟩
          · have := cut_le ms.reverse (some 1) none
            rw [List.length_reverse] at this
            rw [sizeLine_eq]; omega
          · have := cut_le ms.reverse (some 1) none
            rw [List.length_reverse] at this
            rw [List.length_append, sizeLine_eq]; omega
          · obtain ⟨mo, rfl⟩ := Int.eq_ofNat_of_zero_le hm0
            refine ⟨_, rfl, ?_⟩
            rw [cut_to]
            refine q _ n4 H4 ((hA2.app (hA2.rev.cut _ _)).take _) ?_ hb4 k4'
            rw [List.length_take]; omega
        · exact ⟨_, rfl, q _ n4 H4 hA2 hl2 hb4 k4'⟩
      · refine ⟨_, rfl, rfl, _, rfl, ite2 (fun _ => ?_) (fun _ => ?_)⟩
        · refine ⟨_, rfl, _, rfl, _, rfl, cs, rfl, rfl, (by rw [sizeLine_eq]; omega), _, rfl, cs.reverse, rfl, (by rw [List.length_reverse, sizeLine_eq]; omega), cs, _, rfl, rfl, ?_, _, rfl, _, rfl, _, rfl, ?_, ?_⟩
          · have := cut_le cs.reverse (some 1) none
            rw [List.length_reverse] at this
            rw [sizeLine_eq]; omega
          · have := cut_le cs.reverse (some 1) none
            rw [List.length_reverse] at this
            rw [List.length_append, sizeLine_eq]; omega
          · obtain ⟨mo, rfl⟩ := Int.eq_ofNat_of_zero_le hm0
            refine ⟨_, rfl, ?_⟩
            rw [cut_to]
            refine q _ n4 H4 ((hc.app (hc.rev.cut _ _)).take _) ?_ hb4 k4'
            rw [List.length_take]; omega
        · exact ⟨_, rfl, q _ n4 H4 hc hcm hb4 k4'⟩
end
end Mr
namespace Mr
open PySem L2
section
variable {P : Program} {w : World} {K : PySem.W.Frag} {mg : Str → Option Value} {base : Heap}
theorem scok_wholeg : FnScope ["thing"] ["thing"] (defScope sWhole) := ⟨rfl, rfl, rfl, by decide +kernel, rfl, by decide +kernel, by decide +kernel⟩
theorem ok_wholeg (a : At K mg "is_whole" sWhole ["thing"]) (z_isinstance : mg "isinstance" = none) (z_int : mg "int" = none) (z_bool : mg "bool" = none) : Df P w K mg base 1 "is_whole" ["thing"] (spWholeG K) := by
  refine a.df fun f fd F => ?_
  refine F.ok scok_wholeg (fun vs H Q E h => ?_) (fun cdv A outer s H vs Q E hr h => ?_)
  · obtain ⟨_, rfl, _⟩ := h
    rfl
  · obtain ⟨x, rfl, hS, q⟩ := h
    refine ⟨_, (pss_one (ps_ret (pe_and (pe_callB call_isT (by rfl) z_isinstance bt_isinstance (pa_cons (pv 0) (pa_cons (pe_bltn (v := .ty "int") (by rfl) z_int bt_int rfl) pa_nil))) (pe_one (pe_not (pe_callB call_isT (by rfl) z_isinstance bt_isinstance (pa_cons (pv 0) (pa_cons (pe_bltn (v := .ty "bool") (by rfl) z_bool bt_bool rfl) pa_nil)))))))), ?_⟩
    rcases hS with hS | ⟨hw, t, ty, hk⟩
    · cases x with
      | non => exact ⟨_, rfl, _, "int", _, false, rfl, .non, rfl, _, rfl, iteF q⟩
      | str z => exact ⟨_, rfl, _, "int", _, false, rfl, .str _, rfl, _, rfl, iteF q⟩
      | int i => exact ⟨_, rfl, _, "int", _, true, rfl, .int _, rfl, _, rfl, iteT ⟨_, rfl, _, "bool", _, false, rfl, .int _, rfl, _, rfl, q⟩⟩
      | bl b => exact ⟨_, rfl, _, "int", _, true, rfl, .bl _, rfl, _, rfl, iteT ⟨_, rfl, _, "bool", _, true, rfl, .bl _, rfl, _, rfl, q⟩⟩
      | _ => exact hS.elim
    · rw [hw] at q
      exact ⟨_, rfl, _, "int", _, false, rfl, ty, hk, _, rfl, iteF q⟩
end
end Mr
namespace Mr
open PySem L2
section
variable {P : Program} {w : World} {K : PySem.W.Frag} {mg : Str → Option Value} {base : Heap}
theorem scLWG : FnScope ["_law_thing"] ["_law_thing"] (defScope s_law_whole) := ⟨rfl, rfl, rfl, by decide +kernel, rfl, by decide +kernel, by decide +kernel⟩
theorem ok_lawwholeg (a : At K mg "_law_whole" s_law_whole ["_law_thing"]) (z_isinstance : mg "isinstance" = none) (z_int : mg "int" = none) (z_bool : mg "bool" = none) : Df P w K mg base 1 "_law_whole" ["_law_thing"] (spWholeG K) := by
  refine a.df fun f fd F => ?_
  refine F.ok scLWG (fun vs H Q E h => ?_) (fun cdv A outer s H vs Q E hr h => ?_)
  · obtain ⟨_, rfl, _⟩ := h
    rfl
  · obtain ⟨x, rfl, hS, q⟩ := h
    refine ⟨_, (pss_one (ps_ret (pe_and (pe_callB call_isT (by rfl) z_isinstance bt_isinstance (pa_cons (pv 0) (pa_cons (pe_bltn (v := .ty "int") (by rfl) z_int bt_int rfl) pa_nil))) (pe_one (pe_not (pe_callB call_isT (by rfl) z_isinstance bt_isinstance (pa_cons (pv 0) (pa_cons (pe_bltn (v := .ty "bool") (by rfl) z_bool bt_bool rfl) pa_nil)))))))), ?_⟩
    rcases hS with hS | ⟨hw, t, ty, hk⟩
    · cases x with
      | non => exact ⟨_, rfl, _, "int", _, false, rfl, .non, rfl, _, rfl, iteF q⟩
      | str z => exact ⟨_, rfl, _, "int", _, false, rfl, .str _, rfl, _, rfl, iteF q⟩
      | int i => exact ⟨_, rfl, _, "int", _, true, rfl, .int _, rfl, _, rfl, iteT ⟨_, rfl, _, "bool", _, false, rfl, .int _, rfl, _, rfl, q⟩⟩
      | bl b => exact ⟨_, rfl, _, "int", _, true, rfl, .bl _, rfl, _, rfl, iteT ⟨_, rfl, _, "bool", _, true, rfl, .bl _, rfl, _, rfl, q⟩⟩
      | _ => exact hS.elim
    · rw [hw] at q
      exact ⟨_, rfl, _, "int", _, false, rfl, ty, hk, _, rfl, iteF q⟩
end
end Mr
namespace Mr
open PySem L2
section
variable {P : Program} {w : World} {K : PySem.W.Frag} {mg : Str → Option Value} {base : Heap}
theorem scSG : FnScope ["thing", "number"] ["thing", "number"] (defScope s_is_same_number) := ⟨rfl, rfl, rfl, by decide +kernel, rfl, by decide +kernel, by decide +kernel⟩
theorem ok_sameg (a : At K mg "is_same_number" s_is_same_number ["thing", "number"]) (d_is_whole : Df P w K mg base 1 "is_whole" ["thing"] (spWholeG K)) : Df P w K mg base 2 "is_same_number" ["thing", "number"] (spSameG K) := by
  refine a.df fun f fd F => ?_
  refine F.ok scSG (fun vs H Q E h => ?_) (fun cdv A outer s H vs Q E hr h => ?_)
  · obtain ⟨_, _, rfl, _⟩ := h
    rfl
  · obtain ⟨x, n, rfl, hS, q⟩ := h
    refine ⟨_, (pss_one (ps_ret (pe_and (pe_df d_is_whole hr rfl (pa_cons (pv 0) pa_nil)) (pe_one (pe_cmpR op_eq (pv 0) (pv 1) (nomark _)))))), ?_⟩
    refine ⟨_, rfl, x, rfl, hS, _, rfl, ?_⟩
    cases x with
    | int i => exact iteT ⟨_, rfl, _, rfl, rfl, q⟩
    | _ => refine iteF ?_; rw [decide_eq_false (by intro z; cases z)] at q; exact q
end
end Mr
namespace Mr
open PySem L2
section
variable {P : Program} {w : World} {K : PySem.W.Frag} {mg : Str → Option Value} {base : Heap}
theorem scO16 : FnScope ["_law_box_here", "_law_some"] ["_law_box_here"] (defScope sOdd) := ⟨rfl, rfl, rfl, by decide +kernel, rfl, by decide +kernel, by decide +kernel⟩
set_option maxHeartbeats 8000000 in
theorem ok_odd16 (a : At K mg "_law_odd" sOdd ["_law_box_here"]) (d_law_take : Df P w K mg base 1 "_law_take" ["_law_box_here", "_law_many"] spTakeI) : Df P w K mg base 2 "_law_odd" ["_law_box_here"] (spOdd16 K) := by
  refine a.df fun f fd F => ?_
  refine F.ok scO16 (fun vs H Q E h => ?_) (fun cdv A outer s H vs Q E hr h => ?_)
  · obtain ⟨_, _, rfl, _⟩ := h
    rfl
  · obtain ⟨b, n, rfl, hb, q⟩ := h
    refine ⟨_, (@pss_cons _ _ _ _ _ (@ps_set _ _ 1 _ _ _ _ scO16.nd rfl (Or.inl rfl) (@pe_lst _ _ _ _ (@pa_non _ _ _ _ _  (@pa_bl _ _ _ _ _ _  (@pa_bl _ _ _ _ _ _  (@pa_un _ _ _ _ _ _ _  (pe_un un_neg pe_int) (@pa_int _ _ _ _ _ _  (@pa_str _ _ _ _ _ _  (@pa_str _ _ _ _ _ _  (@pa_tup _ _ _ _ _ _ _  (@pe_tup _ _ _ _ _ (@pa_int _ _ _ _ _ _  pa_nil)) (@pa_lst _ _ _ _ _ _  (@pe_lst _ _ _ _ (@pa_int _ _ _ _ _ _  pa_nil)) (@pa_dic _ _ _ _ _ _ _ (pe_disp (pps_cons pe_str pe_int pps_nil) rfl rfl (by simp) (by decide)) (@pa_tup _ _ _ _ _ _ _  (@pe_tup _ _ _ _ _ pa_nil) (@pa_op _ _ _ _ _ _ _ _  (@pe_op _ _ _ _ _ _ _ _ op_pow pe_int pe_int) (@pa_lst _ _ _ _ _ _  (@pe_lst _ _ _ _ (@pa_str _ _ _ _ _ _  pa_nil)) (@pa_tup _ _ _ _ _ _ _  (@pe_tup _ _ _ _ _ (@pa_tup _ _ _ _ _ _ _  (@pe_tup _ _ _ _ _ (@pa_int _ _ _ _ _ _  (@pa_int _ _ _ _ _ _  pa_nil))) pa_nil)) (@pa_lst _ _ _ _ _ _  (@pe_lst _ _ _ _ (@pa_tup _ _ _ _ _ _ _  (@pe_tup _ _ _ _ _ (@pa_int _ _ _ _ _ _  (@pa_int _ _ _ _ _ _  pa_nil))) pa_nil)) (@pa_str _ _ _ _ _ _  pa_nil))))))))))))))))) rfl (Or.inl rfl))
      (@pss_one _ _ _ (@ps_ret _ _ _ _ (@pe_ix _ _ _ _ _ _ _ ix_list (pv 1) (pe_df d_law_take hr rfl (pa_cons (pv 0) (pa_cons pe_int pa_nil))) (fun _ _ => rfl))))), ?_⟩
    refine ⟨_, rfl, (by show 1 ≤ sizeLine; decide), fun Gp1 Gh1 => ?_⟩
    have Gs1 := Same.upd (o := .tup [V.int 1]) Gh1
    have Gf1 : upd H Gp1 (.tup [V.int 1]) Gp1 = some (.tup [V.int 1]) := upd_same
    have Gt1 : Same H (upd H Gp1 (.tup [V.int 1])) := Gs1
    generalize upd H Gp1 (.tup [V.int 1]) = G1 at Gs1 Gf1 Gt1
    refine ⟨(by show 1 ≤ sizeLine; decide), fun Gp2 Gh2 => ?_⟩
    have Gs2 := Same.upd (o := .lst [V.int 1]) Gh2
    have Gf2 : upd G1 Gp2 (.lst [V.int 1]) Gp2 = some (.lst [V.int 1]) := upd_same
    have Gt2 : Same H (upd G1 Gp2 (.lst [V.int 1])) := Gt1.trans Gs2
    generalize upd G1 Gp2 (.lst [V.int 1]) = G2 at Gs2 Gf2 Gt2
    refine fun Gp3 Gh3 => ⟨upd_same, [(Sum.inr ("a" : Str), V.int 1)], rfl, by decide, ?_⟩
    rw [upd_upd]
    have Gs3 := Same.upd (o := .dK (mergeK [] [(Sum.inr ("a" : Str), V.int 1)])) Gh3
    have Gf3 : upd G2 Gp3 (.dK (mergeK [] [(Sum.inr ("a" : Str), V.int 1)])) Gp3 = some (.dK (mergeK [] [(Sum.inr ("a" : Str), V.int 1)])) := upd_same
    have Gt3 : Same H (upd G2 Gp3 (.dK (mergeK [] [(Sum.inr ("a" : Str), V.int 1)]))) := Gt2.trans Gs3
    generalize upd G2 Gp3 (.dK (mergeK [] [(Sum.inr ("a" : Str), V.int 1)])) = G3 at Gs3 Gf3 Gt3
    refine ⟨(by show 0 ≤ sizeLine; decide), fun Gp4 Gh4 => ?_⟩
    have Gs4 := Same.upd (o := .tup []) Gh4
    have Gf4 : upd G3 Gp4 (.tup []) Gp4 = some (.tup []) := upd_same
    have Gt4 : Same H (upd G3 Gp4 (.tup [])) := Gt3.trans Gs4
    generalize upd G3 Gp4 (.tup []) = G4 at Gs4 Gf4 Gt4
    refine ⟨_, _, rfl, rfl, ⟨by decide, by decide, by decide⟩, (by show 1 ≤ sizeLine; decide), fun Gp5 Gh5 => ?_⟩
    have Gs5 := Same.upd (o := .lst [V.str ("a" : Str)]) Gh5
    have Gf5 : upd G4 Gp5 (.lst [V.str ("a" : Str)]) Gp5 = some (.lst [V.str ("a" : Str)]) := upd_same
    have Gt5 : Same H (upd G4 Gp5 (.lst [V.str ("a" : Str)])) := Gt4.trans Gs5
    generalize upd G4 Gp5 (.lst [V.str ("a" : Str)]) = G5 at Gs5 Gf5 Gt5
    refine ⟨(by show 2 ≤ sizeLine; decide), fun Gp6 Gh6 => ?_⟩
    have Gs6 := Same.upd (o := .tup [V.int 0, V.int 1]) Gh6
    have Gf6 : upd G5 Gp6 (.tup [V.int 0, V.int 1]) Gp6 = some (.tup [V.int 0, V.int 1]) := upd_same
    have Gt6 : Same H (upd G5 Gp6 (.tup [V.int 0, V.int 1])) := Gt5.trans Gs6
    generalize upd G5 Gp6 (.tup [V.int 0, V.int 1]) = G6 at Gs6 Gf6 Gt6
    refine ⟨(by show 1 ≤ sizeLine; decide), fun Gp7 Gh7 => ?_⟩
    have Gs7 := Same.upd (o := .tup [V.ref Gp6]) Gh7
    have Gf7 : upd G6 Gp7 (.tup [V.ref Gp6]) Gp7 = some (.tup [V.ref Gp6]) := upd_same
    have Gt7 : Same H (upd G6 Gp7 (.tup [V.ref Gp6])) := Gt6.trans Gs7
    generalize upd G6 Gp7 (.tup [V.ref Gp6]) = G7 at Gs7 Gf7 Gt7
    refine ⟨(by show 2 ≤ sizeLine; decide), fun Gp8 Gh8 => ?_⟩
    have Gs8 := Same.upd (o := .tup [V.int 0, V.int 1]) Gh8
    have Gf8 : upd G7 Gp8 (.tup [V.int 0, V.int 1]) Gp8 = some (.tup [V.int 0, V.int 1]) := upd_same
    have Gt8 : Same H (upd G7 Gp8 (.tup [V.int 0, V.int 1])) := Gt7.trans Gs8
    generalize upd G7 Gp8 (.tup [V.int 0, V.int 1]) = G8 at Gs8 Gf8 Gt8
    refine ⟨(by show 1 ≤ sizeLine; decide), fun Gp9 Gh9 => ?_⟩
    have Gs9 := Same.upd (o := .lst [V.ref Gp8]) Gh9
    have Gf9 : upd G8 Gp9 (.lst [V.ref Gp8]) Gp9 = some (.lst [V.ref Gp8]) := upd_same
    have Gt9 : Same H (upd G8 Gp9 (.lst [V.ref Gp8])) := Gt8.trans Gs9
    generalize upd G8 Gp9 (.lst [V.ref Gp8]) = G9 at Gs9 Gf9 Gt9
    refine ⟨(by show 16 ≤ sizeLine; decide), fun Gp10 Gh10 => ?_⟩
    rw [show upd G9 Gp10 (.lst [V.non, V.bl true, V.bl false, (fun i : Int => V.int (-i)) 1, V.int 1, V.str ("aB" : Str), V.str ("" : Str), V.ref Gp1, V.ref Gp2, V.ref Gp3, V.ref Gp4, (fun i j : Int => V.int (i ^ j.toNat)) 10 39, V.ref Gp5, V.ref Gp7, V.ref Gp9, V.str ("a b" : Str)]) = upd G9 Gp10 (.lst [V.non, V.bl true, V.bl false, V.int (-1), V.int 1, V.str ("aB" : Str), V.str ("" : Str), V.ref Gp1, V.ref Gp2, V.ref Gp3, V.ref Gp4, V.int (10 ^ 39), V.ref Gp5, V.ref Gp7, V.ref Gp9, V.str ("a b" : Str)]) from rfl]
    have Gs10 := Same.upd (o := .lst [V.non, V.bl true, V.bl false, V.int (-1), V.int 1, V.str ("aB" : Str), V.str ("" : Str), V.ref Gp1, V.ref Gp2, V.ref Gp3, V.ref Gp4, V.int (10 ^ 39), V.ref Gp5, V.ref Gp7, V.ref Gp9, V.str ("a b" : Str)]) Gh10
    have Gf10 : upd G9 Gp10 (.lst [V.non, V.bl true, V.bl false, V.int (-1), V.int 1, V.str ("aB" : Str), V.str ("" : Str), V.ref Gp1, V.ref Gp2, V.ref Gp3, V.ref Gp4, V.int (10 ^ 39), V.ref Gp5, V.ref Gp7, V.ref Gp9, V.str ("a b" : Str)]) Gp10 = some (.lst [V.non, V.bl true, V.bl false, V.int (-1), V.int 1, V.str ("aB" : Str), V.str ("" : Str), V.ref Gp1, V.ref Gp2, V.ref Gp3, V.ref Gp4, V.int (10 ^ 39), V.ref Gp5, V.ref Gp7, V.ref Gp9, V.str ("a b" : Str)]) := upd_same
    have Gt10 : Same H (upd G9 Gp10 (.lst [V.non, V.bl true, V.bl false, V.int (-1), V.int 1, V.str ("aB" : Str), V.str ("" : Str), V.ref Gp1, V.ref Gp2, V.ref Gp3, V.ref Gp4, V.int (10 ^ 39), V.ref Gp5, V.ref Gp7, V.ref Gp9, V.str ("a b" : Str)])) := Gt9.trans Gs10
    generalize upd G9 Gp10 (.lst [V.non, V.bl true, V.bl false, V.int (-1), V.int 1, V.str ("aB" : Str), V.str ("" : Str), V.ref Gp1, V.ref Gp2, V.ref Gp3, V.ref Gp4, V.int (10 ^ 39), V.ref Gp5, V.ref Gp7, V.ref Gp9, V.str ("a b" : Str)]) = G10 at Gs10 Gf10 Gt10
    refine ⟨_, rfl, _, rfl, b, n, 16, rfl, Gt10 _ _ hb, by decide, by decide, fun d n' H' hd hd' hb' kk => ?_⟩
    obtain ⟨v, hv, hm⟩ := at_ofInt (xs := [V.non, V.bl true, V.bl false, V.int (-1), V.int 1, V.str ("aB" : Str), V.str ("" : Str), V.ref Gp1, V.ref Gp2, V.ref Gp3, V.ref Gp4, V.int (10 ^ 39), V.ref Gp5, V.ref Gp7, V.ref Gp9, V.str ("a b" : Str)]) hd (by show d < 16; exact hd')
    have bb := (But.of Gt10).trans kk
    refine ⟨Gp10, _, _, v, rfl, rfl, SqL.of (kk _ _ Gf10 ((ne_of_none (Gt9 _ _ hb) Gh10).symm)), hv, ?_⟩
    simp only [List.mem_cons, List.not_mem_nil, or_false] at hm
    rcases hm with hm | hm | hm | hm | hm | hm | hm | hm | hm | hm | hm | hm | hm | hm | hm | hm
    all_goals subst hm
    · exact q _ n' H' ⟨.inl trivial, gd_non.mono (by decide) (by first | decide | (simp only [List.length_cons, List.length_nil]; omega))⟩ ⟨gd_non.mono (by decide) (by first | decide | (simp only [List.length_cons, List.length_nil]; omega)), .inr ⟨_, .non, rfl⟩⟩ hb' bb
    · exact q _ n' H' ⟨.inl trivial, (gd_bl _).mono (by decide) (by first | decide | (simp only [List.length_cons, List.length_nil]; omega))⟩ ⟨(gd_bl _).mono (by decide) (by first | decide | (simp only [List.length_cons, List.length_nil]; omega)), .inr ⟨_, .bl _, rfl⟩⟩ hb' bb
    · exact q _ n' H' ⟨.inl trivial, (gd_bl _).mono (by decide) (by first | decide | (simp only [List.length_cons, List.length_nil]; omega))⟩ ⟨(gd_bl _).mono (by decide) (by first | decide | (simp only [List.length_cons, List.length_nil]; omega)), .inr ⟨_, .bl _, rfl⟩⟩ hb' bb
    · exact q _ n' H' ⟨.inl trivial, (gd_int (by decide)).mono (by decide) (by first | decide | (simp only [List.length_cons, List.length_nil]; omega))⟩ ⟨(gd_int (by decide)).mono (by decide) (by first | decide | (simp only [List.length_cons, List.length_nil]; omega)), .inr ⟨_, .int _, rfl⟩⟩ hb' bb
    · exact q _ n' H' ⟨.inl trivial, (gd_int (by decide)).mono (by decide) (by first | decide | (simp only [List.length_cons, List.length_nil]; omega))⟩ ⟨(gd_int (by decide)).mono (by decide) (by first | decide | (simp only [List.length_cons, List.length_nil]; omega)), .inr ⟨_, .int _, rfl⟩⟩ hb' bb
    · exact q _ n' H' ⟨.inl trivial, (gd_str _ (by decide +kernel) (by decide +kernel)).mono (by decide) (by first | decide | (simp only [List.length_cons, List.length_nil]; omega))⟩ ⟨(gd_str _ (by decide +kernel) (by decide +kernel)).mono (by decide) (by first | decide | (simp only [List.length_cons, List.length_nil]; omega)), .inr ⟨_, .str _, rfl⟩⟩ hb' bb
    · exact q _ n' H' ⟨.inl trivial, (gd_str _ (by decide +kernel) (by decide +kernel)).mono (by decide) (by first | decide | (simp only [List.length_cons, List.length_nil]; omega))⟩ ⟨(gd_str _ (by decide +kernel) (by decide +kernel)).mono (by decide) (by first | decide | (simp only [List.length_cons, List.length_nil]; omega)), .inr ⟨_, .str _, rfl⟩⟩ hb' bb
    · exact q _ n' H' ⟨.inr ⟨rfl, _, .tup (off_at (kk _ _ (Gs10 _ _ (Gs9 _ _ (Gs8 _ _ (Gs7 _ _ (Gs6 _ _ (Gs5 _ _ (Gs4 _ _ (Gs3 _ _ (Gs2 _ _ Gf1))))))))) ((ne_of_none (hb) Gh1).symm)) ((ne_of_none (hb) Gh1).symm)), rfl⟩, (gd_tup (n := 0) (w := 150) (off_at (kk _ _ (Gs10 _ _ (Gs9 _ _ (Gs8 _ _ (Gs7 _ _ (Gs6 _ _ (Gs5 _ _ (Gs4 _ _ (Gs3 _ _ (Gs2 _ _ Gf1))))))))) ((ne_of_none (hb) Gh1).symm)) ((ne_of_none (hb) Gh1).symm)) (by intro y hy; simp only [List.mem_cons, List.not_mem_nil, or_false] at hy; rcases hy with rfl <;> first | exact (gd_int (by decide)).mono (by decide) (by first | decide | (simp only [List.length_cons, List.length_nil]; omega)))).mono (by decide) (by first | decide | (simp only [List.length_cons, List.length_nil]; omega))⟩ ⟨(gd_tup (n := 0) (w := 150) (off_at (kk _ _ (Gs10 _ _ (Gs9 _ _ (Gs8 _ _ (Gs7 _ _ (Gs6 _ _ (Gs5 _ _ (Gs4 _ _ (Gs3 _ _ (Gs2 _ _ Gf1))))))))) ((ne_of_none (hb) Gh1).symm)) ((ne_of_none (hb) Gh1).symm)) (by intro y hy; simp only [List.mem_cons, List.not_mem_nil, or_false] at hy; rcases hy with rfl <;> first | exact (gd_int (by decide)).mono (by decide) (by first | decide | (simp only [List.length_cons, List.length_nil]; omega)))).mono (by decide) (by first | decide | (simp only [List.length_cons, List.length_nil]; omega)), .inr ⟨_, .tup (off_at (kk _ _ (Gs10 _ _ (Gs9 _ _ (Gs8 _ _ (Gs7 _ _ (Gs6 _ _ (Gs5 _ _ (Gs4 _ _ (Gs3 _ _ (Gs2 _ _ Gf1))))))))) ((ne_of_none (hb) Gh1).symm)) ((ne_of_none (hb) Gh1).symm)), rfl⟩⟩ hb' bb
    · exact q _ n' H' ⟨.inr ⟨rfl, _, .lst (off_at (kk _ _ (Gs10 _ _ (Gs9 _ _ (Gs8 _ _ (Gs7 _ _ (Gs6 _ _ (Gs5 _ _ (Gs4 _ _ (Gs3 _ _ Gf2)))))))) ((ne_of_none (Gt1 _ _ hb) Gh2).symm)) ((ne_of_none (Gt1 _ _ hb) Gh2).symm)), rfl⟩, (gd_lst (n := 0) (w := 150) (off_at (kk _ _ (Gs10 _ _ (Gs9 _ _ (Gs8 _ _ (Gs7 _ _ (Gs6 _ _ (Gs5 _ _ (Gs4 _ _ (Gs3 _ _ Gf2)))))))) ((ne_of_none (Gt1 _ _ hb) Gh2).symm)) ((ne_of_none (Gt1 _ _ hb) Gh2).symm)) (by intro y hy; simp only [List.mem_cons, List.not_mem_nil, or_false] at hy; rcases hy with rfl <;> first | exact (gd_int (by decide)).mono (by decide) (by first | decide | (simp only [List.length_cons, List.length_nil]; omega)))).mono (by decide) (by first | decide | (simp only [List.length_cons, List.length_nil]; omega))⟩ (th_lst (off_at (kk _ _ (Gs10 _ _ (Gs9 _ _ (Gs8 _ _ (Gs7 _ _ (Gs6 _ _ (Gs5 _ _ (Gs4 _ _ (Gs3 _ _ Gf2)))))))) ((ne_of_none (Gt1 _ _ hb) Gh2).symm)) ((ne_of_none (Gt1 _ _ hb) Gh2).symm)) (by first | decide | (simp only [List.length_cons, List.length_nil]; omega)) (by intro y hy; simp only [List.mem_cons, List.not_mem_nil, or_false] at hy; rcases hy with rfl <;> first | exact ⟨.inl trivial, (gd_int (by decide)).mono (by decide) (by first | decide | (simp only [List.length_cons, List.length_nil]; omega))⟩)) hb' bb
    · exact q _ n' H' ⟨.inr ⟨rfl, _, .dK (off_at (kk _ _ (Gs10 _ _ (Gs9 _ _ (Gs8 _ _ (Gs7 _ _ (Gs6 _ _ (Gs5 _ _ (Gs4 _ _ Gf3))))))) ((ne_of_none (Gt2 _ _ hb) Gh3).symm)) ((ne_of_none (Gt2 _ _ hb) Gh3).symm)), rfl⟩, (gd_dic (by have := (off_at (kk _ _ (Gs10 _ _ (Gs9 _ _ (Gs8 _ _ (Gs7 _ _ (Gs6 _ _ (Gs5 _ _ (Gs4 _ _ Gf3))))))) ((ne_of_none (Gt2 _ _ hb) Gh3).symm)) ((ne_of_none (Gt2 _ _ hb) Gh3).symm)); rw [e_a] at this; exact this)).mono (by decide) (by first | decide | (simp only [List.length_cons, List.length_nil]; omega))⟩ ⟨(gd_dic (by have := (off_at (kk _ _ (Gs10 _ _ (Gs9 _ _ (Gs8 _ _ (Gs7 _ _ (Gs6 _ _ (Gs5 _ _ (Gs4 _ _ Gf3))))))) ((ne_of_none (Gt2 _ _ hb) Gh3).symm)) ((ne_of_none (Gt2 _ _ hb) Gh3).symm)); rw [e_a] at this; exact this)).mono (by decide) (by first | decide | (simp only [List.length_cons, List.length_nil]; omega)), .inr ⟨_, .dK (off_at (kk _ _ (Gs10 _ _ (Gs9 _ _ (Gs8 _ _ (Gs7 _ _ (Gs6 _ _ (Gs5 _ _ (Gs4 _ _ Gf3))))))) ((ne_of_none (Gt2 _ _ hb) Gh3).symm)) ((ne_of_none (Gt2 _ _ hb) Gh3).symm)), rfl⟩⟩ hb' bb
    · exact q _ n' H' ⟨.inr ⟨rfl, _, .tup (off_at (kk _ _ (Gs10 _ _ (Gs9 _ _ (Gs8 _ _ (Gs7 _ _ (Gs6 _ _ (Gs5 _ _ Gf4)))))) ((ne_of_none (Gt3 _ _ hb) Gh4).symm)) ((ne_of_none (Gt3 _ _ hb) Gh4).symm)), rfl⟩, (gd_tup (n := 0) (w := 1) (off_at (kk _ _ (Gs10 _ _ (Gs9 _ _ (Gs8 _ _ (Gs7 _ _ (Gs6 _ _ (Gs5 _ _ Gf4)))))) ((ne_of_none (Gt3 _ _ hb) Gh4).symm)) ((ne_of_none (Gt3 _ _ hb) Gh4).symm)) (by intro y hy; cases hy)).mono (by decide) (by first | decide | (simp only [List.length_cons, List.length_nil]; omega))⟩ ⟨(gd_tup (n := 0) (w := 1) (off_at (kk _ _ (Gs10 _ _ (Gs9 _ _ (Gs8 _ _ (Gs7 _ _ (Gs6 _ _ (Gs5 _ _ Gf4)))))) ((ne_of_none (Gt3 _ _ hb) Gh4).symm)) ((ne_of_none (Gt3 _ _ hb) Gh4).symm)) (by intro y hy; cases hy)).mono (by decide) (by first | decide | (simp only [List.length_cons, List.length_nil]; omega)), .inr ⟨_, .tup (off_at (kk _ _ (Gs10 _ _ (Gs9 _ _ (Gs8 _ _ (Gs7 _ _ (Gs6 _ _ (Gs5 _ _ Gf4)))))) ((ne_of_none (Gt3 _ _ hb) Gh4).symm)) ((ne_of_none (Gt3 _ _ hb) Gh4).symm)), rfl⟩⟩ hb' bb
    · exact q _ n' H' ⟨.inl trivial, (gd_int (by decide)).mono (by decide) (by first | decide | (simp only [List.length_cons, List.length_nil]; omega))⟩ ⟨(gd_int (by decide)).mono (by decide) (by first | decide | (simp only [List.length_cons, List.length_nil]; omega)), .inr ⟨_, .int _, rfl⟩⟩ hb' bb
    · exact q _ n' H' ⟨.inr ⟨rfl, _, .lst (off_at (kk _ _ (Gs10 _ _ (Gs9 _ _ (Gs8 _ _ (Gs7 _ _ (Gs6 _ _ Gf5))))) ((ne_of_none (Gt4 _ _ hb) Gh5).symm)) ((ne_of_none (Gt4 _ _ hb) Gh5).symm)), rfl⟩, (gd_lst (n := 0) (w := 300) (off_at (kk _ _ (Gs10 _ _ (Gs9 _ _ (Gs8 _ _ (Gs7 _ _ (Gs6 _ _ Gf5))))) ((ne_of_none (Gt4 _ _ hb) Gh5).symm)) ((ne_of_none (Gt4 _ _ hb) Gh5).symm)) (by intro y hy; simp only [List.mem_cons, List.not_mem_nil, or_false] at hy; rcases hy with rfl <;> first | exact (gd_str _ (by decide +kernel) (by decide +kernel)).mono (by decide) (by first | decide | (simp only [List.length_cons, List.length_nil]; omega)))).mono (by decide) (by first | decide | (simp only [List.length_cons, List.length_nil]; omega))⟩ (th_lst (off_at (kk _ _ (Gs10 _ _ (Gs9 _ _ (Gs8 _ _ (Gs7 _ _ (Gs6 _ _ Gf5))))) ((ne_of_none (Gt4 _ _ hb) Gh5).symm)) ((ne_of_none (Gt4 _ _ hb) Gh5).symm)) (by first | decide | (simp only [List.length_cons, List.length_nil]; omega)) (by intro y hy; simp only [List.mem_cons, List.not_mem_nil, or_false] at hy; rcases hy with rfl <;> first | exact ⟨.inl trivial, (gd_str _ (by decide +kernel) (by decide +kernel)).mono (by decide) (by first | decide | (simp only [List.length_cons, List.length_nil]; omega))⟩)) hb' bb
    · exact q _ n' H' ⟨.inr ⟨rfl, _, .tup (off_at (kk _ _ (Gs10 _ _ (Gs9 _ _ (Gs8 _ _ Gf7))) ((ne_of_none (Gt6 _ _ hb) Gh7).symm)) ((ne_of_none (Gt6 _ _ hb) Gh7).symm)), rfl⟩, (gd_tup (n := 1) (w := 302) (off_at (kk _ _ (Gs10 _ _ (Gs9 _ _ (Gs8 _ _ Gf7))) ((ne_of_none (Gt6 _ _ hb) Gh7).symm)) ((ne_of_none (Gt6 _ _ hb) Gh7).symm)) (by intro y hy; simp only [List.mem_cons, List.not_mem_nil, or_false] at hy; rcases hy with rfl <;> first | exact (gd_tup (n := 0) (w := 150) (off_at (kk _ _ (Gs10 _ _ (Gs9 _ _ (Gs8 _ _ (Gs7 _ _ Gf6)))) ((ne_of_none (Gt5 _ _ hb) Gh6).symm)) ((ne_of_none (Gt5 _ _ hb) Gh6).symm)) (by intro y hy; simp only [List.mem_cons, List.not_mem_nil, or_false] at hy; rcases hy with rfl | rfl <;> first | exact (gd_int (by decide)).mono (by decide) (by first | decide | (simp only [List.length_cons, List.length_nil]; omega)) | exact (gd_int (by decide)).mono (by decide) (by first | decide | (simp only [List.length_cons, List.length_nil]; omega)))).mono (by decide) (by first | decide | (simp only [List.length_cons, List.length_nil]; omega)))).mono (by decide) (by first | decide | (simp only [List.length_cons, List.length_nil]; omega))⟩ ⟨(gd_tup (n := 1) (w := 302) (off_at (kk _ _ (Gs10 _ _ (Gs9 _ _ (Gs8 _ _ Gf7))) ((ne_of_none (Gt6 _ _ hb) Gh7).symm)) ((ne_of_none (Gt6 _ _ hb) Gh7).symm)) (by intro y hy; simp only [List.mem_cons, List.not_mem_nil, or_false] at hy; rcases hy with rfl <;> first | exact (gd_tup (n := 0) (w := 150) (off_at (kk _ _ (Gs10 _ _ (Gs9 _ _ (Gs8 _ _ (Gs7 _ _ Gf6)))) ((ne_of_none (Gt5 _ _ hb) Gh6).symm)) ((ne_of_none (Gt5 _ _ hb) Gh6).symm)) (by intro y hy; simp only [List.mem_cons, List.not_mem_nil, or_false] at hy; rcases hy with rfl | rfl <;> first | exact (gd_int (by decide)).mono (by decide) (by first | decide | (simp only [List.length_cons, List.length_nil]; omega)) | exact (gd_int (by decide)).mono (by decide) (by first | decide | (simp only [List.length_cons, List.length_nil]; omega)))).mono (by decide) (by first | decide | (simp only [List.length_cons, List.length_nil]; omega)))).mono (by decide) (by first | decide | (simp only [List.length_cons, List.length_nil]; omega)), .inr ⟨_, .tup (off_at (kk _ _ (Gs10 _ _ (Gs9 _ _ (Gs8 _ _ Gf7))) ((ne_of_none (Gt6 _ _ hb) Gh7).symm)) ((ne_of_none (Gt6 _ _ hb) Gh7).symm)), rfl⟩⟩ hb' bb
    · exact q _ n' H' ⟨.inr ⟨rfl, _, .lst (off_at (kk _ _ (Gs10 _ _ Gf9) ((ne_of_none (Gt8 _ _ hb) Gh9).symm)) ((ne_of_none (Gt8 _ _ hb) Gh9).symm)), rfl⟩, (gd_lst (n := 1) (w := 302) (off_at (kk _ _ (Gs10 _ _ Gf9) ((ne_of_none (Gt8 _ _ hb) Gh9).symm)) ((ne_of_none (Gt8 _ _ hb) Gh9).symm)) (by intro y hy; simp only [List.mem_cons, List.not_mem_nil, or_false] at hy; rcases hy with rfl <;> first | exact (gd_tup (n := 0) (w := 150) (off_at (kk _ _ (Gs10 _ _ (Gs9 _ _ Gf8)) ((ne_of_none (Gt7 _ _ hb) Gh8).symm)) ((ne_of_none (Gt7 _ _ hb) Gh8).symm)) (by intro y hy; simp only [List.mem_cons, List.not_mem_nil, or_false] at hy; rcases hy with rfl | rfl <;> first | exact (gd_int (by decide)).mono (by decide) (by first | decide | (simp only [List.length_cons, List.length_nil]; omega)) | exact (gd_int (by decide)).mono (by decide) (by first | decide | (simp only [List.length_cons, List.length_nil]; omega)))).mono (by decide) (by first | decide | (simp only [List.length_cons, List.length_nil]; omega)))).mono (by decide) (by first | decide | (simp only [List.length_cons, List.length_nil]; omega))⟩ (th_lst (off_at (kk _ _ (Gs10 _ _ Gf9) ((ne_of_none (Gt8 _ _ hb) Gh9).symm)) ((ne_of_none (Gt8 _ _ hb) Gh9).symm)) (by first | decide | (simp only [List.length_cons, List.length_nil]; omega)) (by intro y hy; simp only [List.mem_cons, List.not_mem_nil, or_false] at hy; rcases hy with rfl <;> first | exact ⟨.inr ⟨rfl, _, .tup (off_at (kk _ _ (Gs10 _ _ (Gs9 _ _ Gf8)) ((ne_of_none (Gt7 _ _ hb) Gh8).symm)) ((ne_of_none (Gt7 _ _ hb) Gh8).symm)), rfl⟩, (gd_tup (n := 0) (w := 150) (off_at (kk _ _ (Gs10 _ _ (Gs9 _ _ Gf8)) ((ne_of_none (Gt7 _ _ hb) Gh8).symm)) ((ne_of_none (Gt7 _ _ hb) Gh8).symm)) (by intro y hy; simp only [List.mem_cons, List.not_mem_nil, or_false] at hy; rcases hy with rfl | rfl <;> first | exact (gd_int (by decide)).mono (by decide) (by first | decide | (simp only [List.length_cons, List.length_nil]; omega)) | exact (gd_int (by decide)).mono (by decide) (by first | decide | (simp only [List.length_cons, List.length_nil]; omega)))).mono (by decide) (by first | decide | (simp only [List.length_cons, List.length_nil]; omega))⟩)) hb' bb
    · exact q _ n' H' ⟨.inl trivial, (gd_str _ (by decide +kernel) (by decide +kernel)).mono (by decide) (by first | decide | (simp only [List.length_cons, List.length_nil]; omega))⟩ ⟨(gd_str _ (by decide +kernel) (by decide +kernel)).mono (by decide) (by first | decide | (simp only [List.length_cons, List.length_nil]; omega)), .inr ⟨_, .str _, rfl⟩⟩ hb' bb
end
end Mr
namespace Mr
open PySem L2
section
variable {P : Program} {w : World} {K : PySem.W.Frag} {mg : Str → Option Value} {base : Heap}
theorem scSh : FnScope ["row"] ["row"] (defScope s_need_short) := ⟨rfl, rfl, rfl, by decide +kernel, rfl, by decide +kernel, by decide +kernel⟩
theorem ok_short (a : At K mg "need_short" s_need_short ["row"]) (d_need_row : Df P w K mg base 2 "need_row" ["thing"] spNeed) (z_len : mg "len" = none) {tMM : Tok} (hMM : mg "MOST_MENDED" = some (.int 60 tMM)) : Df P w K mg base 3 "need_short" ["row"] spShort := by
  refine a.df fun f fd F => ?_
  refine F.ok scSh (fun vs H Q E h => ?_) (fun cdv A outer s H vs Q E hr h => ?_)
  · obtain ⟨_, rfl, _⟩ := h
    rfl
  · obtain ⟨l, rfl, hrow, hlen, q⟩ := h
    refine ⟨_, (pss_cons (ps_expr (pe_df d_need_row hr rfl (pa_cons (pv 0) pa_nil)))
      (pss_one (ps_if (pt_cmpR op_gt (pe_callB call_len_str (by rfl) z_len bt_len (pa_cons (pv 0) pa_nil)) (pe_glob (v := .int 60) (by rfl) hMM ⟨_, rfl⟩) (nomark _)) (pss_one ps_never) pss_nil))), ?_⟩
    refine ⟨_, rfl, l, rfl, hrow, fun H1 s1 => ⟨_, rfl, tx l, rfl, (by rw [tx_len, sizeLine_eq]; omega), _, _, rfl, rfl, _, rfl, ?_⟩⟩
    rw [tx_len, decide_eq_false (show ¬ (60 : Int) < ((l.length : Nat) : Int) by omega)]
    exact iteF (q H1 s1)
end
end Mr
namespace Mr
open PySem L2
section
variable {P : Program} {w : World} {K : PySem.W.Frag} {mg : Str → Option Value} {base : Heap}
theorem scMF : FnScope ["row", "table", "first", "behind"] ["row", "table", "first", "behind"] (defScope s_more_for) := ⟨rfl, rfl, rfl, by decide +kernel, rfl, by decide +kernel, by decide +kernel⟩
set_option maxHeartbeats 4000000 in
theorem ok_more_for (a : At K mg "more_for" s_more_for ["row", "table", "first", "behind"]) (z_min : mg "min" = none) : Df P w K mg base 1 "more_for" ["row", "table", "first", "behind"] spMoreFor := by
  refine a.df fun f fd F => ?_
  refine F.ok scMF (fun vs H Q E h => ?_) (fun cdv A outer s H vs Q E hr h => ?_)
  · obtain ⟨_, _, _, _, _, _, rfl, _⟩ := h
    rfl
  · obtain ⟨l, pt, kvs, n, f0, j, rfl, hlen, hpt, hT, hn, hf, q⟩ := h
    have hz : l.length ≤ sizeLine := by rw [sizeLine_eq]; omega
    have dD : IsD H pt := .inr ⟨_, .inl hpt⟩
    have e1 : (((f0 + n : Nat) : Int) - 1) = ((f0 + n - 1 : Nat) : Int) := by omega
    have e2 : ((f0 : Int) + 1) = ((f0 + 1 : Nat) : Int) := by omega
    obtain ⟨x, hx⟩ : ∃ x, l[f0]? = some x := ⟨_, List.getElem?_eq_getElem (by omega)⟩
    obtain ⟨y, hy⟩ : ∃ y, l[f0 + n - 1]? = some y := ⟨_, List.getElem?_eq_getElem (by omega)⟩
    refine ⟨_, (pss_cons (ps_if (pt_cmpR op_eq (pe_ix ix_strS (pv 0) (pv 2) (fun _ _ => rfl)) (pe_ix ix_strS (pv 0) (pe_op op_sub (pv 3) pe_int) (fun _ _ => rfl)) (nomark _)) (pss_one (ps_ret (pe_dget2 hr.unitsD (pv 1) (pe_tup (pa_cons (pe_op op_add (pv 2) pe_int) (pa_cons (pe_op op_sub (pv 3) pe_int) pa_nil))) pe_int ⟨rfl, rfl, rfl, rfl⟩))) pss_nil)
      (pss_one (ps_ret (pe_op op_add (pe_callB (call_min2 rfl) (by rfl) z_min bt_min (pa_cons (pe_dget hr.unitsD (pv 1) (pe_tup (pa_cons (pe_op op_add (pv 2) pe_int) (pa_cons (pv 3) pa_nil))) (fun _ _ => rfl)) (pa_cons (pe_dget hr.unitsD (pv 1) (pe_tup (pa_cons (pv 2) (pa_cons (pe_op op_sub (pv 3) pe_int) pa_nil))) (fun _ _ => rfl)) pa_nil))) pe_int)))), ?_⟩
    refine ⟨_, rfl, _, rfl, l, _, x, rfl, rfl, hz, atI_nat hx, _, rfl, _, rfl, _, _, rfl, rfl, l, _, y, rfl, rfl, hz, (by rw [e1]; exact atI_nat hy), rfl, _, rfl, ?_⟩
    by_cases hxy : x = y
    · rw [decide_eq_true (show V.str (tx [x]) = V.str (tx [y]) by rw [hxy])]
      refine iteT ⟨_, rfl, pt, rfl, dD, _, rfl, _, _, rfl, rfl, _, rfl, _, _, rfl, rfl, (by show 2 ≤ sizeLine; decide), fun pk hpk => ⟨_, DGet.t (k := ky (f0 + 1) (f0 + n - 1)) ((Same.upd hpk) _ _ hpt) ?_, ?_⟩⟩
      · show upd H pk (.tup [V.int ((f0 : Int) + 1), V.int (((f0 + n : Nat) : Int) - 1)]) pk = _
        rw [upd_same, e1, e2]
        rfl
      · rw [hT.eqv hn hf (by rw [hx, hy, hxy])]
        exact q _ (Same.upd hpk)
    · rw [decide_eq_false (show ¬ V.str (tx [x]) = V.str (tx [y]) from fun z => hxy (by have := tx_inj (V.str.inj z); simpa using this))]
      have h2 : 2 ≤ n := by
        by_cases h1 : n = 1
        · subst h1
          rw [show f0 + 1 - 1 = f0 by omega, hx] at hy
          exact absurd (Option.some.inj hy) hxy
        · omega
      refine iteF ⟨_, rfl, _, rfl, _, _, rfl, rfl, _, rfl, (by show 2 ≤ sizeLine; decide), fun pk hpk => ⟨pt, _, rfl, dg_t (k := ky (f0 + 1) (f0 + n)) ((Same.upd hpk) _ _ hpt) ?_ (hT.in_ (by omega) (by omega) (by omega)), ?_⟩⟩
      · show upd H pk (.tup [V.int ((f0 : Int) + 1), V.int ((f0 + n : Nat) : Int)]) pk = _
        rw [upd_same, e2]
        rfl
      · have s1 := Same.upd (o := .tup [V.int ((f0 : Int) + 1), V.int ((f0 + n : Nat) : Int)]) hpk
        refine ⟨_, rfl, _, rfl, _, rfl, _, _, rfl, rfl, (by show 2 ≤ sizeLine; decide), fun pk2 hpk2 => ⟨pt, _, rfl, dg_t (k := ky f0 (f0 + n - 1)) ((Same.upd hpk2) _ _ (s1 _ _ hpt)) ?_ (hT.in_ (by omega) (by omega) (by omega)), ?_⟩⟩
        · show upd _ pk2 (.tup [V.int (f0 : Int), V.int (((f0 + n : Nat) : Int) - 1)]) pk2 = _
          rw [upd_same, e1]
          rfl
        · refine ⟨_, _, rfl, _, _, rfl, rfl, ?_⟩
          rw [show f0 + n - (f0 + 1) = n - 1 by omega, show f0 + n - 1 - f0 = n - 1 by omega, min_ii]
          show Q (V.int (((min (mendL l (n - 1) (f0 + 1)) (mendL l (n - 1) f0) : Nat) : Int) + 1)) _
          rw [show ((min (mendL l (n - 1) (f0 + 1)) (mendL l (n - 1) f0) : Nat) : Int) + 1 = ((mendL l n f0 : Nat) : Int) by rw [mend_ne h2 (by rw [hx, hy]; exact fun z => hxy (Option.some.inj z))]; omega]
          exact q _ (s1.trans (Same.upd hpk2))
end
end Mr
namespace Mr
open PySem L2
section
variable {P : Program} {w : World} {K : PySem.W.Frag} {mg : Str → Option Value} {base : Heap}
theorem scMX : FnScope ["row", "told", "length", "first"] ["row"] (defScope s_mend_table) := ⟨rfl, rfl, rfl, by decide +kernel, rfl, by decide +kernel, by decide +kernel⟩
set_option maxHeartbeats 4000000 in
theorem ok_mend_x (a : At K mg "mend_table" s_mend_table ["row"]) (d_need_short : Df P w K mg base 3 "need_short" ["row"] spShort) (d_more_for : Df P w K mg base 1 "more_for" ["row", "table", "first", "behind"] spMoreFor) (z_len : mg "len" = none) (z_range : mg "range" = none) : Df P w K mg base 4 "mend_table" ["row"] spMendX := by
  refine a.df fun f fd F => ?_
  refine F.ok scMX (fun vs H Q E h => ?_) (fun cdv A outer s H vs Q E hr h => ?_)
  · obtain ⟨_, rfl, _⟩ := h
    rfl
  · obtain ⟨l, rfl, hrow, hlen, q⟩ := h
    have hz : l.length ≤ sizeLine := by rw [sizeLine_eq]; omega
    refine ⟨_, (pss_cons (ps_expr (pe_df d_need_short hr rfl (pa_cons (pv 0) pa_nil)))
      (pss_cons (ps_set (i := 1) scMX.nd rfl (Or.inl rfl) pe_dnewT)
      (pss_cons (ps_for PassesOwn.never rfl (pi_range2 rfl z_range (pa_cons pe_int (pa_cons (pe_op op_add (pe_callB call_len_str (by rfl) z_len bt_len (pa_cons (pv 0) pa_nil)) pe_int) pa_nil))) (pg_name (i := 2) scMX.nd rfl (Or.inl rfl)) (pss_one (ps_for PassesOwn.never rfl (pi_range1 rfl z_range (pa_cons (pe_op op_add (pe_op op_sub (pe_callB call_len_str (by rfl) z_len bt_len (pa_cons (pv 0) pa_nil)) (pv 2)) pe_int) pa_nil)) (pg_name (i := 3) scMX.nd rfl (Or.inl rfl)) (pss_one (ps_dput hr.unitsD (pv 1) (pe_tup (pa_cons (pv 3) (pa_cons (pe_op op_add (pv 3) (pv 2)) pa_nil))) (pe_df d_more_for hr rfl (pa_cons (pv 0) (pa_cons (pv 1) (pa_cons (pv 3) (pa_cons (pe_op op_add (pv 3) (pv 2)) pa_nil))))) rfl)))))
      (pss_one (ps_ret (pv 1)))))), ?_⟩
    refine ⟨_, rfl, l, rfl, hrow, hlen, fun H1 s1 => fun pt hpt => ?_⟩
    have s2 := Same.upd (o := .dT []) hpt
    have f2 : upd H1 pt (.dT []) pt = some (.dT []) := upd_same
    have S2 : Same H (upd H1 pt (.dT [])) := s1.trans s2
    have hp0 : H pt = none := s1.free hpt
    generalize upd H1 pt (.dT []) = H2 at s2 f2 S2
    clear s2
    refine ⟨_, rfl, tx l, rfl, (by rw [tx_len]; exact hz), _, _, rfl, rfl, _, _, rfl, ⟨by decide, by decide, (by rw [tx_len]; omega), (by rw [tx_len]; omega)⟩, ?_⟩
    rw [tx_len, show ((l.length : Int) + 1 - 1).toNat = l.length by omega]
    refine for_range (lo := 1) (n := l.length) (fun i σ H' => ∃ (w2 w3 : Option V) (kvs : List (List Key × V)), σ = [some (.str (tx l)), some (.ref pt), w2, w3] ∧ H' pt = some (.dT kvs) ∧ Tab l (i + 1) 0 kvs ∧ NK kvs ∧ kvs.length ≤ 60 * i ∧ Same H H') ⟨_, _, [], rfl, f2, Tab.nil, NK.nil, by simp, S2⟩ ?_ ?_
    · rintro i σ H3 hi ⟨w2, w3, kvs, rfl, h3, t3, k3, l3, s3⟩
      refine ⟨_, rfl, tx l, rfl, (by rw [tx_len]; exact hz), _, rfl, _, _, rfl, rfl, _, _, rfl, rfl, _, rfl, (by rw [tx_len]; omega), (by rw [tx_len]; omega), ?_⟩
      rw [tx_len, show ((l.length : Int) - (1 + (i : Int)) + 1).toNat = l.length - i by omega]
      refine for_range (lo := 0) (n := l.length - i) (fun j σ H' => ∃ (w3 : Option V) (kvs : List (List Key × V)), σ = [some (.str (tx l)), some (.ref pt), some (.int (1 + (i : Int))), w3] ∧ H' pt = some (.dT kvs) ∧ Tab l (i + 1) j kvs ∧ NK kvs ∧ kvs.length ≤ 60 * i + j ∧ Same H H') ⟨_, kvs, rfl, h3, t3, k3, by omega, s3⟩ ?_ ?_
      · rintro j σ H4 hj ⟨w3', kvs4, rfl, h4, t4, k4, l4, s4⟩
        have e1 : (0 + (j : Int)) + (1 + (i : Int)) = ((j + (i + 1) : Nat) : Int) := by omega
        refine ⟨_, rfl, _, rfl, _, rfl, _, rfl, _, rfl, _, _, rfl, rfl, l, pt, kvs4, i + 1, j, j, ?_, by omega, h4, t4, by omega, by omega, fun H5 s5 => ?_⟩
        · show [V.str (tx l), V.ref pt, V.int (0 + (j : Int)), V.int ((0 + (j : Int)) + (1 + (i : Int)))] = _
          rw [e1, Int.zero_add]
        have h5 := s5 _ _ h4
        refine ⟨_, rfl, _, rfl, _, rfl, _, rfl, _, _, rfl, rfl, (by show 2 ≤ sizeLine; decide), fun pk hpk => ⟨pt, _, rfl, DPut.t (k := ky j (j + (i + 1))) ((Same.upd hpk) _ _ h5) ?_ (by rw [sizeLine_eq]; omega), ?_⟩⟩
        · show upd H5 pk (.tup [V.int (0 + (j : Int)), V.int ((0 + (j : Int)) + (1 + (i : Int)))]) pk = _
          rw [upd_same, e1, Int.zero_add]
          rfl
        · refine ⟨_, _, rfl, upd_same, t4.put (by omega) (by omega), k4.put _ _ _, (by have := length_putK kvs4 (ky j (j + (i + 1))) (.int (mendL l (i + 1) j : Nat)); omega), fun c o e => ?_⟩
          have nc : c ≠ pt := ne_of_none e hp0
          rw [upd_ne nc]
          exact (Same.upd hpk) _ _ (s5 _ _ (s4 _ _ e))
      · rintro σ H4 ⟨w3', kvs4, rfl, h4, t4, k4, l4, s4⟩
        refine ⟨_, _, kvs4, rfl, h4, ?_, k4, by omega, s4⟩
        rw [show l.length - i = l.length + 1 - (i + 1) by omega] at t4
        exact t4.next (by omega)
    · rintro σ H3 ⟨w2, w3, kvs, rfl, h3, t3, k3, l3, s3⟩
      exact ⟨_, rfl, q pt kvs H3 hp0 h3 ⟨t3, k3⟩ s3⟩
end
end Mr
namespace Mr
open PySem L2
section
variable {P : Program} {w : World} {K : PySem.W.Frag} {mg : Str → Option Value} {base : Heap}
theorem scSM : FnScope ["row"] ["row"] (defScope s_signs_more) := ⟨rfl, rfl, rfl, by decide +kernel, rfl, by decide +kernel, by decide +kernel⟩
set_option maxHeartbeats 4000000 in
theorem ok_signs_more (a : At K mg "signs_more" s_signs_more ["row"]) (d_mend_table : Df P w K mg base 4 "mend_table" ["row"] spMendT) (z_len : mg "len" = none) : Df P w K mg base 5 "signs_more" ["row"] spMore := by
  refine a.df fun f fd F => ?_
  refine F.ok scSM (fun vs H Q E h => ?_) (fun cdv A outer s H vs Q E hr h => ?_)
  · obtain ⟨_, rfl, _⟩ := h
    rfl
  · obtain ⟨l, rfl, hrow, hlen, q⟩ := h
    have hz : l.length ≤ sizeLine := by rw [sizeLine_eq]; omega
    refine ⟨_, (pss_one (ps_ret (pe_dget2 hr.unitsD (pe_df d_mend_table hr rfl (pa_cons (pv 0) pa_nil)) (pe_tup (pa_cons pe_int (pa_cons (pe_callB call_len_str (by rfl) z_len bt_len (pa_cons (pv 0) pa_nil)) pa_nil))) pe_int ⟨rfl, rfl, rfl, rfl⟩))), ?_⟩
    refine ⟨_, rfl, l, rfl, hrow, hlen, fun p kvs H1 hf hp ht s1 => ⟨p, rfl, .inr ⟨_, .inl hp⟩, _, rfl, tx l, rfl, (by rw [tx_len]; exact hz), (by show 2 ≤ sizeLine; decide), fun pk hpk => ⟨_, DGet.t (k := ky 0 l.length) ((Same.upd hpk) _ _ hp) ?_, ?_⟩⟩⟩
    · rw [upd_same, tx_len]
      rfl
    · rw [ht 0 l.length]
      by_cases h0 : l.length = 0
      · rw [if_neg (by omega)]
        show Q (V.int 0) _
        rw [show V.int 0 = V.int ((mendL l l.length 0 : Nat) : Int) by rw [h0]; rfl]
        exact q _ (s1.trans (Same.upd hpk))
      · rw [if_pos (by omega)]
        exact q _ (s1.trans (Same.upd hpk))
end
end Mr
namespace Mr
open PySem L2
section
variable {P : Program} {w : World} {K : PySem.W.Frag} {mg : Str → Option Value} {base : Heap}
theorem scLT : FnScope ["_law_row_here", "_law_found", "_law_first", "_law_behind"] ["_law_row_here"] (defScope s_law_table) := ⟨rfl, rfl, rfl, by decide +kernel, rfl, by decide +kernel, by decide +kernel⟩
set_option maxHeartbeats 8000000 in
theorem ok_ltable (a : At K mg "_law_table" s_law_table ["_law_row_here"])  (z_len : mg "len" = none) (z_min : mg "min" = none) (z_range : mg "range" = none) : Df P w K mg base 1 "_law_table" ["_law_row_here"] spLTable := by
  refine a.df fun f fd F => ?_
  refine F.ok scLT (fun vs H Q E h => ?_) (fun cdv A outer s H vs Q E hr h => ?_)
  · obtain ⟨_, rfl, _⟩ := h
    rfl
  · obtain ⟨l, rfl, hlen, q⟩ := h
    refine ⟨_, (pss_cons (ps_set (i := 1) scLT.nd rfl (Or.inl rfl) pe_dnewT)
      (pss_cons (ps_for PassesOwn.never rfl (pi_rangeD rfl z_range (pa_cons (pe_op op_sub (pe_callB call_len_str (by rfl) z_len bt_len (pa_cons (pv 0) pa_nil)) pe_int) (pa_cons (pe_un un_neg pe_int) (pa_cons (pe_un un_neg pe_int) pa_nil)))) (pg_name (i := 2) scLT.nd rfl (Or.inl rfl)) (pss_cons (ps_dput hr.unitsD (pv 1) (pe_tup (pa_cons (pv 2) (pa_cons (pe_op op_add (pv 2) pe_int) pa_nil))) pe_int rfl)
      (pss_one (ps_for PassesOwn.never rfl (pi_range2 rfl z_range (pa_cons (pe_op op_add (pv 2) pe_int) (pa_cons (pe_op op_add (pe_callB call_len_str (by rfl) z_len bt_len (pa_cons (pv 0) pa_nil)) pe_int) pa_nil))) (pg_name (i := 3) scLT.nd rfl (Or.inl rfl)) (pss_one (ps_if (pt_cmpR op_eq (pe_ix ix_strS (pv 0) (pv 2) (fun _ _ => rfl)) (pe_ix ix_strS (pv 0) (pe_op op_sub (pv 3) pe_int) (fun _ _ => rfl)) (nomark _)) (pss_one (ps_dput hr.unitsD (pv 1) (pe_tup (pa_cons (pv 2) (pa_cons (pv 3) pa_nil))) (pe_dget2 hr.unitsD (pv 1) (pe_tup (pa_cons (pe_op op_add (pv 2) pe_int) (pa_cons (pe_op op_sub (pv 3) pe_int) pa_nil))) pe_int ⟨rfl, rfl, rfl, rfl⟩) rfl)) (pss_one (ps_dput hr.unitsD (pv 1) (pe_tup (pa_cons (pv 2) (pa_cons (pv 3) pa_nil))) (pe_op op_add pe_int (pe_callB (call_min2 rfl) (by rfl) z_min bt_min (pa_cons (pe_dget hr.unitsD (pv 1) (pe_tup (pa_cons (pe_op op_add (pv 2) pe_int) (pa_cons (pv 3) pa_nil))) (fun _ _ => rfl)) (pa_cons (pe_dget hr.unitsD (pv 1) (pe_tup (pa_cons (pv 2) (pa_cons (pe_op op_sub (pv 3) pe_int) pa_nil))) (fun _ _ => rfl)) pa_nil)))) rfl))))))))
      (pss_one (ps_ret (pv 1))))), ?_⟩
    have hz : l.length ≤ sizeLine := by rw [sizeLine_eq]; omega
    refine fun pt hpt => ?_
    have s2 := Same.upd (o := .dT []) hpt
    have f2 : upd H pt (.dT []) pt = some (.dT []) := upd_same
    generalize upd H pt (.dT []) = H2 at s2 f2
    refine ⟨_, rfl, tx l, rfl, (by rw [tx_len]; exact hz), _, _, rfl, rfl, _, rfl, _, rfl, _, _, rfl, ⟨by rw [tx_len]; omega, by rw [tx_len]; omega, by omega, by omega⟩, ?_⟩
    rw [tx_len, show ((l.length : Int) - 1 - -1).toNat = l.length by omega]
    refine for_down (hi := (l.length : Int) - 1) (n := l.length) (fun i σ H' => ∃ (w2 w3 : Option V) (kvs : List (List Key × V)) (j : Nat), σ = [some (.str (tx l)), some (.ref pt), w2, w3] ∧ H' pt = some (.dT kvs) ∧ TabA l (l.length - i) j kvs ∧ (l.length < j ∨ i = 0) ∧ NK kvs ∧ kvs.length ≤ 62 * i ∧ Same H H') ⟨_, _, [], 0, rfl, f2, TabA.nil, .inr rfl, NK.nil, by simp, s2⟩ ?_ ?_
    · rintro i σ H3 hi ⟨w2, w3, kvs, j0, rfl, h3, t3, d3, k3, l3, s3⟩
      have ef : (l.length : Int) - 1 - (i : Int) = ((l.length - (i + 1) : Nat) : Int) := by omega
      rw [ef]
      have e1 : l.length - i = l.length - (i + 1) + 1 := by omega
      rw [e1] at t3
      have t3' := t3.start (by omega)
      generalize hfn : l.length - (i + 1) = f at t3'
      have hf : f < l.length := by omega
      refine ⟨_, rfl, _, rfl, _, rfl, _, _, rfl, rfl, (by show 2 ≤ sizeLine; decide), fun pk hpk => ⟨pt, _, rfl, DPut.t (k := ky f (f + 1)) ((Same.upd hpk) _ _ h3) ?_ (by rw [sizeLine_eq]; omega), ?_⟩⟩
      · show upd H3 pk (.tup [V.int (f : Int), V.int ((f : Int) + 1)]) pk = _
        rw [upd_same, show (f : Int) + 1 = ((f + 1 : Nat) : Int) by omega]
        rfl
      have t4 := t3'.put (Nat.lt_succ_self f) (by omega)
      rw [show mendL l (f + 1 - f) f = 0 by rw [show f + 1 - f = 1 by omega]; rfl] at t4
      have k4 : NK (putK kvs (ky f (f + 1)) (.int ((0 : Nat) : Int))) := k3.put _ _ _
      have l4 : (putK kvs (ky f (f + 1)) (.int ((0 : Nat) : Int))).length ≤ 62 * i + 1 := by have := length_putK kvs (ky f (f + 1)) (.int ((0 : Nat) : Int)); omega
      have s4 : Same H (upd (upd H3 pk (.tup [V.int (f : Int), V.int ((f : Int) + 1)])) pt (.dT (putK kvs (ky f (f + 1)) (.int 0)))) := same_upd (s3.trans (Same.upd hpk)) hpt
      have h4 : upd (upd H3 pk (.tup [V.int (f : Int), V.int ((f : Int) + 1)])) pt (.dT (putK kvs (ky f (f + 1)) (.int 0))) pt = some (.dT (putK kvs (ky f (f + 1)) (.int 0))) := upd_same
      generalize upd (upd H3 pk (.tup [V.int (f : Int), V.int ((f : Int) + 1)])) pt (.dT (putK kvs (ky f (f + 1)) (.int 0))) = H4 at s4 h4
      change TabA l f (f + 1 + 1) (putK kvs (ky f (f + 1)) (.int 0)) at t4
      change NK (putK kvs (ky f (f + 1)) (.int 0)) at k4
      change (putK kvs (ky f (f + 1)) (.int 0)).length ≤ 62 * i + 1 at l4
      generalize putK kvs (ky f (f + 1)) (.int 0) = kv4 at h4 t4 k4 l4
      refine ⟨_, rfl, _, _, rfl, rfl, _, rfl, tx l, rfl, (by rw [tx_len]; exact hz), _, _, rfl, rfl, _, _, rfl, ⟨by omega, by omega, (by rw [tx_len]; omega), (by rw [tx_len]; omega)⟩, ?_⟩
      rw [tx_len, show ((l.length : Int) + 1 - ((f : Int) + 2)).toNat = l.length - (f + 1) by omega]
      refine for_range (lo := (f : Int) + 2) (n := l.length - (f + 1)) (fun j σ H' => ∃ (w3 : Option V) (kvs : List (List Key × V)), σ = [some (.str (tx l)), some (.ref pt), some (.int (f : Int)), w3] ∧ H' pt = some (.dT kvs) ∧ TabA l f (f + 2 + j) kvs ∧ NK kvs ∧ kvs.length ≤ 62 * i + 1 + j ∧ Same H H') ⟨_, kv4, rfl, h4, t4, k4, by omega, s4⟩ ?_ ?_
      · rintro j σ H5 hj ⟨w3', kv5, rfl, h5, t5, k5, l5, s5⟩
        have eb : (f : Int) + 2 + (j : Int) = ((f + 2 + j : Nat) : Int) := by omega
        rw [eb]
        generalize hbn : f + 2 + j = b at t5
        obtain ⟨x, hx⟩ : ∃ x, l[f]? = some x := ⟨_, List.getElem?_eq_getElem hf⟩
        obtain ⟨y, hy⟩ : ∃ y, l[b - 1]? = some y := ⟨_, List.getElem?_eq_getElem (by omega)⟩
        have e3 : (b : Int) - 1 = ((b - 1 : Nat) : Int) := by omega
        have e4 : (f : Int) + 1 = ((f + 1 : Nat) : Int) := by omega
        have dD : IsD H5 pt := .inr ⟨_, .inl h5⟩
        have tp := t5.put (show f < b by omega) (by omega)
        refine ⟨_, rfl, _, rfl, l, _, x, rfl, rfl, hz, atI_nat hx, _, rfl, _, rfl, _, _, rfl, rfl, l, _, y, rfl, rfl, hz, (by rw [e3]; exact atI_nat hy), rfl, _, rfl, ?_⟩
        have fin : ∀ (H6 : Hp) (v : Int) (pk : Addr), Same H5 H6 → H6 pk = none → v = ((mendL l (b - f) f : Nat) : Int) → DPut (upd H6 pk (.tup [V.int (f : Int), V.int (b : Int)])) pt (.ref pk) (.int v) (upd (upd H6 pk (.tup [V.int (f : Int), V.int (b : Int)])) pt (.dT (putK kv5 (ky f b) (.int v)))) ∧ (∃ (w3 : Option V) (kvs : List (List Key × V)), [some (V.str (tx l)), some (V.ref pt), some (V.int (f : Int)), some (V.int (b : Int))] = [some (.str (tx l)), some (.ref pt), some (.int (f : Int)), w3] ∧ upd (upd H6 pk (.tup [V.int (f : Int), V.int (b : Int)])) pt (.dT (putK kv5 (ky f b) (.int v))) pt = some (.dT kvs) ∧ TabA l f (f + 2 + (j + 1)) kvs ∧ NK kvs ∧ kvs.length ≤ 62 * i + 1 + (j + 1) ∧ Same H (upd (upd H6 pk (.tup [V.int (f : Int), V.int (b : Int)])) pt (.dT (putK kv5 (ky f b) (.int v))))) := fun H6 v pk s6 hpk ev => by
          refine ⟨DPut.t (k := ky f b) ((Same.upd hpk) _ _ (s6 _ _ h5)) upd_same (by rw [sizeLine_eq]; omega), _, _, rfl, upd_same, ?_, k5.put _ _ _, (by have := length_putK kv5 (ky f b) (.int v); omega), same_upd (s5.trans (s6.trans (Same.upd hpk))) hpt⟩
          rw [ev, show f + 2 + (j + 1) = b + 1 by omega]
          exact tp
        by_cases hxy : x = y
        · refine if_ya (decide_eq_true (by rw [hxy])) ?_
          have hq : l[f]? = l[f + (b - f) - 1]? := by rw [show f + (b - f) - 1 = b - 1 by omega, hx, hy, hxy]
          refine ⟨_, rfl, pt, rfl, dD, _, rfl, _, _, rfl, rfl, _, rfl, _, _, rfl, rfl, (by show 2 ≤ sizeLine; decide), fun pk hpk => ⟨_, DGet.t (k := ky (f + 1) (b - 1)) ((Same.upd hpk) _ _ h5) ?_, ?_⟩⟩
          · show upd H5 pk (.tup [V.int ((f : Int) + 1), V.int ((b : Int) - 1)]) pk = _
            rw [upd_same, e3, e4]
            rfl
          have hv : (valV kv5 (ky (f + 1) (b - 1))).getD (.int 0) = .int ((mendL l (b - f) f : Nat) : Int) := by
            rw [mend_eq (by omega) hq]
            by_cases h2 : b = f + 2
            · rw [t5, if_neg (by omega), show b - f - 2 = 0 by omega]
              rfl
            · rw [t5.in_ (by omega) (by omega) (by omega), show b - 1 - (f + 1) = b - f - 2 by omega]
              rfl
          rw [hv]
          refine ⟨_, rfl, _, rfl, _, rfl, (by show 2 ≤ sizeLine; decide), fun pk2 hpk2 => ?_⟩
          have := fin _ _ pk2 (Same.upd hpk) hpk2 rfl
          exact ⟨pt, _, rfl, this.1, this.2⟩
        · refine if_no (decide_eq_false fun z => hxy (by have := v_tx.mp z; injection this)) ?_
          have hq : ¬ l[f]? = l[f + (b - f) - 1]? := by rw [show f + (b - f) - 1 = b - 1 by omega, hx, hy]; exact fun z => hxy (Option.some.inj z)
          refine ⟨_, rfl, _, rfl, _, _, rfl, rfl, _, rfl, (by show 2 ≤ sizeLine; decide), fun pk hpk => ⟨pt, _, rfl, dg_t (k := ky (f + 1) b) ((Same.upd hpk) _ _ h5) ?_ (t5.in_ (by omega) (by omega) (by omega)), ?_⟩⟩
          · show upd H5 pk (.tup [V.int ((f : Int) + 1), V.int (b : Int)]) pk = _
            rw [upd_same, e4]
            rfl
          have u6 := Same.upd (o := .tup [V.int ((f : Int) + 1), V.int (b : Int)]) hpk
          generalize upd H5 pk (.tup [V.int ((f : Int) + 1), V.int (b : Int)]) = H6 at u6
          refine ⟨_, rfl, _, rfl, _, rfl, _, _, rfl, rfl, (by show 2 ≤ sizeLine; decide), fun pk2 hpk2 => ⟨pt, _, rfl, dg_t (k := ky f (b - 1)) ((Same.upd hpk2) _ _ (u6 _ _ h5)) ?_ (t5.in_ (by omega) (by omega) (by omega)), ?_⟩⟩
          · show upd H6 pk2 (.tup [V.int (f : Int), V.int ((b : Int) - 1)]) pk2 = _
            rw [upd_same, e3]
            rfl
          have u7 := Same.upd (o := .tup [V.int (f : Int), V.int ((b : Int) - 1)]) hpk2
          generalize upd H6 pk2 (.tup [V.int (f : Int), V.int ((b : Int) - 1)]) = H7 at u7
          refine ⟨_, _, rfl, _, _, rfl, rfl, ?_⟩
          rw [show b - (f + 1) = b - f - 1 by omega, show b - 1 - f = b - f - 1 by omega, min_ii]
          refine ⟨_, rfl, _, rfl, _, rfl, (by show 2 ≤ sizeLine; decide), fun pk3 hpk3 => ?_⟩
          have := fin H7 (1 + ((min (mendL l (b - f - 1) (f + 1)) (mendL l (b - f - 1) f) : Nat) : Int)) pk3 (u6.trans u7) hpk3 (by rw [mend_ne (by omega) hq]; omega)
          exact ⟨pt, _, rfl, this.1, this.2⟩
      · rintro σ H5 ⟨w3', kv5, rfl, h5, t5, k5, l5, s5⟩
        refine ⟨_, _, kv5, _, rfl, h5, ?_, .inl (show l.length < f + 2 + (l.length - (f + 1)) by omega), k5, by omega, s5⟩
        exact t5
    · rintro σ H3 ⟨w2, w3, kvs, j0, rfl, h3, t3, d3, k3, l3, s3⟩
      rw [Nat.sub_self] at t3
      exact ⟨_, rfl, q pt kvs H3 hpt h3 ⟨t3.whole (by omega), k3⟩ s3⟩
end
end Mr
namespace Mr
open PySem L2
section
variable {P : Program} {w : World} {K : PySem.W.Frag} {mg : Str → Option Value} {base : Heap}
theorem scIM : FnScope ["thing", "row", "told"] ["thing", "row"] (defScope s_is_mend_table) := ⟨rfl, rfl, rfl, by decide +kernel, rfl, by decide +kernel, by decide +kernel⟩
set_option maxHeartbeats 8000000 in
theorem ok_ismend (a : At K mg "is_mend_table" s_is_mend_table ["thing", "row"]) (d_mend_table : Df P w K mg base 4 "mend_table" ["row"] spMendX) (d_is_same_number : Df P w K mg base 2 "is_same_number" ["thing", "number"] (spSameG K)) (d_is_stretch : Df P w K mg base 2 "is_stretch" ["thing", "length"] (spStretch K)) (z_all : mg "all" = none) (z_dict : mg "dict" = none) (z_isinstance : mg "isinstance" = none) (z_len : mg "len" = none) : Df P w K mg base 5 "is_mend_table" ["thing", "row"] (spIsMend K) := by
  refine a.df fun f fd F => ?_
  refine F.ok scIM (fun vs H Q E h => ?_) (fun cdv A outer s H vs Q E hr h => ?_)
  · obtain ⟨_, _, rfl, _⟩ := h
    rfl
  · obtain ⟨x, l, rfl, hrow, hlen, h⟩ := h
    refine ⟨_, (pss_cons (ps_set (i := 2) scIM.nd rfl (Or.inr rfl) (pe_df d_mend_table hr rfl (pa_cons (pv 1) pa_nil)))
      (pss_cons (ps_if (PW.pt (pw_or (pt_not (pt_val (pe_callB call_isT (by rfl) z_isinstance bt_isinstance (pa_cons (pv 0) (pa_cons (pe_bltn (v := .ty "dict") (by rfl) z_dict bt_dict rfl) pa_nil))))) (pw_or1 (pt_cmpR op_ne (pe_callB call_lenU (by rfl) z_len bt_len (pa_cons (pv 0) pa_nil)) (pe_callB call_lenU (by rfl) z_len bt_len (pa_cons (pv 2) pa_nil)) (nomark _))))) (pss_one (ps_ret pe_bl)) pss_nil)
      (pss_one (ps_ret (pe_callB (call_allB rfl) (by rfl) z_all bt_all (pa_cons (pe_thawT (pe_compL (xs := ["key", "number"]) (ys := ["row", "told"]) (ix := [1, 2]) ⟨rfl, by decide +kernel, rfl, by decide +kernel, by decide +kernel, ⟨rfl, rfl, trivial⟩, rfl, ⟨⟨rfl, rfl, rfl, rfl⟩, ⟨rfl, rfl, rfl, rfl⟩, trivial⟩⟩ rfl (pi_items (pe_bm0 PySem.F.plainAttrs_dict PySem.F.slot_dict_items PySem.F.type_dict_items mt_items (pv 0))) (fun C fp s H => pg_tup rfl (pgs_cons (pg_name (i := 0) (show List.Nodup ((["key", "number"] : List Str) ++ (["row", "told"] : List Str)) by decide +kernel) rfl (Or.inl rfl)) (pgs_cons (pg_name (i := 1) (show List.Nodup ((["key", "number"] : List Str) ++ (["row", "told"] : List Str)) by decide +kernel) rfl (Or.inl rfl)) pgs_nil))) gs2 (fun C fp s H => pts_nil) (fun C fp s H => (pe_and (pe_df (X := cmpCx _ _ _ _ C fp s H) d_is_stretch hr rfl (pa_cons (pv 0) (pa_cons (pe_callB call_len_str (by rfl) z_len bt_len (pa_cons (pv 2) pa_nil)) pa_nil))) (pe_one (pe_df (X := cmpCx _ _ _ _ C fp s H) d_is_same_number hr rfl (pa_cons (pv 1) (pa_cons (pe_dget1 hr.unitsD (pv 3) (pv 0) ⟨rfl, rfl, rfl, rfl⟩) pa_nil)))))))) pa_nil)))))), ?_⟩
    have hz : l.length ≤ sizeLine := by rw [sizeLine_eq]; omega
    refine ⟨_, rfl, l, rfl, hrow, by omega, fun pt told H1 hft hpt hT s1 => ?_⟩
    rcases h with ⟨p, kvs, rfl, hp, hD, q⟩ | ⟨p, z, i0, rfl, hp, q⟩ | ⟨⟨t, ty, hk⟩, q⟩
    rotate_left
    · refine ⟨_, rfl, _, "dict", _, true, rfl, .dK (s1 _ _ hp), by rfl, _, rfl, iteF ⟨_, rfl, p, _, rfl, s1 _ _ hp, .inr ⟨_, rfl⟩, _, rfl, pt, _, rfl, hpt, .inl ⟨_, rfl⟩, rfl, _, rfl, ?_⟩⟩
      by_cases c : told.length = 1
      rotate_left
      · refine if_ya ?_ (q H1 s1)
        show (!decide (V.int ((1 : Nat) : Int) = V.int ((told.length : Nat) : Int))) = true
        rw [decide_eq_false (fun z => c (by injection z with z; omega))]
        rfl
      refine if_no (by show (!decide (V.int ((1 : Nat) : Int) = V.int ((told.length : Nat) : Int))) = false; rw [c, decide_eq_true rfl]; rfl) ?_
      have hp1 := s1 _ _ hp
      refine ⟨_, rfl, .inr (.inr (.inl ⟨rfl, .inl ⟨_, hp1⟩⟩)), p, _, rfl, rfl, hp1, .inr ⟨_, rfl⟩, fun vw hvw => ?_⟩
      have nvp : p ≠ vw := ne_of_none hp1 hvw
      refine ⟨vw, p, .dK [(.inr z, .int i0)], rfl, upd_same, (by rw [upd_ne nvp]; exact hp1), .inr ⟨_, rfl⟩, fun o => comp_items (K := K) (d := p) (o := o) (u := .dK [(.inr z, .int i0)]) (by rw [sizeLine_eq]; show 1 ≤ _; omega) (fun i ys H' => ys = (List.replicate i false).map V.bl ∧ Same (upd (upd H1 vw (vwO p vw)) p (.frz o (.dK [(.inr z, .int i0)]))) H') ⟨rfl, Same.refl _⟩ (fun i ys H' h => h.2 _ _ upd_same) ?_ ?_⟩
      · rintro i T kx vx ys H2 N hi hit hTn hy ⟨rfl, s2⟩ hN
        obtain ⟨kv, k1, k2, k3⟩ := hit
        have e0 : i = 0 := by have : i < 1 := hi; omega
        subst e0
        cases k1
        subst k2
        refine yes_ok (iteT ⟨_, rfl, _, rfl, tx l, rfl, (by rw [tx_len]; exact hz), _, _, rfl, .inl ⟨⟨_, .str _, by rfl⟩, _, rfl, iteF (hN _ _ (by rw [List.length_append]; exact Nat.succ_le_succ hy) ⟨rfl, s2.trans (Same.upd hTn)⟩)⟩⟩)
      · rintro ys H2 hy ⟨rfl, s2⟩ pl hpl
        refine ⟨p, o, .dK [(.inr z, .int i0)], ?_, (fun x z => by cases z), (fun ob v z => by have z : H p = some (.frz ob v) := z; rw [hp] at z; cases z), ?_⟩
        · exact (Same.upd hpl) _ _ (s2 _ _ upd_same)
        have npl : pl ≠ p := (ne_of_none (s2 _ _ upd_same) hpl).symm
        refine ⟨pl, [false], rfl, SqL.of (by rw [upd_ne npl]; exact upd_same), ?_⟩
        refine q _ fun b u hb => ?_
        by_cases e : b = p
        · subst e
          rw [upd_same]
          rw [hp] at hb
          exact hb
        · rw [upd_ne e]
          refine (Same.upd hpl) _ _ (s2 _ _ ?_)
          rw [upd_ne e]
          exact (Same.upd hvw) _ _ (s1 _ _ hb)
    · exact ⟨_, rfl, _, "dict", _, false, rfl, TyOf.same s1 ty, hk, _, rfl, iteT (iteT (q H1 s1))⟩
    obtain ⟨hfew, ⟨ps, hps, hnd, hpp⟩, hel⟩ := hD
    have hp1 := s1 _ _ hp
    refine ⟨_, rfl, _, "dict", _, true, rfl, .dT hp1, by rfl, _, rfl, iteF ⟨_, rfl, p, _, rfl, hp1, .inl ⟨_, rfl⟩, _, rfl, pt, _, rfl, hpt, .inl ⟨_, rfl⟩, rfl, _, rfl, ?_⟩⟩
    by_cases c : kvs.length = told.length
    rotate_left
    · refine if_ya ?_ (q false H1 (fun told' hT' => ⟨fun z => (by cases z), fun z => absurd (z.1.trans (hT'.len hT)) c⟩) s1)
      show (!decide (V.int ((kvs.length : Nat) : Int) = V.int ((told.length : Nat) : Int))) = true
      rw [decide_eq_false (fun z => c (by injection z with z; omega))]
      rfl
    refine if_no (by show (!decide (V.int ((kvs.length : Nat) : Int) = V.int ((told.length : Nat) : Int))) = false; rw [c, decide_eq_true rfl]; rfl) ?_
    refine ⟨_, rfl, .inr (.inr (.inl ⟨rfl, .inr ⟨_, hp1⟩⟩)), p, _, rfl, rfl, hp1, .inl ⟨_, rfl⟩, fun vw hvw => ?_⟩
    have nvp : p ≠ vw := ne_of_none hp1 hvw
    have npt : pt ≠ p := fun z => by rw [z, hp] at hft; cases hft
    refine ⟨vw, p, .dT kvs, rfl, upd_same, (by rw [upd_ne nvp]; exact hp1), .inl ⟨_, rfl⟩, fun o => ?_⟩
    have hf0 : upd (upd H1 vw (vwO p vw)) p (.frz o (.dT kvs)) p = some (.frz o (.dT kvs)) := upd_same
    have hpt0 : upd (upd H1 vw (vwO p vw)) p (.frz o (.dT kvs)) pt = some (.dT told) := by rw [upd_ne npt]; exact (Same.upd hvw) _ _ hpt
    have sO : ∀ b u, b ≠ p → H b = some u → upd (upd H1 vw (vwO p vw)) p (.frz o (.dT kvs)) b = some u := fun b u e hb => by rw [upd_ne e]; exact (Same.upd hvw) _ _ (s1 _ _ hb)
    have elO : ∀ kv ∈ kvs, Scal kv.2 ∨ NoInt K (upd (upd H1 vw (vwO p vw)) p (.frz o (.dT kvs))) kv.2 := fun kv hk => (hel kv hk).kind fun b u hu hb => sO b u (fun z => by rw [z, hp] at hb; cases hb; exact hu _ rfl) hb
    generalize upd (upd H1 vw (vwO p vw)) p (.frz o (.dT kvs)) = H2 at hf0 hpt0 sO elO
    refine comp_items (K := K) (d := p) (o := o) (u := .dT kvs) (by rw [sizeLine_eq]; show kvs.length ≤ _; omega) (fun i ys H' => ys = ((kvs.take i).map fun kv => decide (valV told kv.1 = some kv.2)).map V.bl ∧ Same H2 H') ⟨rfl, Same.refl _⟩ (fun i ys H' h => h.2 _ _ hf0) ?_ ?_
    · rintro i T kx vx ys H3 N hi hit hTn hy ⟨rfl, s3⟩ hN
      obtain ⟨kv, b, k1, k2, k3, k4⟩ := hit
      subst k2 k4
      have hkm := List.mem_of_getElem? k1
      have hil : i < kvs.length := hi
      have hpi : ∃ pr ∈ ps, kv.1 = pkey pr := by
        have : kv.1 ∈ kvs.map (·.1) := List.mem_map.mpr ⟨kv, hkm, rfl⟩
        rw [hps] at this
        obtain ⟨pr, h1, h2⟩ := List.mem_map.mp this
        exact ⟨pr, h1, h2.symm⟩
      obtain ⟨pr, hpr, hkp⟩ := hpi
      obtain ⟨g1, g2, g3, g4, g5⟩ := hpp pr hpr
      have u4 := Same.upd (o := .tup [V.ref b, kv.2]) hTn
      have s4 : Same H2 (upd H3 T (.tup [V.ref b, kv.2])) := s3.trans u4
      have hb4 : upd H3 T (.tup [V.ref b, kv.2]) b = some (.tup [.int pr.1, .int pr.2]) := by rw [hkp] at k3; exact u4 _ _ k3
      generalize upd H3 T (.tup [V.ref b, kv.2]) = H4 at u4 s4 hb4
      have hfin : ∀ z : Bool, decide (valV told kv.1 = some kv.2) = z → N (((kvs.take i).map fun kv => decide (valV told kv.1 = some kv.2)).map V.bl ++ [.bl z]) H4 := fun z e => hN _ _ (by rw [List.length_append]; exact Nat.succ_le_succ hy) ⟨by rw [List.take_succ, k1, List.map_append, List.map_append, ← e]; rfl, s4⟩
      refine yes_ok (iteT ⟨_, rfl, _, rfl, tx l, rfl, (by rw [tx_len]; exact hz), _, _, rfl, .inr ⟨b, _, rfl, hb4, (fun _ => scal2), ?_⟩⟩)
      rw [tx_len]
      by_cases hst : 0 ≤ pr.1 ∧ pr.1 ≤ pr.2 ∧ pr.2 ≤ (l.length : Int)
      · have e1 : stL (l.length : Int) [V.int pr.1, V.int pr.2] = true := by
          show (decide (0 ≤ pr.1) && (decide (pr.1 ≤ pr.2) && decide (pr.2 ≤ (l.length : Int)))) = true
          rw [decide_eq_true hst.1, decide_eq_true hst.2.1, decide_eq_true hst.2.2]
          rfl
        rw [e1]
        have hky : kv.1 = ky pr.1.toNat pr.2.toNat := by
          rw [hkp]
          show [Sum.inl pr.1, Sum.inl pr.2] = [Sum.inl ((pr.1.toNat : Nat) : Int), Sum.inl ((pr.2.toNat : Nat) : Int)]
          rw [Int.toNat_of_nonneg g2, Int.toNat_of_nonneg g4]
        have hv := hT.get (a := pr.1.toNat) (b := pr.2.toNat) (by omega) (by omega)
        rw [← hky] at hv
        refine ⟨_, rfl, iteT ⟨_, rfl, _, rfl, pt, rfl, .inr ⟨_, .inl (s4 _ _ hpt0)⟩, _, rfl, _, DGet.t (k := kv.1) (s4 _ _ hpt0) (by rw [hb4, hkp]; rfl), kv.2, _, (by rw [hv]; rfl), (elO kv hkm).imp id (NoInt.same s4), hfin _ ?_⟩⟩
        rw [hv]
        exact decide_eq_decide.mpr ⟨fun z => (Option.some.inj z).symm, fun z => by rw [z]⟩
      · have e1 : stL (l.length : Int) [V.int pr.1, V.int pr.2] = false := by
          show (decide (0 ≤ pr.1) && (decide (pr.1 ≤ pr.2) && decide (pr.2 ≤ (l.length : Int)))) = false
          rw [Bool.eq_false_iff]
          intro z
          rw [Bool.and_eq_true, Bool.and_eq_true] at z
          exact hst ⟨of_decide_eq_true z.1, of_decide_eq_true z.2.1, of_decide_eq_true z.2.2⟩
        rw [e1]
        refine ⟨_, rfl, iteF (hfin false (decide_eq_false fun z => hst ?_))⟩
        obtain ⟨x, y, y1, y2, y3, _⟩ := hT.at (valV_in z)
        rw [hkp] at y3
        have y3 : pkey pr = pkey ((x : Int), (y : Int)) := y3
        rw [pkey_inj y3]
        show 0 ≤ (x : Int) ∧ (x : Int) ≤ (y : Int) ∧ (y : Int) ≤ _
        omega
    · rintro ys H3 hy ⟨rfl, s3⟩ pl hpl
      have e : (kvs.take (lenU (.dT kvs))) = kvs := List.take_length
      rw [e] at *
      refine ⟨p, o, .dT kvs, (Same.upd hpl) _ _ (s3 _ _ hf0), (fun x z => by cases z), (fun ob v z => by have z : H p = some (.frz ob v) := z; rw [hp] at z; cases z), ?_⟩
      have npl : pl ≠ p := (ne_of_none (s3 _ _ hf0) hpl).symm
      refine ⟨pl, _, rfl, SqL.of (by rw [upd_ne npl]; exact upd_same), ?_⟩
      refine q _ _ (fun told' hT' => ?_) fun b u hb => ?_
      · rw [MT.other hT' hT]
        unfold MT
        rw [List.all_map, List.all_eq_true]
        exact ⟨fun h => ⟨c, fun kv hk => of_decide_eq_true (h kv hk)⟩, fun h kv hk => decide_eq_true (h.2 kv hk)⟩
      · by_cases e : b = p
        · subst e
          rw [upd_same]
          rw [hp] at hb
          exact hb
        · rw [upd_ne e]
          exact (Same.upd hpl) _ _ (s3 _ _ (sO b u e hb))
end
end Mr
namespace Mr
open PySem L2
section
variable {P : Program} {w : World} {K : PySem.W.Frag} {mg : Str → Option Value} {base : Heap}
theorem scTu : FnScope ["_law_box_here", "_law_due", "_law_odd_here", "_law_keys", "_law_key", "_law_found", "_law_mode"] ["_law_box_here", "_law_due", "_law_odd_here"] (defScope s_law_turned) := ⟨rfl, rfl, rfl, by decide +kernel, rfl, by decide +kernel, by decide +kernel⟩
set_option maxHeartbeats 8000000 in
theorem ok_turned54 (a : At K mg "_law_turned" s_law_turned ["_law_box_here", "_law_due", "_law_odd_here"]) (d_law_take : Df P w K mg base 1 "_law_take" ["_law_box_here", "_law_many"] spTakeI) (z_dict : mg "dict" = none) (z_len : mg "len" = none) (z_max : mg "max" = none) (z_sorted : mg "sorted" = none) (z_str : mg "str" = none) : Df P w K mg base 2 "_law_turned" ["_law_box_here", "_law_due", "_law_odd_here"] (spTurned K) := by
  refine a.df fun f fd F => ?_
  refine F.ok scTu (fun vs H Q E h => ?_) (fun cdv A outer s H vs Q E hr h => ?_)
  · obtain ⟨_, _, _, _, _, _, rfl, _⟩ := h
    rfl
  · obtain ⟨b, pd, x, n, l, due, rfl, hb, hpd, hT, hlen, hx, q⟩ := h
    refine ⟨_, (pss_cons (ps_set (i := 3) scTu.nd rfl (Or.inl rfl) (pe_op op_cat (pe_callB (call_sortedDT rfl) (by rfl) z_sorted bt_sorted (pa_cons (pv 1) pa_nil)) (pe_lst (pa_cons (pe_tup (pa_cons pe_int (pa_cons pe_int pa_nil))) pa_nil))))
      (pss_cons (ps_set (i := 4) scTu.nd rfl (Or.inl rfl) (pe_ix ix_list (pv 3) (pe_df d_law_take hr rfl (pa_cons (pv 0) (pa_cons (pe_callB (call_max2 rfl) (by rfl) z_max bt_max (pa_cons pe_int (pa_cons (pe_op op_sub (pe_callB call_len_seq (by rfl) z_len bt_len (pa_cons (pv 3) pa_nil)) pe_int) pa_nil))) pa_nil))) (fun _ _ => rfl)))
      (pss_cons (ps_set (i := 5) scTu.nd rfl (Or.inl rfl) (pe_callTy call_dictC (by rfl) z_dict bt_dict (pa_cons (pv 1) pa_nil)))
      (pss_cons (ps_set (i := 6) scTu.nd rfl (Or.inl rfl) (pe_df d_law_take hr rfl (pa_cons (pv 0) (pa_cons pe_int pa_nil))))
      (pss_cons (ps_if (pt_cmpR op_eq (pv 6) pe_int (nomark _)) (pss_one (ps_expr (pe_bm PySem.F.plainAttrs_dict PySem.F.slot_dict_pop PySem.F.type_dict_pop (mt_popT hr.unitsD) (pv 5) (pa_cons (pv 4) (pa_cons pe_non pa_nil))))) (pss_one (ps_if (pt_cmpR op_lt (pv 6) pe_int (nomark _)) (pss_one (ps_dput hr.unitsD (pv 5) (pv 4) (pe_op op_add (pe_dget2 hr.unitsD (pv 1) (pv 4) pe_int ⟨rfl, rfl, rfl, rfl⟩) (pe_ix ix_list (pe_lst (pa_cons pe_int (pa_cons (pe_un un_neg pe_int) pa_nil))) (pe_op op_sub (pv 6) pe_int) (fun _ _ => rfl))) rfl)) (pss_one (ps_if (pt_cmpR op_eq (pv 6) pe_int (nomark _)) (pss_one (ps_dput hr.unitsD (pv 5) (pv 4) (pe_cmpR op_eq (pe_dget2 hr.unitsD (pv 1) (pv 4) pe_int ⟨rfl, rfl, rfl, rfl⟩) pe_int (nomark _)) rfl)) (pss_one (ps_if (pt_cmpR op_eq (pv 6) pe_int (nomark _)) (pss_one (ps_dput hr.unitsD (pv 5) (pv 4) (pe_callTy call_strI (by rfl) z_str bt_str (pa_cons (pe_dget2 hr.unitsD (pv 1) (pv 4) pe_int ⟨rfl, rfl, rfl, rfl⟩) pa_nil)) rfl)) (pss_one (ps_if (pt_cmpR op_eq (pv 6) pe_int (nomark _)) (pss_one (ps_dput hr.unitsD (pv 5) (pe_tup (pa_cons (pe_ix ix_tup (pv 4) pe_int (fun _ _ => rfl)) (pa_cons (pe_ix ix_tup (pv 4) pe_int (fun _ _ => rfl)) pa_nil))) pe_int rfl)) (pss_one (ps_if (pt_cmpR op_eq (pv 6) pe_int (nomark _)) (pss_one (ps_ret (pe_callB (call_sortedI rfl hr.units2) (by rfl) z_sorted bt_sorted (pa_cons (pe_bm0 PySem.F.plainAttrs_dict PySem.F.slot_dict_items PySem.F.type_dict_items mt_items (pv 1)) pa_nil)))) (pss_one (ps_if (pt_cmpR op_eq (pv 6) pe_int (nomark _)) (pss_one (ps_dput hr.unitsD (pv 5) (pv 4) (pv 2) rfl)) (pss_one (ps_set (i := 5) scTu.nd rfl (Or.inl rfl) (pe_callTy (call_dictPT rfl hr.units2) (by rfl) z_dict bt_dict (pa_cons (pe_comp (ys := ["_law_due"]) (ix := [1]) ⟨rfl, by decide +kernel, rfl, by decide +kernel, rfl, by decide +kernel, ⟨rfl, trivial⟩, rfl, ⟨⟨rfl, rfl, rfl, rfl⟩, trivial⟩⟩ rfl (pi_list (pe_revL (pe_callB (call_sortedDT rfl) (by rfl) z_sorted bt_sorted (pa_cons (pv 1) pa_nil)) (pe_un un_neg pe_int))) (fun C fp s H => pts_nil) (fun C fp s H => (pe_tup (pa_cons (pv 0) (pa_cons (pe_dget hr.unitsD (pv 1) (pv 0) (fun _ _ => rfl)) pa_nil))))) pa_nil)))))))))))))))))
      (pss_one (ps_ret (pv 5)))))))), ?_⟩
    obtain ⟨ps, hk, hnd, hpp⟩ := hT.prs
    have hpl : ps.length = due.length := by have := congrArg List.length hk; rw [List.length_map, List.length_map] at this; exact this.symm
    have hfew := hT.few (by omega)
    have npb : pd ≠ b := fun z => by rw [z, hb] at hpd; cases hpd
    have hsm : ∀ p ∈ ps, SmP p := fun p hp => by
      obtain ⟨u, v, z1, z2, rfl⟩ := hpp p hp
      show (u : Int) ≠ (v : Int) ∧ 0 ≤ (u : Int) ∧ (u : Int) ≤ 100 ∧ 0 ≤ (v : Int) ∧ (v : Int) ≤ 100
      omega
    have hval : ∀ p ∈ ps, ∃ g : Nat, g ≤ 10 ∧ valV due (pkey p) = some (.int (g : Int)) := fun p hp => by
      obtain ⟨u, v, z1, z2, rfl⟩ := hpp p hp
      have := mendL_le l (v - u) u
      exact ⟨mendL l (v - u) u, by omega, hT.get z1 z2⟩
    refine ⟨_, rfl, pd, due, ps, rfl, hpd, hk, by omega, fun l1 ys qs a1 a2 a3 hl1 => ?_⟩
    have hqm : ∀ p, p ∈ qs ↔ p ∈ ps := fun p => a1.mem_iff
    have hql : qs.length = ps.length := a1.length_eq
    have u1 := Same.upd (o := .lst ys) hl1
    have v1 : upd H l1 (.lst ys) l1 = some (.lst ys) := upd_same
    generalize upd H l1 (.lst ys) = H1 at u1 v1
    refine ⟨(by show 2 ≤ sizeLine; decide), fun t1 ht1 => ?_⟩
    have u2 := Same.upd (o := .tup [V.int 0, V.int 1]) ht1
    have v2 : upd H1 t1 (.tup [V.int 0, V.int 1]) t1 = some (.tup [V.int 0, V.int 1]) := upd_same
    generalize upd H1 t1 (.tup [V.int 0, V.int 1]) = H2 at u2 v2
    refine ⟨(by show 1 ≤ sizeLine; decide), fun l2 hl2 => ?_⟩
    have u3 := Same.upd (o := .lst [V.ref t1]) hl2
    have v3 : upd H2 l2 (.lst [V.ref t1]) l2 = some (.lst [V.ref t1]) := upd_same
    generalize upd H2 l2 (.lst [V.ref t1]) = H3 at u3 v3
    have hyl := a3.1
    refine ⟨l1, l2, ys, [.ref t1], rfl, rfl, u3 _ _ (u2 _ _ v1), v3, (by rw [sizeLine_eq]; show ys.length + 1 ≤ _; omega), fun l3 hl3 => ?_⟩
    have u4 := Same.upd (o := .lst (ys ++ [V.ref t1])) hl3
    have v4 : upd H3 l3 (.lst (ys ++ [V.ref t1])) l3 = some (.lst (ys ++ [V.ref t1])) := upd_same
    have S4 : Same H (upd H3 l3 (.lst (ys ++ [V.ref t1]))) := u1.trans (u2.trans (u3.trans u4))
    have vt4 : upd H3 l3 (.lst (ys ++ [V.ref t1])) t1 = some (.tup [V.int 0, V.int 1]) := u4 _ _ (u3 _ _ v2)
    have n3b : l3 ≠ b := (ne_of_none (u3 _ _ (u2 _ _ (u1 _ _ hb))) hl3).symm
    generalize upd H3 l3 (.lst (ys ++ [V.ref t1])) = H4 at u4 v4 S4 vt4
    refine ⟨_, rfl, _, rfl, _, rfl, l3, _, rfl, .inl (SqL.of v4), _, _, rfl, rfl, _, _, rfl, b, n, _, rfl, S4 _ _ hb, ?_, ?_, fun d n5 H5 hd hd' hb5 k5 => ?_⟩
    · split <;> omega
    · have e : ((ys ++ [V.ref t1]).length : Int) = (ys.length : Int) + 1 := by rw [List.length_append]; rfl
      rw [e]
      split <;> omega
    obtain ⟨dn, rfl⟩ := Int.eq_ofNat_of_zero_le hd
    rw [List.length_append] at hd'
    have hd' : (dn : Int) < if (((ys.length + 1 : Nat) : Int) - 1) > 1 then (((ys.length + 1 : Nat) : Int) - 1) else 1 := hd'
    have hkey : ∃ (kr : Addr) (kp : Int × Int), (ys ++ [V.ref t1])[dn]? = some (.ref kr) ∧ H4 kr = some (.tup [.int kp.1, .int kp.2]) ∧ SmP kp ∧ (kp ∈ ps ∨ ps = []) := by
      by_cases h0 : ps = []
      · have hy0 : ys = [] := List.eq_nil_of_length_eq_zero (by rw [hyl, hql, h0]; rfl)
        rw [hy0] at hd' ⊢
        have : dn = 0 := by
          have : (dn : Int) < 1 := hd'
          omega
        subst this
        exact ⟨t1, (0, 1), rfl, vt4, ⟨by decide, by decide, by decide, by decide, by decide⟩, .inr h0⟩
      · have hp0 : 0 < ps.length := List.length_pos_iff.mpr h0
        have hdl : dn < qs.length := by
          split at hd' <;> omega
        obtain ⟨r, e1, e2⟩ := a3.2 dn hdl
        have hm := (hqm _).mp (prAt_mem54 hdl)
        exact ⟨r, prAt qs dn, by rw [List.getElem?_append_left (by omega)]; exact e1, S4 _ _ e2, hsm _ hm, .inl hm⟩
    obtain ⟨kr, kp, hgk, hkr, hkps, hkin⟩ := hkey
    refine ⟨l3, _, _, .ref kr, rfl, rfl, SqL.of (k5 _ _ v4 n3b), atI_nat hgk, ?_⟩
    have nkb : kr ≠ b := fun z => by rw [z, S4 _ _ hb] at hkr; cases hkr
    have hpd5 := k5 _ _ (S4 _ _ hpd) npb
    refine ⟨_, rfl, pd, due, ps, rfl, hpd5, hk, hT.hash hlen hk, fun pf hpf => ?_⟩
    have u6 := Same.upd (o := .dT due) hpf
    have v6 : upd H5 pf (.dT due) pf = some (.dT due) := upd_same
    generalize upd H5 pf (.dT due) = H6 at u6 v6
    have nfb : pf ≠ b := (ne_of_none hb5 hpf).symm
    refine ⟨_, rfl, b, n5, 9, rfl, u6 _ _ hb5, by decide, by decide, fun m n7 H7 hm hm' hb7 k7 => ?_⟩
    obtain ⟨mn, rfl⟩ := Int.eq_ofNat_of_zero_le hm
    have hpf7 := k7 _ _ v6 nfb
    have hkr7 := k7 _ _ (u6 _ _ (k5 _ _ hkr nkb)) nkb
    have hpd7 := k7 _ _ (u6 _ _ hpd5) npb
    have hf0 : H pf = none := by
      cases e : H pf with
      | none => rfl
      | some u => rw [k5 _ _ (S4 _ _ e) nfb] at hpf; cases hpf
    have B7 : But b H H7 := (But.of S4).trans (k5.trans ((But.of u6).trans k7))
    have hx7 := hx.same B7.off
    clear k5 k7 u1 u2 u3 u4 v1 v2 v3 v4 vt4 S4 hkr hpd5 u6 v6
    have nfd : pd ≠ pf := fun z => by rw [z, hf0] at hpd; cases hpd
    have nkf : kr ≠ pf := fun z => by rw [z, hpf7] at hkr7; cases hkr7
    have D0 : ∀ H8 : Hp, DTn K (off b H8) 144 due := fun H8 => hT.dtn (by omega)
    have B8 : ∀ (H8 : Hp) (o : HO), Same H7 H8 → But b H (upd H8 pf o) := fun H8 o s c u hc nc => by
      rw [upd_ne (fun z => by rw [z, hf0] at hc; cases hc)]
      exact s _ _ (B7 c u hc nc)
    have fin : ∀ (H8 : Hp) (kv8 : List (List Key × V)), Same H7 H8 → DTn K (off b (upd H8 pf (.dT kv8))) 145 kv8 → Q (.ref pf) (upd H8 pf (.dT kv8)) := fun H8 kv8 s8 d8 =>
      q (.ref pf) n7 _ (.inl ⟨pf, kv8, rfl, off_at upd_same nfb, d8.dt (by decide)⟩) (by rw [upd_ne (Ne.symm nfb)]; exact s8 _ _ hb7) (B8 H8 _ s8)
    have put : ∀ (H8 : Hp) (v : V), Same H7 H8 → (∀ o, El K (off b (upd H8 pf o)) v) → DPut H8 pf (.ref kr) v (upd H8 pf (.dT (putK due (pkey kp) v))) ∧ Q (.ref pf) (upd H8 pf (.dT (putK due (pkey kp) v))) := fun H8 v s8 hv =>
      ⟨DPut.t (k := pkey kp) (s8 _ _ hpf7) (s8 _ _ hkr7) (by rw [sizeLine_eq]; omega), fin H8 _ s8 ((D0 _).put hkps (hv _))⟩
    have hget : ∃ g : Nat, g ≤ 10 ∧ (valV due (pkey kp)).getD (.int 0) = .int (g : Int) := by
      rcases hkin with h | h
      · obtain ⟨g, h1, h2⟩ := hval kp h
        exact ⟨g, h1, by rw [h2]; rfl⟩
      · have : due = [] := List.eq_nil_of_length_eq_zero (by rw [← hpl, h]; rfl)
        rw [this]
        exact ⟨0, by decide, rfl⟩
    obtain ⟨g, hg1, hg2⟩ := hget
    refine ⟨_, rfl, rfl, _, rfl, ?_⟩
    by_cases m0 : mn = 0
    · refine if_ya (decide_eq_true (by rw [m0]; rfl)) ⟨_, rfl, .inr (.inr (.inl ⟨rfl, .inr ⟨_, hpf7⟩⟩)), _, rfl, pf, kr, .non, rfl, rfl, ?_⟩
      rcases hkin with h | h
      · obtain ⟨gv, _, hgv⟩ := hval kp h
        obtain ⟨j, hj⟩ := List.getElem?_of_mem (valV_in hgv)
        exact .inr ⟨due, pkey kp, j, _, hpf7, hkr7, hj, _, rfl, fin H7 _ (Same.refl _) (let z := (D0 (upd H7 pf (.dT (due.eraseIdx j)))).erase j; ⟨Nat.le_trans z.1 (by decide), z.2⟩)⟩
      · have hd0 : due = [] := List.eq_nil_of_length_eq_zero (by rw [← hpl, h]; rfl)
        have e : upd H7 pf (.dT due) = H7 := funext fun c => by
          by_cases hc : c = pf
          · subst hc; rw [upd_same, hpf7]
          · rw [upd_ne hc]
        refine .inl ⟨by rw [← hd0]; exact hpf7, _, rfl, ?_⟩
        have := fin H7 due (Same.refl _) ⟨by omega, (D0 _).2⟩
        rw [e] at this
        exact this
    refine if_no (decide_eq_false fun z => m0 (by injection z with z; omega)) ⟨_, rfl, _, _, rfl, rfl, _, rfl, ?_⟩
    have dD : IsD H7 pd := .inr ⟨_, .inl hpd7⟩
    have dG : DGet H7 pd (.ref kr) (valV due (pkey kp)) := DGet.t (k := pkey kp) hpd7 hkr7
    by_cases m3 : mn < 3
    · refine if_ya (decide_eq_true (show (mn : Int) < 3 by omega)) ⟨_, rfl, pd, rfl, dD, _, rfl, _, dG, ?_⟩
      rw [hg2]
      refine ⟨_, rfl, (by show 2 ≤ sizeLine; decide), fun pl hpl' => ?_⟩
      have u8 := Same.upd (o := .lst [V.int 1, V.int (-1)]) hpl'
      have v8 : upd H7 pl (.lst [V.int 1, V.int (-1)]) pl = some (.lst [V.int 1, V.int (-1)]) := upd_same
      have hat : ∃ w : Int, w.natAbs ≤ 1 ∧ atI [V.int 1, V.int (-1)] ((mn : Int) - 1) = some (.int w) := by
        have : mn = 1 ∨ mn = 2 := by omega
        rcases this with rfl | rfl
        · exact ⟨1, by decide, rfl⟩
        · exact ⟨-1, by decide, rfl⟩
      obtain ⟨w8, hw1, hw2⟩ := hat
      have pp := put _ (.int ((g : Int) + w8)) u8 fun o => el_small (by omega)
      exact ⟨_, rfl, _, _, rfl, rfl, pl, _, _, _, rfl, rfl, SqL.of v8, hw2, _, _, rfl, rfl, _, rfl, _, rfl, pf, _, rfl, pp.1, _, rfl, pp.2⟩
    refine if_no (decide_eq_false (show ¬ (mn : Int) < 3 by omega)) ⟨_, rfl, rfl, _, rfl, ?_⟩
    by_cases m4 : mn = 3
    · refine if_ya (decide_eq_true (by rw [m4]; rfl)) ⟨_, rfl, pd, rfl, dD, _, rfl, _, dG, ?_⟩
      rw [hg2]
      have pp := put H7 (.bl (decide (V.int (g : Int) = V.int 1))) (Same.refl _) fun o => el_bl _
      exact ⟨rfl, _, rfl, _, rfl, pf, _, rfl, pp.1, _, rfl, pp.2⟩
    refine if_no (decide_eq_false fun z => m4 (by injection z with z; omega)) ⟨_, rfl, rfl, _, rfl, ?_⟩
    by_cases m5 : mn = 4
    · refine if_ya (decide_eq_true (by rw [m5]; rfl)) ⟨_, rfl, pd, rfl, dD, _, rfl, _, dG, ?_⟩
      rw [hg2]
      have pp := put H7 (.str (toString (g : Int) : String)) (Same.refl _) fun o => el_digits (by omega)
      refine ⟨_, rfl, ?_, _, rfl, _, rfl, pf, _, rfl, pp.1, _, rfl, pp.2⟩
      have : g = 0 ∨ g ≠ 0 := by omega
      by_cases h0 : g = 0
      · subst h0; decide
      · exact (Nat.log2_lt (by omega)).mpr (Nat.lt_of_le_of_lt (show ((g : Nat) : Int).natAbs ≤ 10 by omega) (Nat.lt_of_lt_of_le (show 10 < 2 ^ 4 by decide) (Nat.pow_le_pow_right (by decide) (by decide))))
    refine if_no (decide_eq_false fun z => m5 (by injection z with z; omega)) ⟨_, rfl, rfl, _, rfl, ?_⟩
    by_cases m6 : mn = 5
    · refine if_ya (decide_eq_true (by rw [m6]; rfl)) ⟨_, rfl, _, rfl, kr, _, _, _, rfl, rfl, SqT.of hkr7, rfl, _, rfl, kr, _, _, _, rfl, rfl, SqT.of hkr7, rfl, (by show 2 ≤ sizeLine; decide), fun pk hpk => ?_⟩
      have u8 := Same.upd (o := .tup [V.int kp.2, V.int kp.1]) hpk
      have hsw : SmP (kp.2, kp.1) := ⟨fun z => hkps.1 z.symm, hkps.2.2.2.1, hkps.2.2.2.2, hkps.2.1, hkps.2.2.1⟩
      exact ⟨pf, _, rfl, DPut.t (k := pkey (kp.2, kp.1)) (u8 _ _ hpf7) upd_same (by rw [sizeLine_eq]; omega), _, rfl, fin _ _ u8 ((D0 _).put hsw (el_small (by decide)))⟩
    refine if_no (decide_eq_false fun z => m6 (by injection z with z; omega)) ⟨_, rfl, rfl, _, rfl, ?_⟩
    by_cases m7 : mn = 6
    · refine if_ya (decide_eq_true (by rw [m7]; rfl)) ⟨_, rfl, .inr (.inr (.inl ⟨rfl, .inr ⟨_, hpd7⟩⟩)), pd, _, rfl, rfl, hpd7, .inl ⟨_, rfl⟩, fun vw hvw => ?_⟩
      have u8 := Same.upd (o := vwO pd vw) hvw
      obtain ⟨ns, hn1, hn2⟩ := hT.nums
      refine ⟨vw, pd, due, ps, ns, rfl, upd_same, u8 _ _ hpd7, hk, hn1, by omega, fun ll zs H9 hll hzl hzlen hzz old => ?_⟩
      have hb9 := old _ _ (u8 _ _ hb7)
      have ntb : ∀ {c : Addr} {xs : List V}, H9 c = some (.tup xs) → c ≠ b := fun e z => by rw [z, hb9] at e; cases e
      have nlb : ll ≠ b := fun z => by rw [z, u8 _ _ hb7] at hll; cases hll
      refine q (.ref ll) n7 H9 (.inr (.inr ⟨⟨_, .lst (off_at hzl nlb), by rfl⟩, (gd_lst (n := 2) (w := 700) (off_at hzl nlb) fun y hy => ?_).mono (by decide) (by rw [hzlen]; have := Nat.mul_le_mul_left 701 (show ps.length ≤ 144 by omega); omega)⟩)) hb9 (B7.trans ((But.of u8).trans (But.of old)))
      obtain ⟨Tt, bb, pr, nn, y1, y2, rfl, y4, y5⟩ := hzz y hy
      obtain ⟨_, g2, g3, g4, g5⟩ := hsm pr y1
      have gn := hn2 nn y2
      refine (gd_tup (n := 1) (w := 340) (off_at y4 (ntb y4)) fun z hz => ?_).mono (by decide) (by show 341 * 2 ≤ 700; decide)
      simp only [List.mem_cons, List.not_mem_nil, or_false] at hz
      rcases hz with rfl | rfl
      · refine (gd_tup (n := 0) (w := 150) (off_at y5 (ntb y5)) fun z hz => ?_).mono (by decide) (by show 151 * 2 ≤ 340; decide)
        simp only [List.mem_cons, List.not_mem_nil, or_false] at hz
        rcases hz with rfl | rfl
        · exact gd_int (Nat.lt_of_le_of_lt (show pr.1.natAbs ≤ 100 by omega) (by decide))
        · exact gd_int (Nat.lt_of_le_of_lt (show pr.2.natAbs ≤ 100 by omega) (by decide))
      · exact (gd_int (Nat.lt_of_le_of_lt (show nn.natAbs ≤ 100 by omega) (by decide))).mono (by decide) (by decide)
    refine if_no (decide_eq_false fun z => m7 (by injection z with z; omega)) ⟨_, rfl, rfl, _, rfl, ?_⟩
    by_cases m8 : mn = 7
    · have pp := put H7 x (Same.refl _) fun o => hx.same (B8 H7 o (Same.refl _)).off
      exact if_ya (decide_eq_true (by rw [m8]; rfl)) ⟨_, rfl, _, rfl, _, rfl, pf, _, rfl, pp.1, _, rfl, pp.2⟩
    refine if_no (decide_eq_false fun z => m8 (by injection z with z; omega)) ?_
    refine ⟨_, rfl, pd, due, ps, rfl, hpd7, hk, by omega, fun l8 ys8 qs8 c1 c2 c3 hl8 => ?_⟩
    have u8 := Same.upd (o := .lst ys8) hl8
    have v8 : upd H7 l8 (.lst ys8) l8 = some (.lst ys8) := upd_same
    generalize upd H7 l8 (.lst ys8) = H8 at u8 v8
    refine ⟨_, rfl, l8, ys8, rfl, rfl, SqL.of v8, fun l9 hl9 => ?_⟩
    have u9 := Same.upd (o := .lst ys8.reverse) hl9
    have v9 : upd H8 l9 (.lst ys8.reverse) l9 = some (.lst ys8.reverse) := upd_same
    generalize upd H8 l9 (.lst ys8.reverse) = H9 at u9 v9
    have P9 := (prs_rev c3).same (u8.trans u9)
    have hmem : ∀ p ∈ qs8.reverse, p ∈ ps := fun p hp => c1.mem_iff.mp (List.mem_reverse.mp hp)
    have hrl : qs8.reverse.length = ps.length := by rw [List.length_reverse]; exact c1.length_eq
    generalize ys8.reverse = xs9 at v9 P9
    generalize qs8.reverse = qs9 at P9 hmem hrl
    have hxl := P9.1
    have hpd9 := u9 _ _ (u8 _ _ hpd7)
    have S9 : Same H7 H9 := u8.trans u9
    refine ⟨l9, rfl, ⟨_, SqL.of v9⟩, comp_list (K := K) (a := l9) (xs := xs9) (by rw [sizeLine_eq]; omega) (fun i zs H' => zs.length = i ∧ (∀ j, j < i → ∃ (qa r : Addr) (v : V), zs[j]? = some (.ref qa) ∧ H' qa = some (.tup [.ref r, v]) ∧ H' r = some (.tup [.int (prAt qs9 j).1, .int (prAt qs9 j).2]) ∧ valV due (pkey (prAt qs9 j)) = some v) ∧ Same H9 H') ⟨rfl, fun j hj => absurd hj (Nat.not_lt_zero _), Same.refl _⟩ (fun i zs H' h => SqL.of (h.2.2 _ _ v9)) ?_ ?_⟩
    · rintro i xx zs H10 N hxx hzz ⟨hz1, hz2, s10⟩ hN
      obtain ⟨r, e0, e2⟩ := P9.2 i (by have := (List.getElem?_eq_some_iff.mp hxx).1; omega)
      rw [hxx] at e0
      obtain rfl := Option.some.inj e0
      have hi9 : i < qs9.length := by have := (List.getElem?_eq_some_iff.mp hxx).1; omega
      obtain ⟨gv, _, hgv⟩ := hval _ (hmem _ (prAt_mem54 hi9))
      have hr10 := s10 _ _ e2
      refine yes_ok (iteT ⟨_, rfl, _, rfl, _, rfl, pd, _, rfl, dg_t (k := pkey (prAt qs9 i)) (s10 _ _ hpd9) hr10 hgv, (by show 2 ≤ sizeLine; decide), fun pn hpn => hN _ _ (by rw [List.length_append]; exact Nat.succ_le_succ hzz) ⟨by rw [List.length_append, hz1]; rfl, fun j hj => ?_, s10.trans (Same.upd hpn)⟩⟩)
      by_cases ej : j = i
      · subst ej
        exact ⟨pn, r, _, by rw [List.getElem?_append_right (by omega), hz1, Nat.sub_self]; rfl, upd_same, (Same.upd hpn) _ _ hr10, hgv⟩
      · obtain ⟨qa, r', v', z1, z2, z3, z4⟩ := hz2 j (by omega)
        exact ⟨qa, r', v', by rw [List.getElem?_append_left (by omega)]; exact z1, (Same.upd hpn) _ _ z2, (Same.upd hpn) _ _ z3, z4⟩
    rintro zs H10 hzz ⟨hz1, hz2, s10⟩ pl hpl8
    have u11 := Same.upd (o := .lst zs) hpl8
    refine ⟨pl, zs, (List.range xs9.length).map (fun j => (pkey (prAt qs9 j), (valV due (pkey (prAt qs9 j))).getD .non)), rfl, upd_same, by rw [List.length_map, List.length_range, hz1], by rw [List.length_map, List.length_range]; omega, fun j k v hj => ?_, fun d8 hd8 => ⟨_, rfl, ?_⟩⟩
    · rw [List.getElem?_map] at hj
      by_cases hjl : j < xs9.length
      · rw [List.getElem?_range hjl] at hj
        cases hj
        obtain ⟨qa, r', v', z1, z2, z3, z4⟩ := hz2 j hjl
        refine ⟨qa, r', z1, ?_, u11 _ _ z3⟩
        rw [z4]
        exact u11 _ _ z2
      · rw [List.getElem?_eq_none (by rw [List.length_range]; omega)] at hj
        cases hj
    · have S11 : Same H7 (upd H10 pl (.lst zs)) := S9.trans (s10.trans u11)
      have n8b : d8 ≠ b := (ne_of_none (S11 _ _ hb7) hd8).symm
      refine q (.ref d8) n7 _ (.inl ⟨d8, _, rfl, off_at upd_same n8b, (put_all (n := 0) dtn_nil fun y hy => ?_).dt (by rw [List.length_map, List.length_range]; omega)⟩) ((Same.upd hd8) _ _ (S11 _ _ hb7)) (B7.trans (But.of (S11.trans (Same.upd hd8))))
      obtain ⟨j, hj, rfl⟩ := List.mem_map.mp hy
      have hjl := List.mem_range.mp hj
      have hm9 := hmem _ (prAt_mem54 (ps := qs9) (i := j) (by omega))
      obtain ⟨gv, hg1', hgv⟩ := hval _ hm9
      refine ⟨⟨_, rfl, hsm _ hm9⟩, ?_⟩
      show El K _ ((valV due (pkey (prAt qs9 j))).getD .non)
      rw [hgv]
      exact el_small (by omega)
end
end Mr
namespace Mr
open PySem L2
section
variable {P : Program} {w : World} {K : PySem.W.Frag} {mg : Str → Option Value} {base : Heap}
theorem scLaw : FnScope ["_law_script", "_law_k", "_law_box_here", "_law_row_here", "_law_due", "_law_found", "_law_odd_here", "_law_things", "_law_thing", "_law_kept", "_law_right", "_law_told"] ["_law_script"] (defScope sLaw) := ⟨rfl, rfl, rfl, by decide +kernel, rfl, by decide +kernel, by decide +kernel⟩
set_option maxHeartbeats 8000000 in
theorem ok_law {f : Addr} {fd : FuncData} (F : Fun K "law" "law" sLaw f fd) (d_law_box : Df P w K mg base 2 "_law_box" ["_law_script", "_law_k"] (spBoxI K)) (d_law_row : Df P w K mg base 3 "_law_row" ["_law_box_here", "_law_most"] spRowI) (d_law_table : Df P w K mg base 1 "_law_table" ["_law_row_here"] spLTable) (d_mend_table : Df P w K mg base 4 "mend_table" ["row"] spMendX) (d_law_whole : Df P w K mg base 1 "_law_whole" ["_law_thing"] (spWholeG K)) (d_signs_more : Df P w K mg base 5 "signs_more" ["row"] spMore) (d_is_mend_table : Df P w K mg base 5 "is_mend_table" ["thing", "row"] (spIsMend K)) (d_law_odd : Df P w K mg base 2 "_law_odd" ["_law_box_here"] (spOdd16 K)) (d_law_turned : Df P w K mg base 2 "_law_turned" ["_law_box_here", "_law_due", "_law_odd_here"] (spTurned K)) (z_all : mg "all" = none) (z_bool : mg "bool" = none) (z_dict : mg "dict" = none) (z_isinstance : mg "isinstance" = none) (z_len : mg "len" = none) (z_max : mg "max" = none) (z_min : mg "min" = none) (z_range : mg "range" = none) (z_repr : mg "repr" = none) (z_tuple : mg "tuple" = none) (hsm : ∃ o, base.get? sysModules = some o) : FnOkC P w K mg base CX0 9 f fd ["_law_script"] (spLaw K) := by
  refine F.okC scLaw (fun vs H Q E h => ?_) (fun cdv outer s H vs Q E hr h => ?_)
  · obtain ⟨_, _, rfl, _⟩ := h
    rfl
  · obtain ⟨a, ns, rfl, hS, hlen, q⟩ := h
    refine ⟨_, (@pss_cons _ _ _ _ _ (ps_for PassesOwn.never rfl (pi_range1 rfl z_range (pa_cons (pe_callB (call_max2 rfl) (by rfl) z_max bt_max (pa_cons pe_int (pa_cons (pe_callB (call_min2 rfl) (by rfl) z_min bt_min (pa_cons (pe_callB call_len_seq (by rfl) z_len bt_len (pa_cons (pv 0) pa_nil)) (pa_cons pe_int pa_nil))) pa_nil))) pa_nil)) (pg_name (i := 1) scLaw.nd rfl (Or.inl rfl)) (@pss_cons _ _ _ _ _ (@ps_set _ _ 2 _ _ _ _ scLaw.nd rfl (Or.inr rfl) (pe_df d_law_box hr rfl (pa_cons (pv 0) (pa_cons (pv 1) pa_nil))) rfl (Or.inl rfl))
      (@pss_cons _ _ _ _ _ (@ps_set _ _ 3 _ _ _ _ scLaw.nd rfl (Or.inl rfl) (pe_df d_law_row hr rfl (pa_cons (pv 2) (pa_cons pe_int pa_nil))) rfl (Or.inl rfl))
      (@pss_cons _ _ _ _ _ (@ps_set _ _ 4 _ _ _ _ scLaw.nd rfl (Or.inr rfl) (pe_df d_law_table hr rfl (pa_cons (pv 3) pa_nil)) rfl (Or.inl rfl))
      (@pss_cons _ _ _ _ _ (@ps_set _ _ 5 _ _ _ _ scLaw.nd rfl (Or.inr rfl) (pe_df d_mend_table hr rfl (pa_cons (pv 3) pa_nil)) rfl (Or.inl rfl))
      (@pss_cons _ _ _ _ _ (@ps_if _ _ _ _ _ _ _ _ (PW.pt (pw_or (pt_not (pt_val (pe_callB call_isT (by rfl) z_isinstance bt_isinstance (pa_cons (pv 5) (pa_cons (pe_bltn (v := .ty "dict") (by rfl) z_dict bt_dict rfl) pa_nil))))) (pw_or (pt_cmpR (op_neTT hr.unitsD) (pv 5) (pv 4) (nomark _)) (pw_or1 (pt_not (pt_val (pe_callB (call_allB rfl) (by rfl) z_all bt_all (pa_cons (pe_thawT (pe_comp (ys := ["_law_found"]) (ix := [5]) ⟨rfl, by decide +kernel, rfl, by decide +kernel, rfl, by decide +kernel, ⟨rfl, trivial⟩, rfl, ⟨⟨rfl, rfl, rfl, rfl⟩, trivial⟩⟩ rfl (pi_dictT (pv 5)) (fun C fp s H => pts_nil) (fun C fp s H => (pe_df (X := cmpCx _ _ _ _ C fp s H) d_law_whole hr rfl (pa_cons (pe_dget hr.unitsD (pv 1) (pv 0) (fun _ _ => rfl)) pa_nil))))) pa_nil)))))))) (@pss_one _ _ _ (@ps_ret _ _ _ _ pe_bl)) pss_nil)
      (@pss_cons _ _ _ _ _ (@ps_if _ _ _ _ _ _ _ _ (pt_not (pt_val (pe_callB (call_allB rfl) (by rfl) z_all bt_all (pa_cons (pe_thawT (pe_comp (ys := []) (ix := []) ⟨rfl, by decide +kernel, rfl, by decide +kernel, rfl, by decide +kernel, trivial, rfl, trivial⟩ rfl (pi_dictT (pv 5)) (fun C fp s H => pts_nil) (fun C fp s H => (pe_and (pe_callB (call_isTK (K := K) rfl) (by rfl) z_isinstance bt_isinstance (pa_cons (pv 0) (pa_cons (pe_bltn (v := .ty "tuple") (by rfl) z_tuple bt_tuple rfl) pa_nil))) (pe_and (pe_df (X := cmpCx _ _ _ _ C fp s H) d_law_whole hr rfl (pa_cons (@pe_ix _ _ _ _ _ _ _ (ix_tupK (K := K) rfl) (pv 0) pe_int (fun _ _ => rfl)) pa_nil)) (pe_one (pe_df (X := cmpCx _ _ _ _ C fp s H) d_law_whole hr rfl (pa_cons (@pe_ix _ _ _ _ _ _ _ (ix_tupK (K := K) rfl) (pv 0) pe_int (fun _ _ => rfl)) pa_nil)))))))) pa_nil)))) (@pss_one _ _ _ (@ps_ret _ _ _ _ pe_bl)) pss_nil)
      (@pss_cons _ _ _ _ _ (@ps_if _ _ _ _ _ _ _ _ (PW.pt (pw_or (pt_cmpR op_isnotB (pe_df d_is_mend_table hr rfl (pa_cons (pv 5) (pa_cons (pv 3) pa_nil))) pe_bl (nomark _)) (pw_or1 (pt_cmpR op_ne (pe_df d_signs_more hr rfl (pa_cons (pv 3) pa_nil)) (pe_dget2 hr.unitsD (pv 4) (@pe_tup _ _ _ _ _ (@pa_int _ _ _ _ _ _  (@pa_call _ _ _ _ _ _ _ _  (pe_callB call_len_str (by rfl) z_len bt_len (pa_cons (pv 3) pa_nil)) pa_nil))) pe_int ⟨rfl, rfl, rfl, rfl⟩) (nomark _))))) (@pss_one _ _ _ (@ps_ret _ _ _ _ pe_bl)) pss_nil)
      (@pss_cons _ _ _ _ _ (ps_dput hr.unitsD (pv 5) (@pe_tup _ _ _ _ _ (@pa_int _ _ _ _ _ _  (@pa_int _ _ _ _ _ _  pa_nil))) pe_int rfl)
      (@pss_cons _ _ _ _ _ (@ps_set _ _ 6 _ _ _ _ scLaw.nd rfl (Or.inr rfl) (pe_df d_law_odd hr rfl (pa_cons (pv 2) pa_nil)) rfl (Or.inl rfl))
      (@pss_cons _ _ _ _ _ (@ps_set _ _ 7 _ _ _ _ scLaw.nd rfl (Or.inl rfl) (@pe_lst _ _ _ _ (@pa_name _ _ _ _ _ _  (pv 4) (@pa_name _ _ _ _ _ _  (pv 6) (@pa_dic _ _ _ _ _ _ _  pe_dnewT (@pa_call _ _ _ _ _ _ _ _  (pe_df d_mend_table hr rfl (pa_cons (@pe_op _ _ _ _ _ _ _ _ op_addS (pv 3) pe_str) pa_nil)) (@pa_call _ _ _ _ _ _ _ _  (pe_callTy (call_dictPT rfl hr.units2) (by rfl) z_dict bt_dict (pa_cons (pe_thawT (pe_comp (ys := []) (ix := []) ⟨rfl, by decide +kernel, rfl, by decide +kernel, rfl, by decide +kernel, trivial, rfl, trivial⟩ rfl (pi_dictT (pv 4)) (fun C fp s H => pts_nil) (fun C fp s H => (@pe_tup _ _ _ _ _ (@pa_name _ _ _ _ _ _  (pv 0) (@pa_cmp _ _ _ _ _ _ _ _  (pe_cmpR op_eq pe_int pe_int (nomark _)) pa_nil)))))) pa_nil)) pa_nil)))))) rfl (Or.inl rfl))
      (@pss_one _ _ _ (ps_for PassesOwn.never rfl (pi_list (@pe_op _ _ _ _ _ _ _ _ op_cat (pv 7) (pe_comp (ys := ["_law_box_here", "_law_due", "_law_odd_here"]) (ix := [2, 4, 6]) ⟨rfl, by decide +kernel, rfl, by decide +kernel, rfl, by decide +kernel, ⟨rfl, rfl, rfl, trivial⟩, rfl, ⟨⟨rfl, rfl, rfl, rfl⟩, ⟨rfl, rfl, rfl, rfl⟩, ⟨rfl, rfl, rfl, rfl⟩, trivial⟩⟩ rfl (pi_range1 rfl z_range (pa_cons pe_int pa_nil)) (fun C fp s H => pts_nil) (fun C fp s H => (pe_df (X := cmpCx _ _ _ _ C fp s H) d_law_turned hr rfl (pa_cons (pv 1) (pa_cons (pv 2) (pa_cons (pv 3) pa_nil)))))))) (pg_name (i := 8) scLaw.nd rfl (Or.inr rfl)) (@pss_cons _ _ _ _ _ (@ps_set _ _ 9 _ _ _ _ scLaw.nd rfl (Or.inl rfl) (pe_callB (call_any2 (call_reprT rfl hr.units hsm) (call_reprW rfl hr.units hsm)) (by rfl) z_repr bt_repr (pa_cons (pv 8) pa_nil)) rfl (Or.inl rfl))
      (@pss_cons _ _ _ _ _ (@ps_set _ _ 10 _ _ _ _ scLaw.nd rfl (Or.inl rfl) (pe_and (pe_callB call_isT (by rfl) z_isinstance bt_isinstance (pa_cons (pv 8) (pa_cons (pe_bltn (v := .ty "dict") (by rfl) z_dict bt_dict rfl) pa_nil))) (pe_and (pe_cmpR (op_any2 (op_eqTT hr.unitsD) (op_eqKT hr.unitsD)) (pv 8) (pv 4) (nomark _)) (pe_one (pe_callB (call_allB rfl) (by rfl) z_all bt_all (pa_cons (pe_thawT (pe_comp (ys := ["_law_thing"]) (ix := [8]) ⟨rfl, by decide +kernel, rfl, by decide +kernel, rfl, by decide +kernel, ⟨rfl, trivial⟩, rfl, ⟨⟨rfl, rfl, rfl, rfl⟩, trivial⟩⟩ rfl (pi_dictT (pv 8)) (fun C fp s H => pts_nil) (fun C fp s H => (pe_df (X := cmpCx _ _ _ _ C fp s H) d_law_whole hr rfl (pa_cons (pe_dget hr.unitsD (pv 1) (pv 0) (fun _ _ => rfl)) pa_nil))))) pa_nil))))) rfl (Or.inl rfl))
      (@pss_cons _ _ _ _ _ (@ps_set _ _ 11 _ _ _ _ scLaw.nd rfl (Or.inl rfl) (pe_df d_is_mend_table hr rfl (pa_cons (pv 8) (pa_cons (pv 3) pa_nil))) rfl (Or.inl rfl))
      (@pss_one _ _ _ (@ps_if _ _ _ _ _ _ _ _ (PW.pt (pw_or (pt_not (pt_val (pe_callB call_isT (by rfl) z_isinstance bt_isinstance (pa_cons (pv 11) (pa_cons (pe_bltn (v := .ty "bool") (by rfl) z_bool bt_bool rfl) pa_nil))))) (pw_or (pt_cmpR op_ne (pv 11) (pv 10) (nomark _)) (pw_or1 (pt_cmpR op_ne (pe_callB (call_any2 (call_reprT rfl hr.units hsm) (call_reprW rfl hr.units hsm)) (by rfl) z_repr bt_repr (pa_cons (pv 8) pa_nil)) (pv 9) (nomark _)))))) (@pss_one _ _ _ (@ps_ret _ _ _ _ pe_bl)) pss_nil))))))))))))))))))
      (@pss_one _ _ _ (@ps_ret _ _ _ _ pe_bl))), ?_⟩
    refine ⟨_, rfl, a, _, rfl, .inl hS, _, _, rfl, _, _, rfl, _, rfl, ?_, ?_, ?_⟩
    · split <;> split <;> omega
    · split <;> split <;> omega
    refine for_range (fun i σ H' => ∃ (v1 v2 v3 v4 v5 v6 v7 v8 v9 v10 v11 : Option V), σ = [some (.ref a), v1, v2, v3, v4, v5, v6, v7, v8, v9, v10, v11] ∧ Same H H') ⟨none, none, none, none, none, none, none, none, none, none, none, rfl, Same.refl _⟩ ?_ ?_
    rotate_left
    · rintro σ H' ⟨v1, v2, v3, v4, v5, v6, v7, v8, v9, v10, v11, rfl, s0⟩
      exact q H'
    rintro i σ H0 hi ⟨v1, v2, v3, v4, v5, v6, v7, v8, v9, v10, v11, rfl, s0⟩
    refine ⟨_, rfl, _, rfl, a, ns, _, rfl, s0.seq hS, by omega, fun b n H1 hfr hb s1 => ?_⟩
    have fr : H b = none := s0.free hfr
    refine ⟨_, rfl, b, n, 10, rfl, hb, by decide, by decide, fun m n2 H2 hA hml hb2 k2 => ?_⟩
    have hrow : rowL m = true := rowL_iff.mpr ⟨by omega, hA.lets⟩
    have hlm : m.length ≤ 200 := (rowL_iff.mp hrow).1
    have hz : m.length ≤ sizeLine := by rw [sizeLine_eq]; omega
    have SH2 : Same H H2 := same_but (s0.trans s1) fr k2
    refine ⟨_, rfl, m, rfl, by omega, fun pd due H3 hfd hpd hTd s3 => ?_⟩
    refine ⟨_, rfl, m, rfl, hrow, by omega, fun pf fnd H4 hff hpf hTf s4 => ?_⟩
    have hpd4 := s4 _ _ hpd
    have hml' : m.length ≤ 10 := by omega
    have vsT : ∀ {l : List Nat} {kv : List (List Key × V)} {Hx : Hp}, TabX l kv → l.length ≤ 11 → ∀ x ∈ kv, Vs Hx x.2 := fun h hl x hx => ((h.dt (K := K) hl).2.2 x hx).vs
    have hR := mt_right (kvs := fnd) hTd
    have hMf : MT due fnd := mt_self hTd hTf
    have hfewF := hTf.few (by omega)
    have hfewD := hTd.few (by omega)
    refine ⟨_, rfl, _, "dict", _, true, rfl, .dT hpf, by rfl, _, rfl, iteF ⟨_, rfl, _, rfl, pf, pd, fnd, due, rfl, rfl, hpf, hpd4, vsT hTf (by omega), hTd.ints, _, rfl, if_no (by show (!eqTT fnd due) = false; rw [(hR.mpr hMf).1]; rfl) ?_⟩⟩
    have H0f : ∀ ob v, H pf ≠ some (.frz ob v) := fun ob v z => by
      have := s3 _ _ ((SH2) _ _ z)
      rw [hff] at this
      cases this
    have H0d : ∀ ob v, H pd ≠ some (.frz ob v) := fun ob v z => by
      have := (SH2) _ _ z
      rw [hfd] at this
      cases this
    refine ⟨_, rfl, pf, fnd, rfl, hpf, fun o => comp_dictT (d := pf) (o := o) (kvs := fnd) (by rw [sizeLine_eq]; omega) (fun i ys H' => ys = (List.replicate i true).map V.bl ∧ Same (upd H4 pf (.frz o (.dT fnd))) H') ⟨rfl, Same.refl _⟩ (fun i ys H' h => h.2 _ _ upd_same) ?_ ?_⟩
    · rintro j kv bb ys H5 N hk hbk hy ⟨rfl, s5⟩ hN
      obtain ⟨u, v, z1, z2, z3, z4⟩ := hTf.at (k := kv.1) (v := kv.2) (List.mem_of_getElem? hk)
      have hv := hTf.get z1 z2
      rw [← z3] at hv
      exact yes_ok (iteT ⟨_, rfl, _, rfl, pf, _, rfl, dget_frz (s5 _ _ upd_same) hbk hv, _, rfl, .inl trivial, hN _ _ (by rw [List.length_append]; exact Nat.succ_le_succ hy) ⟨rep_bl.symm, s5⟩⟩)
    rintro ys H5 hy ⟨rfl, s5⟩ pl5 hpl5
    have S5 : Same H4 (upd (upd H5 pl5 (.lst ((List.replicate fnd.length true).map V.bl))) pf (.dT fnd)) := thaw_same hpf (s5.trans (Same.upd hpl5))
    refine ⟨pf, o, .dT fnd, (Same.upd hpl5) _ _ (s5 _ _ upd_same), (fun x z => by cases z), H0f, pl5, _, rfl, SqL.of (by rw [upd_ne (ne_of_none (s5 _ _ upd_same) hpl5).symm]; exact upd_same), ?_⟩
    rw [rep_all]
    have hpf5 : upd (upd H5 pl5 (.lst ((List.replicate fnd.length true).map V.bl))) pf (.dT fnd) pf = some (.dT fnd) := upd_same
    generalize upd (upd H5 pl5 (.lst ((List.replicate fnd.length true).map V.bl))) pf (.dT fnd) = H6 at S5 hpf5
    clear s5 hpl5
    refine ⟨_, rfl, iteF ?_⟩
    refine ⟨_, rfl, pf, fnd, rfl, hpf5, fun o => comp_dictT (d := pf) (o := o) (kvs := fnd) (by rw [sizeLine_eq]; omega) (fun i ys H' => ys = (List.replicate i true).map V.bl ∧ Same (upd H6 pf (.frz o (.dT fnd))) H') ⟨rfl, Same.refl _⟩ (fun i ys H' h => h.2 _ _ upd_same) ?_ ?_⟩
    · rintro j kv bb ys H7 N hk hbk hy ⟨rfl, s7⟩ hN
      obtain ⟨u, v, z1, z2, z3, z4⟩ := hTf.at (k := kv.1) (v := kv.2) (List.mem_of_getElem? hk)
      rw [z3] at hbk
      have hbk : H7 bb = some (.tup [.int (u : Int), .int (v : Int)]) := hbk
      exact yes_ok (iteT ⟨_, rfl, _, "tuple", _, true, rfl, .tup hbk, by rfl, _, rfl, iteT ⟨_, rfl, bb, _, _, _, rfl, rfl, SqT.of hbk, rfl, _, rfl, .inl trivial, _, rfl, iteT ⟨_, rfl, bb, _, _, _, rfl, rfl, SqT.of hbk, rfl, _, rfl, .inl trivial, hN _ _ (by rw [List.length_append]; exact Nat.succ_le_succ hy) ⟨rep_bl.symm, s7⟩⟩⟩⟩)
    rintro ys H7 hy ⟨rfl, s7⟩ pl7 hpl7
    have S7 : Same H6 (upd (upd H7 pl7 (.lst ((List.replicate fnd.length true).map V.bl))) pf (.dT fnd)) := thaw_same hpf5 (s7.trans (Same.upd hpl7))
    refine ⟨pf, o, .dT fnd, (Same.upd hpl7) _ _ (s7 _ _ upd_same), (fun x z => by cases z), H0f, pl7, _, rfl, SqL.of (by rw [upd_ne (ne_of_none (s7 _ _ upd_same) hpl7).symm]; exact upd_same), ?_⟩
    rw [rep_all]
    generalize upd (upd H7 pl7 (.lst ((List.replicate fnd.length true).map V.bl))) pf (.dT fnd) = H8 at S7
    clear s7 hpl7
    refine ⟨_, rfl, iteF ?_⟩
    have hpf8 := S7 _ _ hpf5
    refine ⟨_, rfl, _, rfl, .ref pf, m, rfl, hrow, by omega, .inl ⟨pf, fnd, rfl, hpf8, hTf.dt (by omega), fun r9 H9 hr9 s9 => ?_⟩⟩
    rw [(hr9 due hTd).mpr hMf]
    refine ⟨_, _, rfl, rfl, _, rfl, iteF ?_⟩
    refine ⟨_, rfl, m, rfl, hrow, by omega, fun H10 s10 => ?_⟩
    have S10 : Same H4 H10 := S5.trans (S7.trans (s9.trans s10))
    have hpd10 := S10 _ _ hpd4
    refine ⟨_, rfl, pd, rfl, .inr ⟨_, .inl hpd10⟩, _, rfl, tx m, rfl, (by rw [tx_len]; exact hz), (by show 2 ≤ sizeLine; decide), fun pk hpk => ⟨_, DGet.t (k := ky 0 m.length) ((Same.upd hpk) _ _ hpd10) (by rw [upd_same, tx_len]; rfl), ?_⟩⟩
    have hgv : (valV due (ky 0 m.length)).getD (.int 0) = .int ((mendL m m.length 0 : Nat) : Int) := by
      by_cases h0 : m.length = 0
      · have hd0 : valV due (ky 0 m.length) = none := by rw [hTd.1 0 m.length, if_neg (by omega)]
        rw [hd0, h0]
        rfl
      · rw [hTd.get (by omega) (Nat.le_refl _)]
        rfl
    rw [hgv]
    refine ⟨rfl, _, rfl, if_no (by show (!decide (V.int ((mendL m m.length 0 : Nat) : Int) = V.int ((mendL m m.length 0 : Nat) : Int))) = false; rw [decide_eq_true rfl]; rfl) ?_⟩
    have u11 := Same.upd (o := .tup [V.int 0, V.int ((tx m).length : Nat)]) hpk
    have S11 : Same H4 (upd H10 pk (.tup [V.int 0, V.int ((tx m).length : Nat)])) := S10.trans u11
    generalize upd H10 pk (.tup [V.int 0, V.int ((tx m).length : Nat)]) = H11 at u11 S11
    have hpf11 := S11 _ _ hpf
    refine ⟨_, rfl, (by show 2 ≤ sizeLine; decide), fun pk2 hpk2 => ?_⟩
    have u12 := Same.upd (o := .tup [V.int 0, V.int 1]) hpk2
    have hb4 := s4 _ _ (s3 _ _ hb2)
    have nfd : pd ≠ pf := fun z => by rw [z, hff] at hpd; cases hpd
    have nfb : pf ≠ b := fun z => by rw [z, s3 _ _ hb2] at hff; cases hff
    refine ⟨pf, _, rfl, DPut.t (k := pkey (0, 1)) (u12 _ _ hpf11) upd_same (by rw [sizeLine_eq]; omega), ?_⟩
    have hb13 : upd (upd H11 pk2 (.tup [V.int 0, V.int 1])) pf (.dT (putK fnd (pkey (0, 1)) (.int 7))) b = some (.lst [.int n2]) := by rw [upd_ne (Ne.symm nfb)]; exact u12 _ _ (S11 _ _ hb4)
    have hpd13 : upd (upd H11 pk2 (.tup [V.int 0, V.int 1])) pf (.dT (putK fnd (pkey (0, 1)) (.int 7))) pd = some (.dT due) := by rw [upd_ne nfd]; exact u12 _ _ (S11 _ _ hpd4)
    have S13 : Same H (upd (upd H11 pk2 (.tup [V.int 0, V.int 1])) pf (.dT (putK fnd (pkey (0, 1)) (.int 7)))) := fun c u hc => by
      rw [upd_ne (fun z => by rw [z] at hc; rw [s3 _ _ (SH2 _ _ hc)] at hff; cases hff)]
      exact u12 _ _ (S11 _ _ (s4 _ _ (s3 _ _ (SH2 _ _ hc))))
    generalize upd (upd H11 pk2 (.tup [V.int 0, V.int 1])) pf (.dT (putK fnd (pkey (0, 1)) (.int 7))) = H13 at hb13 hpd13 S13
    clear u12 hpk2 u11 S11 hpf11 S10 hpd10 s9 s10 S7 hpf8 S5 hpf5
    refine ⟨_, rfl, b, n2, rfl, hb13, fun x n14 H14 hxE hxT hb14 k14 => ?_⟩
    have npb : pd ≠ b := fun z => by rw [z, hb13] at hpd13; cases hpd13
    have hpd14 := k14 _ _ hpd13 npb
    have S14 : Same H H14 := same_but S13 fr k14
    refine ⟨_, rfl, _, rfl, fun pe hpe => ?_⟩
    have ue := Same.upd (o := .dT []) hpe
    have ve : upd H14 pe (.dT []) pe = some (.dT []) := upd_same
    have S15 := S14.trans ue
    generalize upd H14 pe (.dT []) = H15 at ue ve S15
    have hn97 : (m ++ [97]).length = m.length + 1 := by rw [List.length_append]; rfl
    have hA97 : Abcz (m ++ [97]) := hA.app fun c h => .inl (List.mem_singleton.mp h)
    refine ⟨_, rfl, m, [97], rfl, congrArg V.str e_a, (by rw [sizeLine_eq]; show m.length + 1 ≤ _; omega), m ++ [97], rfl, rowL_iff.mpr ⟨by omega, hA97.lets⟩, by omega, fun pm mk H16 hfm hpm hTm s16 => ?_⟩
    have S16 := S15.trans s16
    have u16 := ue.trans s16
    have hpd16 := u16 _ _ hpd14
    refine ⟨_, rfl, pd, due, rfl, hpd16, fun o => comp_dictT (d := pd) (o := o) (kvs := due) (by rw [sizeLine_eq]; omega) (fun i zs H' => zs.length = i ∧ (∀ j kv, j < i → due[j]? = some kv → ∃ (qa r : Addr), zs[j]? = some (.ref qa) ∧ H' qa = some (.tup [.ref r, .bl false]) ∧ H' r = some (.tup (kv.1.map kV))) ∧ Same (upd H16 pd (.frz o (.dT due))) H') ⟨rfl, fun j kv hj => absurd hj (Nat.not_lt_zero _), Same.refl _⟩ (fun i ys H' h => h.2.2 _ _ upd_same) ?_ ?_⟩
    · rintro j kv bb zs H17 N hk hbk hy ⟨hz1, hz2, s17⟩ hN
      refine yes_ok (iteT ⟨_, rfl, rfl, (by show 2 ≤ sizeLine; decide), fun pn hpn => hN _ _ (by rw [List.length_append]; exact Nat.succ_le_succ hy) ⟨by rw [List.length_append, hz1]; rfl, fun i kw hi hki => ?_, s17.trans (Same.upd hpn)⟩⟩)
      by_cases ei : i = j
      · subst ei
        rw [hk] at hki
        cases hki
        exact ⟨pn, bb, by rw [List.getElem?_append_right (by omega), hz1, Nat.sub_self]; rfl, upd_same, (Same.upd hpn) _ _ hbk⟩
      · obtain ⟨qa, r', z1, z2, z3⟩ := hz2 i kw (by omega) hki
        exact ⟨qa, r', by rw [List.getElem?_append_left (by omega)]; exact z1, (Same.upd hpn) _ _ z2, (Same.upd hpn) _ _ z3⟩
    rintro zs H17 hzz ⟨hz1, hz2, s17⟩ pl hpl
    have u17 := Same.upd (o := .lst zs) hpl
    have hfz : upd H17 pl (.lst zs) pd = some (.frz o (.dT due)) := u17 _ _ (s17 _ _ upd_same)
    have vl17 : upd H17 pl (.lst zs) pl = some (.lst zs) := upd_same
    have npl : pl ≠ pd := (ne_of_none (s17 _ _ upd_same) hpl).symm
    have ntp : ∀ {c : Addr} {xs : List V}, H17 c = some (.tup xs) → upd (upd H17 pl (.lst zs)) pd (.dT due) c = some (.tup xs) := fun {c xs} e => by
      have e2 := u17 _ _ e
      rw [upd_ne (fun z => by rw [z, hfz] at e2; cases e2)]
      exact e2
    have S18 : Same H16 (upd (upd H17 pl (.lst zs)) pd (.dT due)) := thaw_same hpd16 (s17.trans u17)
    refine ⟨pd, o, .dT due, hfz, (fun x z => by cases z), H0d, pl, zs, due.map (fun kv => (kv.1, V.bl false)), rfl, by rw [upd_ne npl]; exact upd_same, by rw [List.length_map, hz1], by rw [List.length_map]; omega, fun j k v hj => ?_, fun d8 hd8 => ?_⟩
    · rw [List.getElem?_map] at hj
      obtain ⟨kv, hkv, hj⟩ := Option.map_eq_some_iff.mp hj
      cases hj
      obtain ⟨qa, r', z1, z2, z3⟩ := hz2 j kv (List.getElem?_eq_some_iff.mp hkv).1 hkv
      exact ⟨qa, r', z1, ntp z2, ntp z3⟩
    have u18 := Same.upd (o := .dT (putAllT [] (due.map (fun kv => (kv.1, V.bl false))))) hd8
    have v18 : upd (upd (upd H17 pl (.lst zs)) pd (.dT due)) d8 (.dT (putAllT [] (due.map (fun kv => (kv.1, V.bl false))))) d8 = some (.dT (putAllT [] (due.map (fun kv => (kv.1, V.bl false))))) := upd_same
    have S19 := S18.trans u18
    generalize upd (upd (upd H17 pl (.lst zs)) pd (.dT due)) d8 (.dT (putAllT [] (due.map (fun kv => (kv.1, V.bl false))))) = H19 at S19 v18
    clear ntp S18 u18 vl17 hfz u17 hpl hz2 hd8 npl s17
    refine ⟨(by show 5 ≤ sizeLine; decide), fun pt hpt => ?_⟩
    have u20 := Same.upd (o := .lst [V.ref pd, x, V.ref pe, V.ref pm, V.ref d8]) hpt
    have v20 : upd H19 pt (.lst [V.ref pd, x, V.ref pe, V.ref pm, V.ref d8]) pt = some (.lst [V.ref pd, x, V.ref pe, V.ref pm, V.ref d8]) := upd_same
    have S20 : Same H16 (upd H19 pt (.lst [V.ref pd, x, V.ref pe, V.ref pm, V.ref d8])) := S19.trans u20
    have vd20 := u20 _ _ v18
    generalize upd H19 pt (.lst [V.ref pd, x, V.ref pe, V.ref pm, V.ref d8]) = H20 at u20 v20 S20 vd20
    have SS20 : Same H H20 := S16.trans S20
    have uu20 : Same H14 H20 := u16.trans S20
    have hpd20 := uu20 _ _ hpd14
    have hb20 := uu20 _ _ hb14
    have all20 : ∀ y ∈ [V.ref pd, x, V.ref pe, V.ref pm, V.ref d8], T54 K (off b H20) y := fun y hy => by
      have nb : ∀ {c : Addr} {kv : List (List Key × V)}, H20 c = some (.dT kv) → c ≠ b := fun e z => by rw [z, hb20] at e; cases e
      simp only [List.mem_cons, List.not_mem_nil, or_false] at hy
      rcases hy with rfl | rfl | rfl | rfl | rfl
      · exact .inl ⟨pd, due, rfl, off_at hpd20 npb, hTd.dt (by omega)⟩
      · exact (hxE.same (But.of uu20).off).t54
      · have e := S20 _ _ (s16 _ _ ve)
        exact .inl ⟨_, _, rfl, off_at e (nb e), dtn_nil.dt (by decide)⟩
      · have e := S20 _ _ hpm
        exact .inl ⟨_, _, rfl, off_at e (nb e), hTm.dt (by omega)⟩
      · refine .inl ⟨_, _, rfl, off_at vd20 (nb vd20), (put_all (n := 0) dtn_nil fun y hy => ?_).dt (by rw [List.length_map]; omega)⟩
        obtain ⟨kv, hkv, rfl⟩ := List.mem_map.mp hy
        obtain ⟨u, v, z1, z2, z3, z4⟩ := hTd.at (k := kv.1) (v := kv.2) hkv
        refine ⟨⟨((u : Int), (v : Int)), z3, ?_⟩, el_bl _⟩
        show (u : Int) ≠ (v : Int) ∧ 0 ≤ (u : Int) ∧ (u : Int) ≤ 100 ∧ 0 ≤ (v : Int) ∧ (v : Int) ≤ 100
        omega
    have hl20 : [V.ref pd, x, V.ref pe, V.ref pm, V.ref d8].length = 5 := rfl
    generalize [V.ref pd, x, V.ref pe, V.ref pm, V.ref d8] = ts at v20 all20 hl20
    have npt : pt ≠ b := fun z => by rw [z, hb20] at v20; cases v20; exact absurd hl20 (by show ¬ 1 = 5; decide)
    have hx20 := hxE.same (But.of uu20).off
    clear S19 u20 vd20 uu20 u16 S16 S20 hpt s16 hpm hfm
    refine ⟨_, rfl, 4, rfl, by decide, by decide, comp_range (n := 4) (by rw [sizeLine_eq]; omega) (fun i ys H' => (∀ y ∈ ys, T54 K (off b H') y) ∧ (∃ n', H' b = some (.lst [.int n'])) ∧ But b H20 H') ⟨fun y hy => (by cases hy), ⟨_, hb20⟩, But.refl⟩ ?_ ?_⟩
    · rintro j ys H21 N hj hy ⟨hys, ⟨n', hb21⟩, k21⟩ hN
      refine yes_ok (iteT ⟨_, rfl, _, rfl, _, rfl, b, pd, x, n', m, due, rfl, hb21, k21 _ _ hpd20 npb, hTd, hml', hx20.same k21.off, fun y n'' H22 hy22 hb22 k22 => hN _ _ (by rw [List.length_append]; exact Nat.succ_le_succ hy) ⟨fun z hz => ?_, ⟨_, hb22⟩, k21.trans k22⟩⟩)
      rcases List.mem_append.mp hz with hz | hz
      · exact (hys z hz).same k22.off
      · rw [List.mem_singleton.mp hz]
        exact hy22
    rintro ys H21 hy ⟨hys, ⟨n', hb21⟩, k21⟩ p2 hp2
    have u22 := Same.upd (o := .lst ys) hp2
    have v22 : upd H21 p2 (.lst ys) p2 = some (.lst ys) := upd_same
    have k22 := k21.trans (But.of u22)
    have hys22 : ∀ y ∈ ys, T54 K (off b (upd H21 p2 (.lst ys))) y := fun y h => (hys y h).same (But.of u22).off
    have hb22 := u22 _ _ hb21
    generalize upd H21 p2 (.lst ys) = H22 at u22 v22 k22 hys22 hb22
    refine ⟨pt, p2, ts, ys, rfl, rfl, k22 _ _ v20 npt, v22, (by rw [sizeLine_eq]; omega), fun p3 hp3 => ?_⟩
    have u23 := Same.upd (o := .lst (ts ++ ys)) hp3
    have v23 : upd H22 p3 (.lst (ts ++ ys)) p3 = some (.lst (ts ++ ys)) := upd_same
    have k23 := k22.trans (But.of u23)
    have all23 : ∀ y ∈ ts ++ ys, T54 K (upd H22 p3 (.lst (ts ++ ys))) y := fun y h => by
      refine T54.same (off_in (b := b)) ?_
      rcases List.mem_append.mp h with h | h
      · exact (all20 y h).same k23.off
      · exact (hys22 y h).same (But.of u23).off
    have hpd23 := k23 _ _ hpd20 npb
    have S23 : Same H (upd H22 p3 (.lst (ts ++ ys))) := same_but SS20 fr k23
    generalize upd H22 p3 (.lst (ts ++ ys)) = H23 at v23 all23 hpd23 S23
    generalize ts ++ ys = tt at v23 all23
    clear hys22 all20 hys u22 u23 k21 k22 k23 hp2 hp3
    refine ⟨p3, rfl, ⟨_, SqL.of v23⟩, for_list (K := K) (a := p3) (xs := tt) (fun j σ H' => ∃ (w8 w9 w10 w11 : Option V), σ = [some (V.ref a), some (V.int (0 + (i : Int))), some (V.ref b), some (V.str (tx m)), some (V.ref pd), some (V.ref pf), some x, some (V.ref pt), w8, w9, w10, w11] ∧ Same H23 H') ⟨_, _, _, _, rfl, Same.refl _⟩ (fun j σ H' _ ⟨_, _, _, _, _, s⟩ => SqL.of (s _ _ v23)) ?_ ?_⟩
    rotate_left
    · rintro σ H24 ⟨_, _, _, _, rfl, s24⟩
      exact ⟨_, _, _, _, _, _, _, _, _, _, _, rfl, S23.trans s24⟩
    rintro j y σ H24 hy ⟨_, _, _, _, rfl, s24⟩
    have hT := (all23 y (List.mem_of_getElem? hy)).same s24
    have hpd24 := s24 _ _ hpd23
    have S24 := S23.trans s24
    have nn : ∀ v : V, (!decide (v = v)) = false := fun v => by rw [decide_eq_true rfl]; rfl
    rcases hT with ⟨p, kvs, rfl, hp, hD⟩ | ⟨p, z, i0, rfl, hp, hG⟩ | ⟨⟨t, ty, hk⟩, hG⟩
    rotate_left
    · obtain ⟨dd, hrd, hs2⟩ := hG
      refine ⟨_, rfl, .inr ⟨.ref p, dd, rfl, hrd, hs2.1, Nat.le_trans hs2.2.1 (by decide), hs2.size (by decide), ?_⟩⟩
      refine ⟨_, rfl, _, "dict", _, true, rfl, .dK hp, by rfl, _, rfl, iteT ⟨_, rfl, _, rfl, .inr ⟨p, pd, z, _, due, rfl, rfl, hp, hpd24, _, rfl, iteF ?_⟩⟩⟩
      refine ⟨_, rfl, _, rfl, .ref p, m, rfl, hrow, by omega, .inr (.inl ⟨p, z, i0, rfl, hp, fun H25 s25 => ?_⟩)⟩
      refine ⟨_, rfl, _, "bool", _, true, rfl, .bl _, by rfl, _, rfl, iteF ⟨_, rfl, _, rfl, rfl, _, rfl, if_no (nn _) ?_⟩⟩
      exact ⟨_, rfl, .inr ⟨.ref p, dd, rfl, hrd.mono s25, hs2.1, Nat.le_trans hs2.2.1 (by decide), hs2.size (by decide), _, rfl, rfl, _, rfl, if_no (nn _) ⟨_, _, _, _, rfl, s24.trans s25⟩⟩⟩
    · obtain ⟨dd, hrd, hs2⟩ := hG
      refine ⟨_, rfl, .inr ⟨y, dd, rfl, hrd, hs2.1, Nat.le_trans hs2.2.1 (by decide), hs2.size (by decide), ?_⟩⟩
      refine ⟨_, rfl, _, "dict", _, false, rfl, ty, hk, _, rfl, iteF ?_⟩
      refine ⟨_, rfl, _, rfl, y, m, rfl, hrow, by omega, .inr (.inr ⟨⟨t, ty, hk⟩, fun H25 s25 => ?_⟩)⟩
      refine ⟨_, rfl, _, "bool", _, true, rfl, .bl _, by rfl, _, rfl, iteF ⟨_, rfl, _, rfl, rfl, _, rfl, if_no (nn _) ?_⟩⟩
      exact ⟨_, rfl, .inr ⟨y, dd, rfl, hrd.mono s25, hs2.1, Nat.le_trans hs2.2.1 (by decide), hs2.size (by decide), _, rfl, rfl, _, rfl, if_no (nn _) ⟨_, _, _, _, rfl, s24.trans s25⟩⟩⟩
    obtain ⟨kds, hrd, h1, h2, h3⟩ := hD.shown
    have hR := mt_right (kvs := kvs) hTd
    have H0p : ∀ ob v, H p ≠ some (.frz ob v) := fun ob v z => by have := S24 _ _ z; rw [hp] at this; cases this
    refine ⟨_, rfl, .inl ⟨p, kvs, kds, rfl, hp, hrd, h1, h2, h3, ?_⟩⟩
    refine ⟨_, rfl, _, "dict", _, true, rfl, .dT hp, by rfl, _, rfl, iteT ⟨_, rfl, _, rfl, .inl ⟨p, pd, kvs, due, rfl, rfl, hp, hpd24, fun kv hkv => (hD.2.2 kv hkv).vs, hTd.ints, _, rfl, ?_⟩⟩⟩
    by_cases c : eqTT kvs due = true
    rotate_left
    · have c := Bool.eq_false_iff.mpr c
      have hrr : false = true ↔ MT due kvs := ⟨fun z => (by cases z), fun z => (by rw [(hR.mpr z).1] at c; cases c)⟩
      refine if_no c ?_
      refine ⟨_, rfl, _, rfl, .ref p, m, rfl, hrow, by omega, .inl ⟨p, kvs, rfl, hp, hD, fun r' H26 hr26 s26 => ?_⟩⟩
      obtain e : r' = false := Bool.eq_iff_iff.mpr ((hr26 due hTd).trans hrr.symm)
      subst e
      refine ⟨_, rfl, _, "bool", _, true, rfl, .bl _, by rfl, _, rfl, iteF ⟨_, rfl, _, rfl, rfl, _, rfl, if_no (nn _) ?_⟩⟩
      exact ⟨_, rfl, .inl ⟨p, kvs, kds, rfl, s26 _ _ (hp), hrd.mono (s26), h1, h2, h3, _, rfl, rfl, _, rfl, if_no (nn _) ⟨_, _, _, _, rfl, s24.trans (s26)⟩⟩⟩
    refine if_ya c ?_
    obtain ⟨hfew, ⟨ps, hps, hnd, hpp⟩, hel⟩ := id hD
    have hkn : (kvs.map (·.1)).Nodup := by
      rw [hps]
      exact List.pairwise_map.mpr (hnd.imp fun h z => h (pkey_inj z))
    refine ⟨_, rfl, p, kvs, rfl, hp, fun o => comp_dictT (d := p) (o := o) (kvs := kvs) (by rw [sizeLine_eq]; omega) (fun i ys H' => ys = ((kvs.take i).map fun kv => wholeV kv.2).map V.bl ∧ Same (upd H24 p (.frz o (.dT kvs))) H') ⟨rfl, Same.refl _⟩ (fun i ys H' h => h.2 _ _ upd_same) ?_ ?_⟩
    · rintro j kv bb ys H25 N hk hbk hy ⟨rfl, s25⟩ hN
      have hkm := List.mem_of_getElem? hk
      have hkd : Scal kv.2 ∨ NoInt K H25 kv.2 := (hel kv hkm).kind fun b u hu hb => s25 _ _ (by
        rw [upd_ne (fun z => by rw [z, hp] at hb; cases hb; exact hu _ rfl)]
        exact hb)
      exact yes_ok (iteT ⟨_, rfl, _, rfl, p, _, rfl, dget_frz (s25 _ _ upd_same) hbk (valV_of hkn hkm), _, rfl, hkd, hN _ _ (by rw [List.length_append]; exact Nat.succ_le_succ hy) ⟨by rw [List.take_succ, hk, List.map_append, List.map_append]; rfl, s25⟩⟩)
    · rintro ys H25 hy ⟨rfl, s25⟩ pl hpl
      rw [List.take_length]
      have e : (kvs.take kvs.length) = kvs := List.take_length
      have SC : Same H24 (upd (upd H25 pl (.lst ((kvs.map fun kv => wholeV kv.2).map V.bl))) p (.dT kvs)) := thaw_same hp (s25.trans (Same.upd hpl))
      refine ⟨p, o, .dT kvs, (Same.upd hpl) _ _ (s25 _ _ upd_same), (fun x z => by cases z), H0p, pl, _, rfl, SqL.of (by rw [upd_ne (ne_of_none (s25 _ _ upd_same) hpl).symm]; exact upd_same), ?_⟩
      have hrr : (kvs.map fun kv => wholeV kv.2).all id = true ↔ MT due kvs := by
        rw [← hR, List.all_map, List.all_eq_true]
        exact ⟨fun h => ⟨c, h⟩, fun h => h.2⟩
      have hpC : upd (upd H25 pl (.lst ((kvs.map fun kv => wholeV kv.2).map V.bl))) p (.dT kvs) p = some (.dT kvs) := upd_same
      generalize upd (upd H25 pl (.lst ((kvs.map fun kv => wholeV kv.2).map V.bl))) p (.dT kvs) = HC at SC hpC
      generalize (kvs.map fun kv => wholeV kv.2).all id = rr at hrr
      refine ⟨_, rfl, _, rfl, .ref p, m, rfl, hrow, by omega, .inl ⟨p, kvs, rfl, hpC, hD.same SC, fun r' H26 hr26 s26 => ?_⟩⟩
      obtain e : r' = rr := Bool.eq_iff_iff.mpr ((hr26 due hTd).trans hrr.symm)
      subst e
      refine ⟨_, rfl, _, "bool", _, true, rfl, .bl _, by rfl, _, rfl, iteF ⟨_, rfl, _, rfl, rfl, _, rfl, if_no (nn _) ?_⟩⟩
      exact ⟨_, rfl, .inl ⟨p, kvs, kds, rfl, s26 _ _ (hpC), hrd.mono (SC.trans s26), h1, h2, h3, _, rfl, rfl, _, rfl, if_no (nn _) ⟨_, _, _, _, rfl, s24.trans (SC.trans s26)⟩⟩⟩
end
end Mr
namespace PySem.W.Fast
def tw17018606042759522362 : Unit := ()
def tw4239930297803138311 : Unit := ()
def tw1955072862341012292 : Unit := ()
def tw14100513373569324114 : Unit := ()
def tw17109507157983989395 : Unit := ()
def tw6693696619225019737 : Unit := ()
def tw4835367882696382786 : Unit := ()
def tw16726189290460365628 : Unit := ()
def tw13885977739366656415 : Unit := ()
def tw13839715584351501901 : Unit := ()
def tw9758580313729744758 : Unit := ()
def tw18064581256847707323 : Unit := ()
def tw8579520412930559579 : Unit := ()
def tw15129883744580526614 : Unit := ()
def tw16064681854427102051 : Unit := ()
def tw17815638489682213543 : Unit := ()
def tw15204586292088839209 : Unit := ()
def tw8824498122427974825 : Unit := ()
def tw1863227333609501340 : Unit := ()
def tw6448978895087673252 : Unit := ()
def tw2587167024574443871 : Unit := ()
def tw6017027780845881746 : Unit := ()
def tw5260763249447348042 : Unit := ()
def tw2486253674820434484 : Unit := ()
def tw5351855238824927915 : Unit := ()
def tw6280460081488863423 : Unit := ()
def tw10898761598994591601 : Unit := ()
def tw16312532087961137669 : Unit := ()
def tw15850655666593444969 : Unit := ()
def tw12430115666745808449 : Unit := ()
def tw2767135181754267595 : Unit := ()
def tw6574419548001059002 : Unit := ()
def tw2159576486902132912 : Unit := ()
def tw5327541929280365868 : Unit := ()
def tw2974120353451343810 : Unit := ()
def tw11072126562486713001 : Unit := ()
def tw7645620786635983048 : Unit := ()
def tw2494121436398156913 : Unit := ()
def tw11446565411699455555 : Unit := ()
def tw6333870109358381173 : Unit := ()
def tw13489616883876041405 : Unit := ()
def tw5255239492480435384 : Unit := ()
def tw6266510900566581664 : Unit := ()
def tw8469429619682803619 : Unit := ()
def tw3709939781900981054 : Unit := ()
def tw11917652656848687270 : Unit := ()
def tw18329056948478547271 : Unit := ()
def tw884102017151018909 : Unit := ()
def tw5758095138916997935 : Unit := ()
def tw9314438755135111924 : Unit := ()
def tw17109074960148904706 : Unit := ()
def tw13848537910488358066 : Unit := ()
def tw2507910136495274017 : Unit := ()
def tw13664819261099085364 : Unit := ()
def tw18235868147974924066 : Unit := ()
def tw6152572559214643383 : Unit := ()
def tw17925345035480223379 : Unit := ()
def tw9274860837176059329 : Unit := ()
def tw16990971390328108453 : Unit := ()
def tw16604313291463509089 : Unit := ()
def tw12835462145133897185 : Unit := ()
def tw17771386933892370770 : Unit := ()
def tw4255494832116656201 : Unit := ()
def tw738497020148597166 : Unit := ()
def tw8249169976784504517 : Unit := ()
def tw15381525291035303182 : Unit := ()
def tw14273944379128783427 : Unit := ()
def tw1093121041589947396 : Unit := ()
def tw1920349578924528179 : Unit := ()
def tw15705689926463419338 : Unit := ()
def tw297722194541107144 : Unit := ()
def tw13559744002964227658 : Unit := ()
def tw7811244083477472037 : Unit := ()
def tw1504963692864987044 : Unit := ()
def tw3378021291610946311 : Unit := ()
def tw13433805953395542325 : Unit := ()
def tw8363926897756242046 : Unit := ()
def tw8964602022663916354 : Unit := ()
def tw7861118124235873384 : Unit := ()
def tw11909579823641280242 : Unit := ()
def tw2786864070775148067 : Unit := ()
def tw3210791238568986132 : Unit := ()
def tw6024214267372132292 : Unit := ()
def tw12356297455386846259 : Unit := ()
def tw12131588095501290608 : Unit := ()
def tw3641230904729263543 : Unit := ()
def tw3073226238650667944 : Unit := ()
def tw17743207549426726496 : Unit := ()
def tw13085386995321616132 : Unit := ()
def tw10876694067410472450 : Unit := ()
def tw982650670329093800 : Unit := ()
def tw17444981545136013480 : Unit := ()
def tw8762774222822365016 : Unit := ()
def tw5973979978445363470 : Unit := ()
def tw14315431546624596561 : Unit := ()
def tw2246128705927500553 : Unit := ()
def tw8768878306635399807 : Unit := ()
def tw5597191080780190436 : Unit := ()
def tw8605639287096904020 : Unit := ()
def tw8419803863588617259 : Unit := ()
def tw8438825818301157151 : Unit := ()
def tw5980176306461411615 : Unit := ()
def tw15353530999104419958 : Unit := ()
def tw6248761360272849426 : Unit := ()
def tw16041720674988979547 : Unit := ()
def tw9455814069087121590 : Unit := ()
def tw8880751555841034340 : Unit := ()
def tw12749577687239574652 : Unit := ()
def tw12545008402262264145 : Unit := ()
def tw2398938466923660937 : Unit := ()
def tw15662453244292971993 : Unit := ()
def tw10646918181340872620 : Unit := ()
def tw3033636608615534116 : Unit := ()
def tw1633123253678588788 : Unit := ()
def tw13224281205645289849 : Unit := ()
def tw8449679467143419420 : Unit := ()
def tw14652361881997536753 : Unit := ()
def tw7123283851532781601 : Unit := ()
def tw420122017182899778 : Unit := ()
def tw13408205587237489320 : Unit := ()
def tw13237108066756508248 : Unit := ()
def tw8246948555758175283 : Unit := ()
def tw1412116263967264194 : Unit := ()
def tw15957889481895305063 : Unit := ()
def tw11316019485895759562 : Unit := ()
def tw8525760675508931034 : Unit := ()
def tw15866257879333577325 : Unit := ()
def tw13861174860500155260 : Unit := ()
def tw14992966694006675485 : Unit := ()
def tw469994722105749635 : Unit := ()
def tw6539405486721222234 : Unit := ()
def tw4310990105508317269 : Unit := ()
def tw13402009863022542348 : Unit := ()
def tw10042019067589546053 : Unit := ()
def tw11980879853044573406 : Unit := ()
def tw16520317529157011754 : Unit := ()
def tw17791344168570118654 : Unit := ()
def tw12535598732049029081 : Unit := ()
def tw7231129331595271449 : Unit := ()
def tw5534998564569067910 : Unit := ()
def tw10339654246132989704 : Unit := ()
def tw3722590632933259057 : Unit := ()
def tw17050228902506245522 : Unit := ()
def tw18128955458989723103 : Unit := ()
def tw10086988088024276977 : Unit := ()
def tw14570259168754552685 : Unit := ()
def tw16456945459022884498 : Unit := ()
def tw12472670756119566969 : Unit := ()
def tw8173212346687304666 : Unit := ()
def tw6093235760695056838 : Unit := ()
def tw2266927427356120022 : Unit := ()
def tw11916059658989698869 : Unit := ()
def tw15081991434821669144 : Unit := ()
def tw16945652453596829004 : Unit := ()
def tw7680069587816930528 : Unit := ()
def tw4744692705694032829 : Unit := ()
def tw9194393958730714165 : Unit := ()
def tw2809390070708802109 : Unit := ()
def tw5143368519077704927 : Unit := ()
def tw16484199404189041057 : Unit := ()
def tw110850973858439591 : Unit := ()
def tw3951557629024170740 : Unit := ()
end PySem.W.Fast
namespace Mr
open PySem L2
theorem all_mk {l : PySem.W.OpenLaw} {w : World} {K : PySem.W.Frag} {mg : Str → Option Value} {fa : Addr} {tM : Tok} {tL : Tok} {tMM : Tok} (hfa : mg "law" = some (.ref fa))
    (a_is_whole : At K mg "is_whole" sWhole ["thing"])
    (a_is_same_number : At K mg "is_same_number" s_is_same_number ["thing", "number"])
    (a_is_stretch : At K mg "is_stretch" sStretch ["thing", "length"])
    (a_is_row : At K mg "is_row" sIsRow ["thing"])
    (a_need_row : At K mg "need_row" sNeedRow ["thing"])
    (a_need_short : At K mg "need_short" s_need_short ["row"])
    (a_signs_more : At K mg "signs_more" s_signs_more ["row"])
    (a_mend_table : At K mg "mend_table" s_mend_table ["row"])
    (a_more_for : At K mg "more_for" s_more_for ["row", "table", "first", "behind"])
    (a_is_mend_table : At K mg "is_mend_table" s_is_mend_table ["thing", "row"])
    (a_law_box : At K mg "_law_box" sBox ["_law_script", "_law_k"])
    (a_law_take : At K mg "_law_take" sTake ["_law_box_here", "_law_many"])
    (a_law_whole : At K mg "_law_whole" s_law_whole ["_law_thing"])
    (a_law_odd : At K mg "_law_odd" sOdd ["_law_box_here"])
    (a_law_row : At K mg "_law_row" sRow ["_law_box_here", "_law_most"])
    (a_law_table : At K mg "_law_table" s_law_table ["_law_row_here"])
    (a_law_turned : At K mg "_law_turned" s_law_turned ["_law_box_here", "_law_due", "_law_odd_here"])
    (a_law : At K mg "law" sLaw ["_law_script"])
    (hM : mg "MOST_SIGNS" = some (.int 200 tM))
    (hL : mg "LETTERS" = some (.str (tx lets) tL))
    (hMM : mg "MOST_MENDED" = some (.int 60 tMM))
    (z_len : mg "len" = none)
    (z_range : mg "range" = none)
    (z_divmod : mg "divmod" = none)
    (z_isinstance : mg "isinstance" = none)
    (z_bool : mg "bool" = none)
    (z_str : mg "str" = none)
    (z_all : mg "all" = none)
    (z_max : mg "max" = none)
    (z_min : mg "min" = none)
    (z_int : mg "int" = none)
    (z_tuple : mg "tuple" = none)
    (z_dict : mg "dict" = none)
    (z_repr : mg "repr" = none)
    (z_sorted : mg "sorted" = none)
    : ∃ fd : FuncData, (∀ (s : Shared) (v : Value), BindsTo s fd ⟨[v], []⟩ [("_law_script", v)]) ∧ ∀ base : Heap, K.In base → base.Ns mainGlobals mg → (∃ o, base.get? sysModules = some o) → FnOkC l.prog w K mg base CX0 9 fa fd ["_law_script"] (spLaw K) := by
  obtain ⟨f, fd, F, hm, hb⟩ := a_law.ex
  have e := hfa.symm.trans hm
  cases e
  refine ⟨fd, fun s v => .of_eq (hb [v] rfl), fun base _ _ hsm => ?_⟩
  have dIR := ok_isrow (P := l.prog) (w := w) (base := base) a_is_row z_isinstance z_str z_len z_all hM hL
  have dN := ok_need a_need_row dIR
  have dWh := ok_whole (P := l.prog) (w := w) (base := base) a_is_whole z_isinstance z_int z_bool
  have dSt := ok_stretch a_is_stretch dWh z_isinstance z_tuple z_len
  have dTake := ok_take4 (P := l.prog) (w := w) (base := base) a_law_take z_divmod
  have dBox := ok_box4 (P := l.prog) (w := w) (base := base) a_law_box z_len z_range
  have dRow := ok_row4 a_law_row dTake z_len z_range
  have dWG := ok_wholeg (P := l.prog) (w := w) (base := base) a_is_whole z_isinstance z_int z_bool
  have dLWG := ok_lawwholeg (P := l.prog) (w := w) (base := base) a_law_whole z_isinstance z_int z_bool
  have dSame := ok_sameg a_is_same_number dWG
  have dOdd := ok_odd16 a_law_odd dTake
  have d_ns := ok_short a_need_short dN z_len hMM
  have d_mf := ok_more_for (P := l.prog) (w := w) (base := base) a_more_for z_min
  have d_mx := ok_mend_x a_mend_table d_ns d_mf z_len z_range
  have d_mt := d_mx.imp (sp' := spMendT) fun vs H Q E ⟨l, e, hr, hl, q⟩ => ⟨l, e, hr, hl, fun p kvs H' h1 h2 h3 s => q p kvs H' h1 h2 h3.1 s⟩
  have dSM := ok_signs_more a_signs_more d_mt z_len
  have dLT := ok_ltable (P := l.prog) (w := w) (base := base) a_law_table z_len z_min z_range
  have dIMT := ok_ismend a_is_mend_table d_mx dSame dSt z_all z_dict z_isinstance z_len
  have dTu := ok_turned54 a_law_turned dTake z_dict z_len z_max z_sorted z_str
  exact ok_law F dBox dRow dLT d_mx dLWG dSM dIMT dOdd dTu z_all z_bool z_dict z_isinstance z_len z_max z_min z_range z_repr z_tuple hsm
theorem walk {l : PySem.W.OpenLaw} {q : Program} {loose : List Str} {XP : (Str → Option Value) → Heap → Prop} {YP : World → Heap → Prop} {d : DefRec} {K : Params → PySem.W.Frag} (hn : l.most = some 63) (hdf : d.params.defaults = []) (hI : PyProof.Rows.importsNone q = true)
    (hY : ∀ (w : World) (h : Heap), YP w h → (K w.params).In h)
    (F : ∀ (w : World) (mg : Str → Option Value) (fa : Addr) (h : Heap), (K w.params).In h → h.Ns mainGlobals mg → mg d.name = some (.ref fa) →
      ∃ fd : FuncData, (∀ (s : Shared) (u : Value), BindsTo s fd ⟨[u], []⟩ [("_law_script", u)]) ∧ ∀ base : Heap, (K w.params).In base → base.Ns mainGlobals mg → (∃ o, base.get? sysModules = some o) → FnOkC l.prog w (K w.params) mg base CX0 9 fa fd ["_law_script"] (spLaw (K w.params))) :
    PySem.W.WalkO q loose XP YP l.row.toRowW d [] (fun f vs => PySem.call f vs) :=
  L2.walk_ofD (n := 63) (k := 9) (x := "_law_script") (CX := fun _ => CX0) (sp := fun w => spLaw (K w.params)) hn (by decide) hdf hI ⟨rfl, by decide, by decide⟩ hY F (fun _ _ a ns hl _ hS => ⟨a, ns, rfl, hS, hl, fun _ => rfl⟩) fun _ _ _ _ _ z => z
theorem us1 {us : List Value} (hl : us.length = 1) : ∃ x0, us = [x0] := by
  rcases us with _ | ⟨x0, _ | ⟨w, t⟩⟩
  all_goals first
    | exact ⟨_, rfl⟩
    | cases hl
theorem us2 {us : List Value} (hl : us.length = 2) : ∃ x0 x1, us = [x0, x1] := by
  rcases us with _ | ⟨x0, _ | ⟨x1, _ | ⟨w, t⟩⟩⟩
  all_goals first
    | exact ⟨_, _, rfl⟩
    | cases hl
theorem us3 {us : List Value} (hl : us.length = 3) : ∃ x0 x1 x2, us = [x0, x1, x2] := by
  rcases us with _ | ⟨x0, _ | ⟨x1, _ | ⟨x2, _ | ⟨w, t⟩⟩⟩⟩
  all_goals first
    | exact ⟨_, _, _, rfl⟩
    | cases hl
theorem us4 {us : List Value} (hl : us.length = 4) : ∃ x0 x1 x2 x3, us = [x0, x1, x2, x3] := by
  rcases us with _ | ⟨x0, _ | ⟨x1, _ | ⟨x2, _ | ⟨x3, _ | ⟨w, t⟩⟩⟩⟩⟩
  all_goals first
    | exact ⟨_, _, _, _, rfl⟩
    | cases hl
end Mr
open PySem PySem.W PyProof.Rows
set_option maxRecDepth 100000 in
set_option maxHeartbeats 0 in
theorem PySem.Challenge.cw_mirrorruns_k54_mend_tables_holds : PySem.Challenge.rw_mirrorruns_k54_mend_tables.Holds := by
  w_on; o_law; k_head; (case hw => w_witness2)
  k_fill
  refine Mr.walk (l := PySem.Challenge.rw_mirrorruns_k54_mend_tables) rfl rfl (by decide +kernel) (fun w h Y => PySem.W.kIn_of Y) ?F
  case F =>
    intro w mg fa h KX G hmg
    refine' Mr.all_mk hmg ?a_is_whole ?a_is_same_number ?a_is_stretch ?a_is_row ?a_need_row ?a_need_short ?a_signs_more ?a_mend_table ?a_more_for ?a_is_mend_table ?a_law_box ?a_law_take ?a_law_whole ?a_law_odd ?a_law_row ?a_law_table ?a_law_turned ?a_law ?hM ?hL ?hMM ?z_len ?z_range ?z_divmod ?z_isinstance ?z_bool ?z_str ?z_all ?z_max ?z_min ?z_int ?z_tuple ?z_dict ?z_repr ?z_sorted
    (case a_is_whole => refine' L2.At.mk' KX G ?a ?l ?c ?k (fun _ _ _ _ _ _ us hl => by obtain ⟨x0, rfl⟩ := Mr.us1 hl; rfl); (case a => k_is); (case l => k_is); (case c => k_is); (case k => k_is))
    (case a_is_same_number => refine' L2.At.mk' KX G ?a ?l ?c ?k (fun _ _ _ _ _ _ us hl => by obtain ⟨x0, x1, rfl⟩ := Mr.us2 hl; rfl); (case a => k_is); (case l => k_is); (case c => k_is); (case k => k_is))
    (case a_is_stretch => refine' L2.At.mk' KX G ?a ?l ?c ?k (fun _ _ _ _ _ _ us hl => by obtain ⟨x0, x1, rfl⟩ := Mr.us2 hl; rfl); (case a => k_is); (case l => k_is); (case c => k_is); (case k => k_is))
    (case a_is_row => refine' L2.At.mk' KX G ?a ?l ?c ?k (fun _ _ _ _ _ _ us hl => by obtain ⟨x0, rfl⟩ := Mr.us1 hl; rfl); (case a => k_is); (case l => k_is); (case c => k_is); (case k => k_is))
    (case a_need_row => refine' L2.At.mk' KX G ?a ?l ?c ?k (fun _ _ _ _ _ _ us hl => by obtain ⟨x0, rfl⟩ := Mr.us1 hl; rfl); (case a => k_is); (case l => k_is); (case c => k_is); (case k => k_is))
    (case a_need_short => refine' L2.At.mk' KX G ?a ?l ?c ?k (fun _ _ _ _ _ _ us hl => by obtain ⟨x0, rfl⟩ := Mr.us1 hl; rfl); (case a => k_is); (case l => k_is); (case c => k_is); (case k => k_is))
    (case a_signs_more => refine' L2.At.mk' KX G ?a ?l ?c ?k (fun _ _ _ _ _ _ us hl => by obtain ⟨x0, rfl⟩ := Mr.us1 hl; rfl); (case a => k_is); (case l => k_is); (case c => k_is); (case k => k_is))
    (case a_mend_table => refine' L2.At.mk' KX G ?a ?l ?c ?k (fun _ _ _ _ _ _ us hl => by obtain ⟨x0, rfl⟩ := Mr.us1 hl; rfl); (case a => k_is); (case l => k_is); (case c => k_is); (case k => k_is))
    (case a_more_for => refine' L2.At.mk' KX G ?a ?l ?c ?k (fun _ _ _ _ _ _ us hl => by obtain ⟨x0, x1, x2, x3, rfl⟩ := Mr.us4 hl; rfl); (case a => k_is); (case l => k_is); (case c => k_is); (case k => k_is))
    (case a_is_mend_table => refine' L2.At.mk' KX G ?a ?l ?c ?k (fun _ _ _ _ _ _ us hl => by obtain ⟨x0, x1, rfl⟩ := Mr.us2 hl; rfl); (case a => k_is); (case l => k_is); (case c => k_is); (case k => k_is))
    (case a_law_box => refine' L2.At.mk' KX G ?a ?l ?c ?k (fun _ _ _ _ _ _ us hl => by obtain ⟨x0, x1, rfl⟩ := Mr.us2 hl; rfl); (case a => k_is); (case l => k_is); (case c => k_is); (case k => k_is))
    (case a_law_take => refine' L2.At.mk' KX G ?a ?l ?c ?k (fun _ _ _ _ _ _ us hl => by obtain ⟨x0, x1, rfl⟩ := Mr.us2 hl; rfl); (case a => k_is); (case l => k_is); (case c => k_is); (case k => k_is))
    (case a_law_whole => refine' L2.At.mk' KX G ?a ?l ?c ?k (fun _ _ _ _ _ _ us hl => by obtain ⟨x0, rfl⟩ := Mr.us1 hl; rfl); (case a => k_is); (case l => k_is); (case c => k_is); (case k => k_is))
    (case a_law_odd => refine' L2.At.mk' KX G ?a ?l ?c ?k (fun _ _ _ _ _ _ us hl => by obtain ⟨x0, rfl⟩ := Mr.us1 hl; rfl); (case a => k_is); (case l => k_is); (case c => k_is); (case k => k_is))
    (case a_law_row => refine' L2.At.mk' KX G ?a ?l ?c ?k (fun _ _ _ _ _ _ us hl => by obtain ⟨x0, x1, rfl⟩ := Mr.us2 hl; rfl); (case a => k_is); (case l => k_is); (case c => k_is); (case k => k_is))
    (case a_law_table => refine' L2.At.mk' KX G ?a ?l ?c ?k (fun _ _ _ _ _ _ us hl => by obtain ⟨x0, rfl⟩ := Mr.us1 hl; rfl); (case a => k_is); (case l => k_is); (case c => k_is); (case k => k_is))
    (case a_law_turned => refine' L2.At.mk' KX G ?a ?l ?c ?k (fun _ _ _ _ _ _ us hl => by obtain ⟨x0, x1, x2, rfl⟩ := Mr.us3 hl; rfl); (case a => k_is); (case l => k_is); (case c => k_is); (case k => k_is))
    (case a_law => refine' L2.At.mk' KX G ?a ?l ?c ?k (fun _ _ _ _ _ _ us hl => by obtain ⟨x0, rfl⟩ := Mr.us1 hl; rfl); (case a => k_is); (case l => k_is); (case c => k_is); (case k => k_is))
    (case hM => exact PySem.W.mg_of KX G (by k_is))
    (case hL => exact (PySem.W.mg_of KX G (by k_is)).trans (congrArg (fun z => some (Value.str z _)) Mr.e_lets))
    (case hMM => exact PySem.W.mg_of KX G (by k_is))
    (case z_len => exact PySem.W.mg_none_of KX G (by k_is))
    (case z_range => exact PySem.W.mg_none_of KX G (by k_is))
    (case z_divmod => exact PySem.W.mg_none_of KX G (by k_is))
    (case z_isinstance => exact PySem.W.mg_none_of KX G (by k_is))
    (case z_bool => exact PySem.W.mg_none_of KX G (by k_is))
    (case z_str => exact PySem.W.mg_none_of KX G (by k_is))
    (case z_all => exact PySem.W.mg_none_of KX G (by k_is))
    (case z_max => exact PySem.W.mg_none_of KX G (by k_is))
    (case z_min => exact PySem.W.mg_none_of KX G (by k_is))
    (case z_int => exact PySem.W.mg_none_of KX G (by k_is))
    (case z_tuple => exact PySem.W.mg_none_of KX G (by k_is))
    (case z_dict => exact PySem.W.mg_none_of KX G (by k_is))
    (case z_repr => exact PySem.W.mg_none_of KX G (by k_is))
    (case z_sorted => exact PySem.W.mg_none_of KX G (by k_is))
