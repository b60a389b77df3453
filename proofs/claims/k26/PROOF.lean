import PyProof.Rows.All
import Wide.All
import OpenK.AllK
import Wide.FinOn
import Lean
import PyProof.EqAt
import PyProof.EqKinds
import PyProof.NeData
import PyProof.TupleCall
import KE.KRevIter
import KE.KRevSl
import PySem.Challenge.RW_trudge_k26_whole_backward
set_option Elab.async false
set_option linter.all false
set_option maxRecDepth 100000
/-! THE HAND LAYER, for ints, bools, texts, own classes, LISTS and tuples (index, slices, in, append, pop ..), calls, loops. Paste it whole ahead of your own text; what your proof does not reach may be deleted. -/
namespace L2
open PySem PySem.Spec PyProof.Rows

/-- a key: an int or a str -/
abbrev Key := Sum Int Str
def keyIs : Key → Value → Bool
  | .inl k, v => Value.isInt k v
  | .inr x, v => Value.isStrOf x v
def keyH (w : World) : Key → Int
  | .inl k => hashInt k
  | .inr x => hashStr w x
theorem keyIs_shape : ∀ {k : Key} {v : Value}, keyIs k v = true → (∃ i t, k = Sum.inl i ∧ v = Value.int i t) ∨ (∃ x t, k = Sum.inr x ∧ v = Value.str x t)
  | .inl i, v, h => by
    obtain ⟨t, e⟩ := Value.isInt_shape (k := i) (v := v) h
    exact .inl ⟨i, t, rfl, e⟩
  | .inr x, v, h => by
    obtain ⟨t, e⟩ := Value.isStrOf_shape (x := x) (v := v) h
    exact .inr ⟨x, t, rfl, e⟩
theorem key_ll (a b : Int) : decide ((Sum.inl a : Key) = Sum.inl b) = (a == b) := by
  by_cases e : a = b
  · subst e; simp
  · have h : ¬ (Sum.inl a : Key) = Sum.inl b := fun q => e (Sum.inl.inj q)
    rw [decide_eq_false h]
    exact (beq_eq_false_iff_ne.mpr e).symm
theorem key_rr (a b : Str) : decide ((Sum.inr a : Key) = Sum.inr b) = decide (a = b) := by
  by_cases e : a = b
  · subst e; simp
  · have h : ¬ (Sum.inr a : Key) = Sum.inr b := fun q => e (Sum.inr.inj q)
    rw [decide_eq_false h, decide_eq_false e]
theorem key_lr (a : Int) (b : Str) : decide ((Sum.inl a : Key) = Sum.inr b) = false := decide_eq_false (fun q => nomatch q)
theorem key_rl (a : Str) (b : Int) : decide ((Sum.inr a : Key) = Sum.inl b) = false := decide_eq_false (fun q => nomatch q)

def mixKind (prog : Program) (w : World) : PySem.KeyKind prog w Key where
  is := keyIs
  hash := keyH w
  inj := fun v a b ha hb => by
    rcases keyIs_shape ha with ⟨i, t, rfl, rfl⟩ | ⟨x, t, rfl, rfl⟩
    · rcases keyIs_shape hb with ⟨j, u, rfl, e⟩ | ⟨y, u, rfl, e⟩
      · injection e with e1 _; rw [e1]
      · exact nomatch e
    · rcases keyIs_shape hb with ⟨j, u, rfl, e⟩ | ⟨y, u, rfl, e⟩
      · exact nomatch e
      · injection e with e1 _; rw [e1]
  byValue := fun k v h => by
    rcases keyIs_shape h with ⟨i, t, rfl, rfl⟩ | ⟨x, t, rfl, rfl⟩ <;> rfl
  pyHash := fun hv h => by
    rcases keyIs_shape hv with ⟨i, t, rfl, rfl⟩ | ⟨x, t, rfl, rfl⟩
    · exact wpAny_pyHash_int h
    · exact wpAny_pyHash_str h
  eqBool := fun hu hv h => by
    rcases keyIs_shape hu with ⟨i, t, rfl, rfl⟩ | ⟨x, t, rfl, rfl⟩
    · rcases keyIs_shape hv with ⟨j, u, rfl, rfl⟩ | ⟨y, u, rfl, rfl⟩
      · rw [key_ll] at h; exact wpAny_eqBool_int h
      · rw [key_lr] at h; exact SeqAt.EqAt.int_str i t y u _ _ _ _ h
    · rcases keyIs_shape hv with ⟨j, u, rfl, rfl⟩ | ⟨y, u, rfl, rfl⟩
      · rw [key_rl] at h; exact SeqAt.EqAt.str_int x t j u _ _ _ _ h
      · rw [key_rr] at h; exact wpAny_eqBool_str h
  «strs» := fun k x t v h => by
    rcases keyIs_shape h with ⟨i, u, rfl, e⟩ | ⟨y, u, rfl, e⟩
    · exact nomatch e
    · injection e with e1 _
      subst e1
      cases v <;> rfl

end L2

namespace L2
open PySem PySem.Spec PyProof.Rows

/-- a value, without the heap -/
inductive V where
  | non | bl (b : Bool) | int (i : Int) | str (x : Str) | byt (b : Array UInt8) | flt (b : UInt64) | ref (a : Addr) | ty (n : String)
  deriving DecidableEq

def RelV : V → Value → Prop
  | .non, u => u = Value.none
  | .bl b, u => u = Value.bool b
  | .int i, u => ∃ t, u = Value.int i t
  | .str x, u => ∃ t, u = Value.str x t
  | .byt b, u => ∃ t, u = Value.bytes b t
  | .flt b, u => ∃ t, u = Value.float b t
  | .ref a, u => u = Value.ref a
  | .ty n, u => u = Value.type n

abbrev Vals : List V → List Value → Prop := Paired RelV
theorem Vals.length {xs : List V} {us : List Value} (r : Vals xs us) : xs.length = us.length := Paired.length r
theorem Vals.get : ∀ {xs : List V} {us : List Value} {i : Nat} {x : V}, Vals xs us → xs[i]? = some x → ∃ u, us[i]? = some u ∧ RelV x u
  | _, _, _, _, .nil, e => by simp at e
  | _, _, 0, _, .cons r _, e => by simp at e; subst e; exact ⟨_, rfl, r⟩
  | _, _, i + 1, x, .cons _ t, e => by
    obtain ⟨u, h1, h2⟩ := Vals.get (i := i) (x := x) t (by simpa using e)
    exact ⟨u, by simpa using h1, h2⟩
theorem Vals.set {x : V} {u : Value} (r : RelV x u) : ∀ {xs : List V} {us : List Value} (i : Nat), Vals xs us → Vals (xs.set i x) (us.set i u)
  | _, _, _, .nil => .nil
  | _, _, 0, .cons _ t => .cons r t
  | _, _, i + 1, .cons q t => .cons q (Vals.set r i t)
theorem Vals.append : ∀ {xs ys : List V} {us ws : List Value}, Vals xs us → Vals ys ws → Vals (xs ++ ys) (us ++ ws)
  | _, _, _, _, .nil, s => s
  | _, _, _, _, .cons r t, s => .cons r (Vals.append t s)
theorem Vals.take : ∀ {xs : List V} {us : List Value} (n : Nat), Vals xs us → Vals (xs.take n) (us.take n)
  | _, _, 0, _ => .nil
  | _, _, _ + 1, .nil => .nil
  | _, _, n + 1, .cons r t => .cons r (Vals.take n t)
theorem Vals.drop : ∀ {xs : List V} {us : List Value} (n : Nat), Vals xs us → Vals (xs.drop n) (us.drop n)
  | _, _, 0, r => r
  | _, _, _ + 1, .nil => .nil
  | _, _, n + 1, .cons _ t => Vals.drop n t
def RelO : Option V → Option Value → Prop
  | some v, some u => RelV v u
  | none, none => True
  | _, _ => False
def KV {κ : Type} : List (κ × V) → List (κ × Value) → Prop := Paired fun (p : κ × V) (q : κ × Value) => p.1 = q.1 ∧ RelV p.2 q.2

/-- a key of a dict (00_mix): an int or a text -/
def kV : Key → V
  | .inl i => .int i
  | .inr x => .str x

/-- what stands at a tracked address -/
inductive HO where
  /-- a list -/
  | lst (xs : List V)
  /-- a tuple (never changes) -/
  | tup (xs : List V)
  /-- a dict whose keys are ints and texts; one whose keys are tuples of ints and texts (the empty one is both) -/
  | dK (kvs : List (Key × V)) | dT (kvs : List (List Key × V))
  /-- a set of ints: its members, its size -/
  | set (S : Int → Bool) (n : Nat)
  /-- an instance of the class at C, its dict at dx, its attributes -/
  | ins (C dx : Addr) (fs : List (Str × V))
  /-- the dict of the instance at x -/
  | own (x : Addr)
  /-- the dict of an exception -/
  | xd (fs : List (Str × V))
  /-- a bound method, f of x -/
  | met (f x : Addr)
  /-- a range object lo, lo + 1, .. below hi -/
  | rng (lo hi : Int)
  /-- a thing that is known to the object (the script; a dict while a loop walks it): read, never written while it is so -/
  | frz (o : Obj) (u : HO)
  /-- a code object's table -/
  | tbl (ps : Array Value)
  /-- any other thing, by what is true of its one object (a def of one's own: SetO a S n := HO.ext fun h => ..) -/
  | ext (φ : Heap → Prop)

abbrev Hp := Addr → Option HO
def upd (H : Hp) (a : Addr) (o : HO) : Hp := fun b => if b = a then some o else H b
theorem upd_same {H : Hp} {a : Addr} {o : HO} : upd H a o a = some o := by unfold upd; rw [if_pos rfl]
theorem upd_ne {H : Hp} {a b : Addr} {o : HO} (h : b ≠ a) : upd H a o b = H b := by unfold upd; rw [if_neg h]
/-- two objects of different content stand apart -/
theorem ne_of {H : Hp} {a b : Addr} {o u : HO} (h : H a = some o) (h' : H b = some u) (d : o ≠ u) : a ≠ b := by
  intro e; subst e; rw [h] at h'; exact d (Option.some.inj h')
theorem ne_of_none {H : Hp} {a b : Addr} {o : HO} (h : H a = some o) (h' : H b = none) : a ≠ b := by
  intro e; subst e; rw [h] at h'; cases h'

section
variable (P : Program) (w : World)
def ObjOk (H : Hp) (h : Heap) (a : Addr) : HO → Prop
  | .lst xs => xs.length ≤ sizeLine ∧ ∃ (its : List Value) (n : Nat), Vals xs its ∧ h.get? a = some { cls := .type "list", data := .seq its.toArray n }
  | .tup xs => xs.length ≤ sizeLine ∧ ∃ its : List Value, Vals xs its ∧ IsTup h a its.toArray
  | .dK kvs => kvs.length ≤ sizeLine ∧ (a == sysModules) = false ∧ ∃ vs, KV kvs vs ∧ h.DictOf (mixKind P w) a vs
  | .dT kvs => kvs.length ≤ sizeLine ∧ (a == sysModules) = false ∧ ∃ xs : List (List Key × Addr × Value),
      Paired (fun (p : List Key × V) (q : List Key × Addr × Value) => p.1 = q.1 ∧ H q.2.1 = some (.tup (p.1.map kV)) ∧ RelV p.2 q.2.2) kvs xs ∧
      ∃ o es ep, h.get? a = some o ∧ o.ExactDict ∧ o.data = .dict es ep ∧ es.toList = xs.map (entryOfKey (tupleKind (mixKind P w))) ∧ (xs.map (·.1)).Nodup
  | .set S n => h.SetOf (intKind P w) a S n
  | .ins C dx fs => H dx = some (.own a) ∧ fs.length ≤ 1000 ∧ dx ≠ a ∧ h.get? a = some (PySem.W.instObj C dx) ∧
      ∃ mA, h.Ns1 dx mA ∧ (∀ f, RelO (fs.lookup f) (mA f)) ∧ PySem.Within mA (fs.map (·.1))
  | .own _ => ∃ o, h.get? a = some o
  | .xd fs => ∃ mA, h.Ns1 a mA ∧ ∀ f, RelO (fs.lookup f) (mA f)
  | .rng lo hi => ∃ t u v, h.get? a = some { cls := .type "range", data := .fields #[.int lo t, .int hi u, .int 1 v] }
  | .frz o u => h.get? a = some o ∧ ObjOk H h a u
  | .tbl ps => h.get? a = some { cls := .none, data := .fields ps }
  | .met f x => h.get? a = some (PySem.W.methodObj (.ref f) (.ref x))
  | .ext φ => φ h ∧ (∃ o, h.get? a = some o) ∧ ∀ h1 h2 : Heap, φ h1 → (∀ o, h1.get? a = some o → h2.get? a = some o) → φ h2
/-- the abstract heap is held -/
def HOk (H : Hp) (h : Heap) : Prop := ∀ a o, H a = some o → ObjOk P w H h a o
end

section
variable {P : Program} {w : World} {H H' : Hp} {h h' : Heap} {a : Addr} {o : HO}
theorem ObjOk.lt (x : ObjOk P w H h a o) : a < h.objs.size := by
  cases o with
  | lst xs => obtain ⟨_, _, _, _, e⟩ := x; exact Heap.lt_size e
  | tup xs => obtain ⟨_, _, _, p⟩ := x; exact p.lt
  | dK kvs => obtain ⟨_, _, _, _, o, _, _, e, _⟩ := x; exact Heap.lt_size e
  | dT kvs => obtain ⟨_, _, _, _, o, _, _, e, _⟩ := x; exact Heap.lt_size e
  | set S n => obtain ⟨o, _, _, _, e, _⟩ := x; exact Heap.lt_size e
  | ins C dx fs => obtain ⟨_, _, _, e, _⟩ := x; exact Heap.lt_size e
  | own y => obtain ⟨_, e⟩ := x; exact Heap.lt_size e
  | xd fs => obtain ⟨_, ⟨_, _, _, e, _⟩, _⟩ := x; exact Heap.lt_size e
  | rng lo hi => obtain ⟨_, _, _, e⟩ := x; exact Heap.lt_size e
  | frz ob u => obtain ⟨e, _⟩ := x; exact Heap.lt_size e
  | tbl ps => exact Heap.lt_size (show h.get? a = some _ from x)
  | met f y => exact Heap.lt_size (show h.get? a = some _ from x)
  | ext φ => obtain ⟨_, ⟨_, e⟩, _⟩ := x; exact Heap.lt_size e
theorem Paired.mapP {α β : Type} {F G : α → β → Prop} : ∀ {l₁ : List α} {l₂ : List β}, Paired F l₁ l₂ → (∀ a b, F a b → G a b) → Paired G l₁ l₂
  | _, _, .nil, _ => .nil
  | _, _, .cons r t, f => .cons (f _ _ r) (Paired.mapP t f)
/-- what an object's description leans on: its own object, its own dict, the tuples -/
theorem ObjOk.stay (x : ObjOk P w H h a o) (k : ∀ b u, (b = a ∨ H b = some (.own a)) → h.get? b = some u → h'.get? b = some u)
    (ho : ∀ b, H b = some (.own a) → H' b = some (.own a)) (ht : ∀ b xs, H b = some (.tup xs) → H' b = some (.tup xs)) : ObjOk P w H' h' a o := by
  induction o with
  | lst xs => obtain ⟨z, its, n, r, e⟩ := x; exact ⟨z, its, n, r, k _ _ (.inl rfl) e⟩
  | tup xs => obtain ⟨z, its, r, ob, e, c⟩ := x; exact ⟨z, its, r, ob, k _ _ (.inl rfl) e, c⟩
  | dK kvs => obtain ⟨z, y, vs, r, ob, es, ep, e, c⟩ := x; exact ⟨z, y, vs, r, ob, es, ep, k _ _ (.inl rfl) e, c⟩
  | dT kvs =>
    obtain ⟨z, y, xs, r, ob, es, ep, e, c⟩ := x
    exact ⟨z, y, xs, Paired.mapP r fun p q z => ⟨z.1, ht _ _ z.2.1, z.2.2⟩, ob, es, ep, k _ _ (.inl rfl) e, c⟩
  | set S n => obtain ⟨ob, es, ep, t, e, c⟩ := x; exact ⟨ob, es, ep, t, k _ _ (.inl rfl) e, c⟩
  | ins C dx fs =>
    obtain ⟨d, z, ne, e, mA, ⟨od, es, ep, e2, c⟩, r⟩ := x
    exact ⟨ho _ d, z, ne, k _ _ (.inl rfl) e, mA, ⟨od, es, ep, k _ _ (.inr d) e2, c⟩, r⟩
  | own y => obtain ⟨ob, e⟩ := x; exact ⟨ob, k _ _ (.inl rfl) e⟩
  | xd fs => obtain ⟨mA, ⟨od, es, ep, e, c⟩, r⟩ := x; exact ⟨mA, ⟨od, es, ep, k _ _ (.inl rfl) e, c⟩, r⟩
  | rng lo hi => obtain ⟨t, u, v, e⟩ := x; exact ⟨t, u, v, k _ _ (.inl rfl) e⟩
  | frz ob u ih => obtain ⟨e, q⟩ := x; exact ⟨k _ _ (.inl rfl) e, ih q⟩
  | tbl ps =>
    have e : h.get? a = some { cls := .none, data := .fields ps } := x
    show h'.get? a = some { cls := .none, data := .fields ps }
    exact k a _ (.inl rfl) e
  | met f y =>
    have e : h.get? a = some (PySem.W.methodObj (.ref f) (.ref y)) := x
    show h'.get? a = some (PySem.W.methodObj (.ref f) (.ref y))
    exact k a _ (.inl rfl) e
  | ext φ => obtain ⟨p, ⟨o, e⟩, st⟩ := x; exact ⟨st _ _ p fun o q => k _ _ (.inl rfl) q, ⟨o, k _ _ (.inl rfl) e⟩, st⟩
theorem HOk.lt (x : HOk P w H h) (e : H a = some o) : a < h.objs.size := (x a o e).lt
theorem HOk.fresh (x : HOk P w H h) (e : h.objs.size ≤ a) : H a = none := by
  cases q : H a with
  | none => rfl
  | some u => exact absurd (Nat.lt_of_lt_of_le (x.lt q) e) (Nat.lt_irrefl _)
/-- every object of the heap is kept -/
theorem HOk.kept (x : HOk P w H h) (k : ∀ b u, h.get? b = some u → h'.get? b = some u) : HOk P w H h' := fun a o e =>
  (x a o e).stay (fun b u _ q => k b u q) (fun _ q => q) fun _ _ q => q
/-- a new object is laid and tracked -/
theorem HOk.laid (x : HOk P w H h) (k : ∀ b u, h.get? b = some u → h'.get? b = some u) (hp : h.objs.size ≤ a) (new : ObjOk P w (upd H a o) h' a o) : HOk P w (upd H a o) h' := fun b u e => by
  have hn := x.fresh hp
  by_cases hb : b = a
  · subst hb; rw [upd_same] at e; cases e; exact new
  · rw [upd_ne hb] at e
    exact (x b u e).stay (fun c v _ q => k c v q) (fun c q => by rw [upd_ne (ne_of_none q hn)]; exact q) fun c xs q => by rw [upd_ne (ne_of_none q hn)]; exact q
end

/-- what may be read as u: it is u, or a known u -/
def Rd (H : Hp) (a : Addr) (u : HO) : Prop := H a = some u ∨ ∃ o, H a = some (.frz o u)
theorem Rd.of {H : Hp} {a : Addr} {u : HO} (h : H a = some u) : Rd H a u := .inl h
theorem Rd.ok {P : Program} {w : World} {H : Hp} {h : Heap} {a : Addr} {u : HO} (r : Rd H a u) (x : HOk P w H h) : ObjOk P w H h a u := by
  rcases r with r | ⟨o, r⟩
  · exact x a u r
  · obtain ⟨_, q⟩ := x a _ r
    exact q
/-- what may be written -/
def Mut : Option HO → Prop
  | some (.lst _) => True
  | some (.dK _) => True
  | some (.dT _) => True
  | some (.set _ _) => True
  | some (.ins _ _ _) => True
  | some (.ext _) => True
  | _ => False
section
variable {P : Program} {w : World} {H : Hp} {h h' : Heap} {x e : Addr} {o' : HO}
/-- the object at e is changed: x itself, or the dict of the instance x -/
theorem HOk.write (ok : HOk P w H h) (mu : Mut (H x)) (he : e = x ∨ H e = some (.own x)) (k : ∀ b u, b ≠ e → h.get? b = some u → h'.get? b = some u) (heo : ∃ u, h'.get? e = some u)
    (new : ObjOk P w (upd H x o') h' x o') : HOk P w (upd H x o') h' := fun b u q => by
  have nown : ∀ c y, H c = some (.own y) → c ≠ x := fun c y r z => by subst z; rw [r] at mu; exact mu
  have ntup : ∀ c xs, H c = some (.tup xs) → c ≠ x := fun c xs r z => by subst z; rw [r] at mu; exact mu
  by_cases hb : b = x
  · subst hb; rw [upd_same] at q; cases q; exact new
  · rw [upd_ne hb] at q
    by_cases hbe : b = e
    · have q' : H b = some (.own x) := by
        rcases he with z | z
        · exact absurd (hbe.trans z) hb
        · rw [hbe]; exact z
      rw [q] at q'; cases q'
      obtain ⟨v, hv⟩ := heo
      exact ⟨v, by rw [hbe]; exact hv⟩
    · refine (ok b u q).stay (fun c v hc r => k c v ?_ r) (fun c r => by rw [upd_ne (nown c b r)]; exact r) fun c xs r => by rw [upd_ne (ntup c xs r)]; exact r
      rcases hc with rfl | hc
      · exact hbe
      · rintro rfl
        rcases he with z | z
        · exact nown c b hc z
        · rw [hc] at z; cases z; exact hb rfl
end

/-! ### kept unless tracked; of the frames at fs (the callers') the slots may change (an exception that passes writes there); of the records at ex (iterators) nothing is said -/
structure Un (fs ex : List Addr) (H H' : Hp) (h h' : Heap) : Prop where
  keep : ∀ b o, h.get? b = some o → H b = none → b ∉ fs → b ∉ ex → h'.get? b = some o
  slot : ∀ b o, h.get? b = some o → H b = none → b ∈ fs → b ∉ ex → ∃ sl, h'.get? b = some { o with slots := sl }
  free : ∀ b o, h.get? b = some o → H b = none → b ∉ ex → H' b = none
  there : ∀ b o, h.get? b = some o → b ∉ ex → ∃ o', h'.get? b = some o'
  tups : ∀ b xs, H b = some (.tup xs) → H' b = some (.tup xs)
  frzs : ∀ b o u, H b = some (.frz o u) → H' b = some (.frz o u)
  tbls : ∀ b ps, H b = some (.tbl ps) → ∃ more, H' b = some (.tbl (ps ++ more))
section
variable {fs fs' ex ex' : List Addr} {H H1 H2 : Hp} {h h1 h2 h' : Heap} {a x e : Addr} {o : HO}
theorem Un.any (u : Un fs ex H H1 h h1) {b : Addr} {ob : Obj} (q : h.get? b = some ob) (n : H b = none) (hx : b ∉ ex) : ∃ sl, h1.get? b = some { ob with slots := sl } := by
  by_cases hb : b ∈ fs
  · exact u.slot b ob q n hb hx
  · exact ⟨ob.slots, u.keep b ob q n hb hx⟩
theorem Un.trans (a : Un fs ex H H1 h h1) (b : Un fs ex H1 H2 h1 h2) : Un fs ex H H2 h h2 where
  keep := fun c ob q n hc hx => b.keep c ob (a.keep c ob q n hc hx) (a.free c ob q n hx) hc hx
  slot := fun c ob q n hc hx => by
    obtain ⟨sl, e1⟩ := a.slot c ob q n hc hx
    obtain ⟨sl', e2⟩ := b.slot c _ e1 (a.free c ob q n hx) hc hx
    exact ⟨sl', e2⟩
  free := fun c ob q n hx => by
    obtain ⟨o', e1⟩ := a.there c ob q hx
    exact b.free c o' e1 (a.free c ob q n hx) hx
  there := fun c ob q hx => by
    obtain ⟨o', e1⟩ := a.there c ob q hx
    exact b.there c o' e1 hx
  tups := fun c xs q => b.tups c xs (a.tups c xs q)
  frzs := fun c ob xs q => b.frzs c ob xs (a.frzs c ob xs q)
  tbls := fun c ps q => by
    obtain ⟨m1, e1⟩ := a.tbls c ps q
    obtain ⟨m2, e2⟩ := b.tbls c _ e1
    exact ⟨m1 ++ m2, by rw [e2, Array.append_assoc]⟩
theorem Un.kept (k : ∀ b u, h.get? b = some u → h'.get? b = some u) : Un fs ex H H h h' :=
  ⟨fun b ob q _ _ _ => k b ob q, fun b ob q _ _ _ => ⟨ob.slots, k b ob q⟩, fun _ _ _ n _ => n, fun b ob q _ => ⟨ob, k b ob q⟩, fun _ _ q => q, fun _ _ _ q => q, fun _ ps q => ⟨#[], by rw [q]; simp⟩⟩
theorem Un.refl : Un fs ex H H h h := Un.kept fun _ _ q => q
theorem Un.laid (k : ∀ b u, h.get? b = some u → h'.get? b = some u) (hp : h.objs.size ≤ a) (hn : H a = none) : Un fs ex H (upd H a o) h h' where
  keep := fun b u q _ _ _ => k b u q
  slot := fun b u q _ _ _ => ⟨u.slots, k b u q⟩
  free := fun b u q n _ => by rw [upd_ne (Nat.ne_of_lt (Nat.lt_of_lt_of_le (Heap.lt_size q) hp))]; exact n
  there := fun b u q _ => ⟨u, k b u q⟩
  tups := fun b xs q => by rw [upd_ne (ne_of_none q hn)]; exact q
  frzs := fun b u xs q => by rw [upd_ne (ne_of_none q hn)]; exact q
  tbls := fun b ps q => ⟨#[], by rw [upd_ne (ne_of_none q hn), q]; simp⟩
theorem Un.write (mu : Mut (H x)) (he : e = x ∨ H e = some (.own x)) (k : ∀ b u, b ≠ e → h.get? b = some u → h'.get? b = some u) (heo : ∃ u, h'.get? e = some u) : Un fs ex H (upd H x o) h h' := by
  have hx : ∀ b, H b = none → b ≠ x := fun b n z => by subst z; rw [n] at mu; exact mu
  have hb : ∀ b, H b = none → b ≠ e := fun b n z => by
    subst z
    rcases he with r | r
    · exact hx b n r
    · rw [n] at r; cases r
  have hm : ∀ b u, H b = some u → ¬ Mut (some u) → b ≠ x := fun b u q nm z => by subst z; rw [q] at mu; exact nm mu
  refine ⟨fun b u q n _ _ => k b u (hb b n) q, fun b u q n _ _ => ⟨u.slots, k b u (hb b n) q⟩, fun b u q n _ => by rw [upd_ne (hx b n)]; exact n, fun b u q _ => ?_,
    fun b xs q => by rw [upd_ne (hm b _ q fun z => z)]; exact q, fun b u xs q => by rw [upd_ne (hm b _ q fun z => z)]; exact q, fun b ps q => ⟨#[], by rw [upd_ne (hm b _ q fun z => z), q]; simp⟩⟩
  by_cases hbe : b = e
  · subst hbe; exact heo
  · exact ⟨u, k b u hbe q⟩
theorem Un.mono (u : Un fs ex H H1 h h1) (hs : ∀ b ∈ fs, b ∈ fs') (hx : ∀ b ∈ ex, b ∈ ex') : Un fs' ex' H H1 h h1 :=
  ⟨fun b ob q n hb he => u.keep b ob q n (fun z => hb (hs b z)) fun z => he (hx b z), fun _ _ q n _ he => u.any q n fun z => he (hx _ z), fun b ob q n he => u.free b ob q n fun z => he (hx b z), fun b ob q he => u.there b ob q fun z => he (hx b z), u.tups, u.frzs, u.tbls⟩
end

/-! ### the heap without what is tracked -/
def trk (h : Heap) (H : Hp) : List Addr := (List.range h.objs.size).filter fun a => (H a).isSome
def hidT (h : Heap) (H : Hp) : Heap := PySem.W.hideAll h (trk h H)
theorem hidT_size (h : Heap) (H : Hp) : (hidT h H).objs.size = h.objs.size := PySem.W.hideAll_size _ _
theorem hidT_get {h : Heap} {H : Hp} {b : Addr} {o : Obj} (e : h.get? b = some o) (n : H b = none) : (hidT h H).get? b = some o :=
  PySem.W.hideAll_get _ e fun hm => by
    have q : (H b).isSome = true := (List.mem_filter.mp hm).2
    rw [n] at q; simp at q
theorem of_hidT {h : Heap} {H : Hp} {b : Addr} {o : Obj} (e : (hidT h H).get? b = some o) : h.get? b = some o ∧ H b = none := by
  have e' : h.get? b = some o := PySem.W.of_hideAll (trk h H) e
  refine ⟨e', ?_⟩
  cases q : H b with
  | none => rfl
  | some x =>
    have hm : b ∈ trk h H := List.mem_filter.mpr ⟨List.mem_range.mpr (Heap.lt_size e'), by simp [q]⟩
    have z : (hidT h H).get? b = none := PySem.W.hideAll_none (trk h H) hm
    rw [z] at e; cases e

/-! ### OpenK's ledger, filled with every new object but one -/
def allNews (g h : Heap) (L : Addr) : List (Addr × Obj) := (List.range h.objs.size).filterMap fun a => if a = L ∨ (g.get? a).isSome = true then none else (h.get? a).map fun o => (a, o)
def rest (g h : Heap) (L d : Addr) : List (Addr × Obj) := (allNews g h L).filter fun p => decide (p.1 ≠ d)
end L2

namespace L2
open PySem PySem.Spec PyProof.Rows

/-- the module's facts, over the base: the heap at the law's entry without what is tracked there -/
structure Mod (K : PySem.W.Frag) (mg : Str → Option Value) (base : Heap) : Prop where
  kin : K.In base
  glob : base.Ns mainGlobals mg
  blt : ∃ mb, base.Ns builtinsNs mb ∧ ∀ x : Str, x ≠ "__name__" → mb x = bootBuiltins x
  nolimit : base.NoLimit

/-- the context: a def's body (or a comprehension's block) running. base: fixed through the whole law; s₀, H₀: the entry; outer: the frames whose slots others may change (a def's callers); stack: all frames that run;
   ex: iterators that were made ahead of the entry and are walked here (a comprehension's); fn: the names whose cells were made at the entry (a def: all; a comprehension's block: its own); calm: not within an except suite; pn: pins that every state bears; xe: what is wanted of an exception that leaves the code -/
structure Cx where
  prog : Program
  w : World
  K : PySem.W.Frag
  mg : Str → Option Value
  base : Heap
  A : Around
  N : List Str
  s₀ : Shared
  H₀ : Hp
  env : Env
  outer : List Env
  stack : List Env
  ex : List Addr
  fn : Str → Bool
  calm : Bool
  pn : List (Addr × Obj)
  xe : Value → Shared → Prop
/-- the callers' frames -/
def frs (l : List Env) : List Addr := l.filterMap (·.frame)
abbrev Cx.fs (X : Cx) : List Addr := frs X.outer

def Vis (sc : Scope) (x : Str) : Prop := sc.names.lookup x = some .local ∨ sc.names.lookup x = some .cell ∨ sc.names.lookup x = some .free
def Loc (sc : Scope) (x : Str) : Prop := sc.names.lookup x = some .local ∨ sc.names.lookup x = some .cell
def Look (env : Env) (h : Heap) (m : Str → Option Value) (x : Str) (u : Value) : Prop :=
  (env.kindOf x = some .local ∧ m x = some u) ∨ ((env.kindOf x = some .cell ∨ env.kindOf x = some .free) ∧ ∃ c, env.cells.lookup x = some c ∧ h.IsCell c (some u))

structure Cx.Ok (X : Cx) : Prop where
  mod : Mod X.K X.mg X.base
  kind : X.env.scope.kind = .function
  glob : X.env.globals = mainGlobals
  blt : X.env.builtins = builtinsNs
  above : X.s₀.heap.objs.size ≤ X.env.locals
  inj : ∀ x y c, X.env.cells.lookup x = some c → X.env.cells.lookup y = some c → x = y
  has : ∀ x, (X.env.kindOf x = some .cell ∨ X.env.kindOf x = some .free) → ∃ c, X.env.cells.lookup x = some c
  cab : ∀ x c, X.fn x = true → X.env.cells.lookup x = some c → X.s₀.heap.objs.size ≤ c
  hd : X.calm = true → X.A.handled = none
  frames : X.A.frames = some X.stack
  stk : X.stack = X.outer ∨ (X.stack = X.env :: X.outer ∧ X.env.frame = some X.env.locals)
  exf : ∀ b ∈ X.ex, b ≠ X.env.locals ∧ ∀ x c, X.env.cells.lookup x = some c → c ≠ b
  bs : ∀ b o, X.base.get? b = some o → X.s₀.heap.get? b = some o ∧ X.H₀ b = none
  bsz : X.base.objs.size ≤ X.s₀.heap.objs.size
  noex : ∀ b o, X.base.get? b = some o → b ∉ X.ex
  exfs : ∀ b ∈ X.ex, b ∉ X.fs
  funs : X.s₀.heap.FunFrames X.base X.outer
  frf : ∀ b ∈ X.fs, X.H₀ b = none

structure Inv (X : Cx) (pins : List (Addr × Obj)) (σ : List (Option V)) (H : Hp) (s : Shared) : Prop where
  ok : X.Ok
  os : s.os = X.s₀.os
  bare : AllBare s.gens
  base : Un X.fs X.ex X.H₀ H X.s₀.heap s.heap
  loc : ∃ m, s.heap.Ns X.env.locals m ∧ ∀ (i : Nat) (x : Str) (v : V), X.N[i]? = some x → σ[i]? = some (some v) → Vis X.env.scope x → ∃ u, RelV v u ∧ Look X.env s.heap m x u
  cell : ∀ x c, X.env.cells.lookup x = some c → ∃ v, s.heap.IsCell c v
  free : H X.env.locals = none
  freeC : ∀ x c, X.env.cells.lookup x = some c → H c = none
  pin : ∀ p ∈ X.pn ++ pins, s.heap.get? p.1 = some p.2 ∧ H p.1 = none ∧ p.1 ≠ X.env.locals ∧ p.1 ∉ X.fs ∧ ∀ v, p.2.data ≠ .cell v
  hok : HOk X.prog X.w H s.heap
  len : σ.length = X.N.length

section
variable {X : Cx} {pins : List (Addr × Obj)} {σ : List (Option V)} {H H' : Hp} {s : Shared} {h' : Heap}

theorem Cx.Ok.nofr (ok : X.Ok) {b : Addr} {o : Obj} (e : X.base.get? b = some o) : b ∉ X.fs := fun hb => by
  have := (ok.funs.mem hb).1
  rw [e] at this; cases this
theorem Inv.bs (I : Inv X pins σ H s) : ∀ b o, X.base.get? b = some o → s.heap.get? b = some o ∧ H b = none := fun b o e =>
  ⟨I.base.keep b o (I.ok.bs b o e).1 (I.ok.bs b o e).2 (I.ok.nofr e) (I.ok.noex b o e), I.base.free b o (I.ok.bs b o e).1 (I.ok.bs b o e).2 (I.ok.noex b o e)⟩
theorem Inv.bk (I : Inv X pins σ H s) : ∀ b o, X.base.get? b = some o → s.heap.get? b = some o := fun b o e => (I.bs b o e).1
theorem Inv.mod (I : Inv X pins σ H s) : Mod X.K X.mg X.base := I.ok.mod
theorem Inv.kIn (I : Inv X pins σ H s) : X.K.In s.heap := I.ok.mod.kin.keeps I.bk
theorem Inv.nolimit (I : Inv X pins σ H s) : s.heap.NoLimit := I.ok.mod.nolimit.keeps I.bk
theorem Inv.lt (I : Inv X pins σ H s) : X.env.locals < s.heap.objs.size := let ⟨_, hn, _⟩ := I.loc; hn.lt
theorem Inv.sz (I : Inv X pins σ H s) : X.s₀.heap.objs.size ≤ s.heap.objs.size := Nat.le_trans I.ok.above (Nat.le_of_lt I.lt)
theorem Inv.nofs (I : Inv X pins σ H s) {a : Addr} (h : s.heap.objs.size ≤ a) : a ∉ X.fs := fun hb => by
  obtain ⟨_, o, ho, _⟩ := I.ok.funs.mem hb
  exact absurd (Nat.lt_of_lt_of_le (Heap.lt_size ho) (Nat.le_trans I.sz h)) (Nat.lt_irrefl _)
theorem Inv.cne (I : Inv X pins σ H s) : ∀ x c, X.env.cells.lookup x = some c → c ≠ X.env.locals := fun x c e z => by
  obtain ⟨v, o, ho, hd⟩ := I.cell x c e
  obtain ⟨m, ⟨o', es, ep, ho', hd', _⟩, _⟩ := I.loc
  rw [z, ho'] at ho; cases ho; rw [hd'] at hd; cases hd
theorem Inv.funs (I : Inv X pins σ H s) : s.heap.FunFrames X.base X.outer := by
  have all : ∀ (l : List Env), (∀ b ∈ frs l, b ∈ X.fs) → X.s₀.heap.FunFrames X.base l → s.heap.FunFrames X.base l := by
    intro l
    induction l with
    | nil => intro _ _; trivial
    | cons env r ih =>
      intro hs hl
      obtain ⟨hk, ⟨L, o, hf, hn, ho, hd⟩, hr⟩ := hl
      have hL : L ∈ X.fs := hs L (by unfold frs; rw [List.filterMap_cons, hf]; exact List.mem_cons_self)
      obtain ⟨sl, e⟩ := I.base.slot L o ho (I.ok.frf L hL) hL fun z => I.ok.exfs L z hL
      exact ⟨hk, ⟨L, _, hf, hn, e, hd⟩, ih (fun b hb => hs b (by unfold frs; rw [List.filterMap_cons, hf]; exact List.mem_cons_of_mem _ hb)) hr⟩
  exact all X.outer (fun _ hb => hb) I.ok.funs

/-- the frames that run, for a call -/
theorem Inv.stack (I : Inv X pins σ H s) : s.heap.FunFrames X.base X.stack := by
  rcases I.ok.stk with e | ⟨e, hf⟩
  · rw [e]; exact I.funs
  · rw [e]
    obtain ⟨m, hn, _⟩ := I.loc
    refine .cons (by rw [I.ok.kind]; decide) hf hn ?_ I.funs
    exact Heap.get?_none_of_le (Nat.le_trans I.ok.bsz I.ok.above)
theorem Inv.stkSub (I : Inv X pins σ H s) : ∀ b ∈ frs X.stack, b ∈ X.env.locals :: X.fs := fun b hb => by
  rcases I.ok.stk with e | ⟨e, hf⟩
  · rw [e] at hb; exact List.mem_cons_of_mem _ hb
  · rw [e] at hb
    unfold frs at hb
    rw [List.filterMap_cons, hf] at hb
    exact hb
theorem Inv.stkFree (I : Inv X pins σ H s) : ∀ b ∈ frs X.stack, H b = none := fun b hb => by
  rcases List.mem_cons.mp (I.stkSub b hb) with e | hb
  · rw [e]; exact I.free
  · obtain ⟨_, o, ho, _⟩ := I.ok.funs.mem hb
    exact I.base.free b o ho (I.ok.frf b hb) fun z => I.ok.exfs b z hb

/-- THE STEP: the untracked objects but the frame and the records at ch are kept (the callers' frames up to slots), the frame's map is kept, the new abstract heap is held -/
theorem Inv.step {g' : Array GenState} {t' : Nat} {d' : Drawn} {ch : List Addr} (I : Inv X pins σ H s)
    (hch : ∀ b ∈ ch, (b ∈ X.ex ∨ X.s₀.heap.objs.size ≤ b) ∧ b ≠ X.env.locals ∧ (∀ x c, X.env.cells.lookup x = some c → c ≠ b) ∧ ∀ p ∈ X.pn ++ pins, p.1 ≠ b)
    (keep : ∀ b o, b ≠ X.env.locals → b ∉ X.fs → b ∉ ch → s.heap.get? b = some o → H b = none → h'.get? b = some o)
    (slot : ∀ b o, b ≠ X.env.locals → b ∈ X.fs → b ∉ ch → s.heap.get? b = some o → H b = none → ∃ sl, h'.get? b = some { o with slots := sl }) (free : ∀ b o, b ∉ ch → s.heap.get? b = some o → H b = none → H' b = none)
    (there : ∀ b o, b ∉ ch → s.heap.get? b = some o → ∃ o', h'.get? b = some o')
    (tups : ∀ b xs, H b = some (.tup xs) → H' b = some (.tup xs)) (frzs : ∀ b o u, H b = some (.frz o u) → H' b = some (.frz o u)) (tbls : ∀ b ps, H b = some (.tbl ps) → ∃ more, H' b = some (.tbl (ps ++ more)))
    (ns : ∀ m, s.heap.Ns X.env.locals m → h'.Ns X.env.locals m) (hok : HOk X.prog X.w H' h') (hg : AllBare g') :
    Inv X pins σ H' { s with heap := h', gens := g', drawn := d', toks := t' } := by
  have neL : ∀ b o, X.s₀.heap.get? b = some o → b ≠ X.env.locals := fun b o e => Nat.ne_of_lt (Nat.lt_of_lt_of_le (Heap.lt_size e) I.ok.above)
  have neC : ∀ b o, X.s₀.heap.get? b = some o → b ∉ X.ex → b ∉ ch := fun b o e hx hb => by
    rcases (hch b hb).1 with z | z
    · exact hx z
    · exact absurd (Nat.lt_of_lt_of_le (Heap.lt_size e) z) (Nat.lt_irrefl _)
  have cellK : ∀ x c, X.env.cells.lookup x = some c → ∀ v, s.heap.IsCell c v → h'.IsCell c v := fun x c e v ⟨o, ho, hd⟩ => by
    have nch : c ∉ ch := fun z => (hch c z).2.2.1 x c e rfl
    by_cases hc : c ∈ X.fs
    · obtain ⟨sl, q⟩ := slot c o (I.cne x c e) hc nch ho (I.freeC x c e)
      exact ⟨_, q, hd⟩
    · exact ⟨o, keep c o (I.cne x c e) hc nch ho (I.freeC x c e), hd⟩
  refine ⟨I.ok, I.os, hg, ⟨fun b o e n hb hx => ?_, fun b o e n hb hx => ?_, fun b o e n hx => ?_, fun b o e hx => ?_, fun b xs e => tups b xs (I.base.tups b xs e), fun b o xs e => frzs b o xs (I.base.frzs b o xs e), fun b ps e => ?_⟩, ?_, fun x c e => ?_, ?_, fun x c e => ?_, fun p hp => ?_, hok, I.len⟩
  · exact keep b o (neL b o e) hb (neC b o e hx) (I.base.keep b o e n hb hx) (I.base.free b o e n hx)
  · obtain ⟨sl, e1⟩ := I.base.slot b o e n hb hx
    obtain ⟨sl', e2⟩ := slot b _ (neL b o e) hb (neC b o e hx) e1 (I.base.free b o e n hx)
    exact ⟨sl', e2⟩
  · obtain ⟨o', e1⟩ := I.base.there b o e hx
    exact free b o' (neC b o e hx) e1 (I.base.free b o e n hx)
  · obtain ⟨o', e1⟩ := I.base.there b o e hx
    exact there b o' (neC b o e hx) e1
  · obtain ⟨m1, e1⟩ := I.base.tbls b ps e
    obtain ⟨m2, e2⟩ := tbls b _ e1
    exact ⟨m1 ++ m2, by rw [e2, Array.append_assoc]⟩
  · obtain ⟨m, hn, hl⟩ := I.loc
    refine ⟨m, ns m hn, fun i x v e1 e2 e3 => ?_⟩
    obtain ⟨u, r, l⟩ := hl i x v e1 e2 e3
    refine ⟨u, r, ?_⟩
    rcases l with l | ⟨k, c, e, z⟩
    · exact .inl l
    · exact .inr ⟨k, c, e, cellK x c e _ z⟩
  · obtain ⟨v, z⟩ := I.cell x c e
    exact ⟨v, cellK x c e v z⟩
  · obtain ⟨m, ⟨o, _, _, ho, _⟩, _⟩ := I.loc
    exact free _ o (fun z => (hch _ z).2.1 rfl) ho I.free
  · obtain ⟨v, o, ho, hd⟩ := I.cell x c e
    exact free c o (fun z => (hch c z).2.2.1 x c e rfl) ho (I.freeC x c e)
  · obtain ⟨e, n, ne, nf, d⟩ := I.pin p hp
    have nch : p.1 ∉ ch := fun z => (hch p.1 z).2.2.2 p hp rfl
    exact ⟨keep p.1 p.2 ne nf nch e n, free p.1 p.2 nch e n, ne, nf, d⟩
/-- .. where the frame's own object is kept too -/
theorem Inv.un {t' : Nat} (I : Inv X pins σ H s) (u : Un X.fs [] H H' s.heap h') (hok : HOk X.prog X.w H' h') : Inv X pins σ H' { s with heap := h', toks := t' } := by
  obtain ⟨m, ⟨o, es, ep, ho, r⟩, _⟩ := id I.loc
  obtain ⟨sl, hL⟩ := u.any ho I.free (by simp)
  exact I.step (g' := s.gens) (d' := s.drawn) (ch := []) (fun _ z => nomatch z) (fun b o _ hb _ e n => u.keep b o e n hb (by simp)) (fun b o _ hb _ e n => u.slot b o e n hb (by simp)) (fun b o _ e n => u.free b o e n (by simp)) (fun b o _ e => u.there b o e (by simp)) u.tups u.frzs u.tbls (fun m' hm => by
    obtain ⟨o', es', ep', ho', r'⟩ := hm
    rw [ho] at ho'; cases ho'
    exact ⟨_, es', ep', hL, r'⟩) hok I.bare
/-- behind a call (or a comprehension's block): the slots of this frame may have changed too, the records at ch may have turned -/
theorem Inv.call {g' : Array GenState} {t' : Nat} {d' : Drawn} {ch : List Addr} (I : Inv X pins σ H s) (u : Un (frs X.stack) ch H H' s.heap h') (hok : HOk X.prog X.w H' h') (hg : AllBare g')
    (hch : ∀ b ∈ ch, (b ∈ X.ex ∨ X.s₀.heap.objs.size ≤ b) ∧ b ≠ X.env.locals ∧ (∀ x c, X.env.cells.lookup x = some c → c ≠ b) ∧ ∀ p ∈ X.pn ++ pins, p.1 ≠ b) :
    Inv X pins σ H' { s with heap := h', gens := g', drawn := d', toks := t' } := by
  obtain ⟨m, ⟨o, es, ep, ho, r⟩, _⟩ := id I.loc
  obtain ⟨sl, hL⟩ := u.any ho I.free fun z => (hch _ z).2.1 rfl
  exact I.step (ch := ch) hch (fun b o hL hb hc e n => u.keep b o e n (fun z => (List.mem_cons.mp (I.stkSub b z)).elim hL hb) hc) (fun b o _ _ hc e n => u.any e n hc) (fun b o hc e n => u.free b o e n hc) (fun b o hc e => u.there b o e hc) u.tups u.frzs u.tbls (fun m' hm => by
    obtain ⟨o', es', ep', ho', r'⟩ := hm
    rw [ho] at ho'; cases ho'
    exact ⟨_, es', ep', hL, r'⟩) hok hg
/-- an untracked record of ours (an iterator) has turned -/
theorem Inv.turned {t' : Nat} {it : Addr} (I : Inv X pins σ H s) (k : ∀ b o, b ≠ it → s.heap.get? b = some o → h'.get? b = some o) (hn : H it = none) (hL : it ≠ X.env.locals)
    (h1 : it ∈ X.ex ∨ X.s₀.heap.objs.size ≤ it) (h2 : ∀ x c, X.env.cells.lookup x = some c → c ≠ it) (h3 : ∀ p ∈ X.pn ++ pins, p.1 ≠ it) : Inv X pins σ H { s with heap := h', toks := t' } := by
  have nit : ∀ b u, H b = some u → b ≠ it := fun b u e z => by rw [z, hn] at e; cases e
  refine I.step (g' := s.gens) (d' := s.drawn) (ch := [it]) (fun b hb => ?_) (fun b o _ _ hc e _ => k b o (fun z => hc (by simp [z])) e) (fun b o _ _ hc e _ => ⟨o.slots, k b o (fun z => hc (by simp [z])) e⟩) (fun _ _ _ _ n => n)
    (fun b o hc e => ⟨o, k b o (fun z => hc (by simp [z])) e⟩) (fun _ _ e => e) (fun _ _ _ e => e) (fun b ps e => ⟨#[], by rw [e]; simp⟩) (fun m hm => ?_) (fun b u e => ?_) I.bare
  · have e : b = it := by simpa using hb
    subst e
    exact ⟨h1, hL, h2, h3⟩
  · obtain ⟨o, es, ep, ho, r⟩ := hm
    exact ⟨o, es, ep, k _ o (Ne.symm hL) ho, r⟩
  · refine (I.hok b u e).stay (fun c v hc q => k c v ?_ q) (fun _ q => q) fun _ _ q => q
    rcases hc with z | z
    · rw [z]; exact nit b u e
    · exact nit c _ z
theorem Inv.tok (I : Inv X pins σ H s) (t : Nat) : Inv X pins σ H { s with toks := t } := I.un (h' := s.heap) (t' := t) Un.refl I.hok
/-- all objects kept -/
theorem Inv.kept {t' : Nat} (I : Inv X pins σ H s) (k : ∀ b u, s.heap.get? b = some u → h'.get? b = some u) : Inv X pins σ H { s with heap := h', toks := t' } := I.un (Un.kept k) (I.hok.kept k)
/-- a new object laid and tracked -/
theorem Inv.laid {a : Addr} {o : HO} {t' : Nat} (I : Inv X pins σ H s) (k : ∀ b u, s.heap.get? b = some u → h'.get? b = some u) (hp : s.heap.objs.size ≤ a) (new : ObjOk X.prog X.w (upd H a o) h' a o) :
    Inv X pins σ (upd H a o) { s with heap := h', toks := t' } := I.un (Un.laid k hp (I.hok.fresh hp)) (I.hok.laid k hp new)
/-- an object written -/
theorem Inv.write {x e : Addr} {o : HO} {t' : Nat} (I : Inv X pins σ H s) (mu : Mut (H x)) (he : e = x ∨ H e = some (.own x)) (k : ∀ b u, b ≠ e → s.heap.get? b = some u → h'.get? b = some u) (heo : ∃ u, h'.get? e = some u)
    (new : ObjOk X.prog X.w (upd H x o) h' x o) : Inv X pins σ (upd H x o) { s with heap := h', toks := t' } := I.un (Un.write mu he k heo) (I.hok.write mu he k heo new)
/-- forgetting slots, pins -/
theorem Inv.weak {σ' : List (Option V)} (I : Inv X pins σ H s) (hl : σ'.length = σ.length) (w : ∀ (i : Nat) v, σ'[i]? = some (some v) → σ[i]? = some (some v)) : Inv X pins σ' H s :=
  ⟨I.ok, I.os, I.bare, I.base, let ⟨m, hn, hl'⟩ := I.loc; ⟨m, hn, fun i x v e1 e2 e3 => hl' i x v e1 (w i v e2) e3⟩, I.cell, I.free, I.freeC, I.pin, I.hok, hl.trans I.len⟩
theorem Inv.pins_of {pins' : List (Addr × Obj)} (I : Inv X pins σ H s) (h : ∀ p ∈ pins', s.heap.get? p.1 = some p.2 ∧ H p.1 = none ∧ p.1 ≠ X.env.locals ∧ p.1 ∉ X.fs ∧ ∀ v, p.2.data ≠ .cell v) : Inv X pins' σ H s :=
  ⟨I.ok, I.os, I.bare, I.base, I.loc, I.cell, I.free, I.freeC, fun p hp => (List.mem_append.mp hp).elim (fun z => I.pin p (List.mem_append_left _ z)) (h p), I.hok, I.len⟩

theorem nodup_ix {N : List Str} (hN : N.Nodup) {i j : Nat} {x : Str} (a : N[i]? = some x) (b : N[j]? = some x) : i = j := by
  obtain ⟨h1, e1⟩ := List.getElem?_eq_some_iff.mp a
  obtain ⟨h2, e2⟩ := List.getElem?_eq_some_iff.mp b
  exact (List.getElem_inj hN).mp (e1.trans e2.symm)

/-- a name is stored; what changed -/
theorem store_ok2 {M : Model} {A : Around} {E : Value → Shared → Prop} {i : Nat} {x : Str} {v : V} {u : Value} {Q : Unit → Shared → Prop} (I : Inv X pins σ H s) (hN : X.N.Nodup) (hi : X.N[i]? = some x) (hx : Loc X.env.scope x) (r : RelV v u)
    (h : ∀ s', Inv X pins (σ.set i (some v)) H s' → (∃ a, Heap.SameBut a s.heap s'.heap ∧ (a = X.env.locals ∨ X.env.cells.lookup x = some a)) → Q () s') (hf : X.fn x = true ∨ X.env.scope.names.lookup x = some .local := by first | exact .inl rfl | exact .inr rfl | assumption) : wpAny M A (storeName X.env x u) Q E s := by
  obtain ⟨m, hn, hl⟩ := id I.loc
  have hcls : (X.env.scope.kind == .class || (X.env.scope.kind == .module && X.env.locals != X.env.globals)) = false := by rw [I.ok.kind]; rfl
  have hiσ : i < σ.length := by rw [I.len]; exact (List.getElem?_eq_some_iff.mp hi).1
  have cne := I.cne
  have tracked : ∀ {a : Addr} {h' : Heap}, (∃ o, s.heap.get? a = some o ∧ H a = none) → Heap.SameBut a s.heap h' → HOk X.prog X.w H h' := fun {a h'} ha hs b ob e => by
    obtain ⟨_, _, hfree⟩ := ha
    refine (I.hok b ob e).stay (fun c w' hc q => (hs.2 c ?_).trans q) (fun _ q => q) fun _ _ q => q
    rintro rfl
    rcases hc with rfl | hc
    · rw [hfree] at e; cases e
    · rw [hfree] at hc; cases hc
  rcases hx with hk | hk
  · refine wpAny_storeName_local hk hn (fun h' hn' hs => ?_) hcls
    obtain ⟨oL, _, _, hoL, _⟩ := id hn
    refine h _ ⟨I.ok, I.os, I.bare, ⟨fun b o e n hb hx => ?_, fun b o e n hb hx => ?_, I.base.free, fun b o e hx => ?_, I.base.tups, I.base.frzs, I.base.tbls⟩, ⟨_, hn', fun j y v' e1 e2 e3 => ?_⟩, fun y c e => ?_, I.free, I.freeC, fun p hp => ?_, tracked ⟨oL, hoL, I.free⟩ hs, by simpa using I.len⟩ ⟨_, hs, .inl rfl⟩
    · exact (hs.2 b (Nat.ne_of_lt (Nat.lt_of_lt_of_le (Heap.lt_size e) I.ok.above))).trans (I.base.keep b o e n hb hx)
    · obtain ⟨sl, e1⟩ := I.base.slot b o e n hb hx
      exact ⟨sl, (hs.2 b (Nat.ne_of_lt (Nat.lt_of_lt_of_le (Heap.lt_size e) I.ok.above))).trans e1⟩
    · obtain ⟨o', e1⟩ := I.base.there b o e hx
      exact ⟨o', (hs.2 b (Nat.ne_of_lt (Nat.lt_of_lt_of_le (Heap.lt_size e) I.ok.above))).trans e1⟩
    · by_cases hj : j = i
      · subst hj
        rw [hi] at e1; cases e1
        rw [List.getElem?_set_self hiσ] at e2
        cases e2
        exact ⟨u, r, .inl ⟨hk, by simp⟩⟩
      · rw [List.getElem?_set_ne (Ne.symm hj)] at e2
        obtain ⟨u', r', q⟩ := hl j y v' e1 e2 e3
        refine ⟨u', r', ?_⟩
        rcases q with ⟨k, e⟩ | ⟨k, c, e, z⟩
        · refine .inl ⟨k, ?_⟩
          have : y ≠ x := fun e => hj (nodup_ix hN e1 (e ▸ hi))
          simp [this, e]
        · exact .inr ⟨k, c, e, z.sameBut hs (cne y c e)⟩
    · obtain ⟨w', z⟩ := I.cell y c e
      exact ⟨w', z.sameBut hs (cne y c e)⟩
    · obtain ⟨e, n, ne, nf, d⟩ := I.pin p hp
      exact ⟨(hs.2 p.1 ne).trans e, n, ne, nf, d⟩
  · have hfn : X.fn x = true := by
      rcases hf with z | z
      · exact z
      · rw [z] at hk; cases hk
    obtain ⟨c, hc⟩ := I.ok.has x (.inl hk)
    obtain ⟨w', z⟩ := I.cell x c hc
    refine wpAny_storeName_cell I.ok.kind hk hc z (fun h' hc' hs => ?_)
    obtain ⟨oc, hoc, hocd⟩ := id z
    refine h { s with heap := h' } ⟨I.ok, I.os, I.bare, ⟨fun b o e n hb hx => ?_, fun b o e n hb hx => ?_, I.base.free, fun b o e hx => ?_, I.base.tups, I.base.frzs, I.base.tbls⟩, ⟨m, hn.sameBut hs (Ne.symm (cne x c hc)), fun j y v' e1 e2 e3 => ?_⟩, fun y c' e => ?_, I.free, I.freeC, fun p hp => ?_, tracked ⟨oc, hoc, I.freeC x c hc⟩ hs, by simpa using I.len⟩ ⟨c, hs, .inr hc⟩
    · exact (hs.2 b (Nat.ne_of_lt (Nat.lt_of_lt_of_le (Heap.lt_size e) (I.ok.cab x c hfn hc)))).trans (I.base.keep b o e n hb hx)
    · obtain ⟨sl, e1⟩ := I.base.slot b o e n hb hx
      exact ⟨sl, (hs.2 b (Nat.ne_of_lt (Nat.lt_of_lt_of_le (Heap.lt_size e) (I.ok.cab x c hfn hc)))).trans e1⟩
    · obtain ⟨o', e1⟩ := I.base.there b o e hx
      exact ⟨o', (hs.2 b (Nat.ne_of_lt (Nat.lt_of_lt_of_le (Heap.lt_size e) (I.ok.cab x c hfn hc)))).trans e1⟩
    · by_cases hj : j = i
      · subst hj
        rw [hi] at e1; cases e1
        rw [List.getElem?_set_self hiσ] at e2
        cases e2
        exact ⟨u, r, .inr ⟨.inl hk, c, hc, hc'⟩⟩
      · rw [List.getElem?_set_ne (Ne.symm hj)] at e2
        obtain ⟨u', r', q⟩ := hl j y v' e1 e2 e3
        refine ⟨u', r', ?_⟩
        rcases q with q | ⟨k, c', e, z'⟩
        · exact .inl q
        · refine .inr ⟨k, c', e, z'.sameBut hs ?_⟩
          rintro rfl
          exact hj (nodup_ix hN e1 (I.ok.inj _ _ _ e hc ▸ hi))
    · by_cases hcc : c' = c
      · subst hcc; exact ⟨_, hc'⟩
      · obtain ⟨w2, z2⟩ := I.cell y c' e
        exact ⟨w2, z2.sameBut hs hcc⟩
    · obtain ⟨e, n, ne, nf, d⟩ := I.pin p hp
      refine ⟨(hs.2 p.1 ?_).trans e, n, ne, nf, d⟩
      intro q
      rw [q, hoc] at e
      have q' : oc = p.2 := Option.some.inj e
      exact d w' (by rw [← q']; exact hocd)
theorem store_ok {M : Model} {A : Around} {E : Value → Shared → Prop} {i : Nat} {x : Str} {v : V} {u : Value} {Q : Unit → Shared → Prop} (I : Inv X pins σ H s) (hN : X.N.Nodup) (hi : X.N[i]? = some x) (hx : Loc X.env.scope x) (r : RelV v u)
    (h : ∀ s', Inv X pins (σ.set i (some v)) H s' → Q () s') (hf : X.fn x = true ∨ X.env.scope.names.lookup x = some .local := by first | exact .inl rfl | exact .inr rfl | assumption) : wpAny M A (storeName X.env x u) Q E s :=
  store_ok2 I hN hi hx r (fun s' I' _ => h s' I') hf
/-- behind a call or a block, the state as it is -/
theorem Inv.call' {s' : Shared} {ch : List Addr} (I : Inv X pins σ H s) (ho : s'.os = s.os) (u : Un (frs X.stack) ch H H' s.heap s'.heap) (hok : HOk X.prog X.w H' s'.heap) (hg : AllBare s'.gens)
    (hch : ∀ b ∈ ch, (b ∈ X.ex ∨ X.s₀.heap.objs.size ≤ b) ∧ b ≠ X.env.locals ∧ (∀ x c, X.env.cells.lookup x = some c → c ≠ b) ∧ ∀ p ∈ X.pn ++ pins, p.1 ≠ b) : Inv X pins σ H' s' := by
  obtain ⟨h', g', d', t', o'⟩ := s'
  have e : o' = s.os := ho
  subst e
  exact I.call (g' := g') (t' := t') (d' := d') u hok hg hch
end

/-! ### the judgements -/
/-- an exception: its class, its own dict's address (where it has one), the abstract heap behind it -/
abbrev XK := Value → Option Addr → Hp → Prop
abbrev St := List (Option V)
abbrev VK := V → Hp → Prop
/-- an expression's reading; a test's; an argument list's -/
abbrev TE := St → Hp → VK → Prop
abbrev TT := St → Hp → (Bool → Hp → Prop) → Prop
abbrev TA := St → Hp → (List V → Hp → Prop) → Prop
/-- what is wanted behind a statement -/
structure Ends where
  nx : St → Hp → Prop
  rt : VK
  bk : St → Hp → Prop := fun _ _ => False
  ct : St → Hp → Prop := fun _ _ => False
abbrev TS := Ends → St → Hp → Prop

def EP (X : Cx) (pins : List (Addr × Obj)) (σ : St) (Q : VK) (u : Value) (s' : Shared) : Prop := ∃ v H', Inv X pins σ H' s' ∧ RelV v u ∧ Q v H'
def TP (X : Cx) (pins : List (Addr × Obj)) (σ : St) (Q : Bool → Hp → Prop) (b : Bool) (s' : Shared) : Prop := ∃ H', Inv X pins σ H' s' ∧ Q b H'
def AP (X : Cx) (pins : List (Addr × Obj)) (σ : St) (Q : List V → Hp → Prop) (us : List Value) (s' : Shared) : Prop := ∃ vs H', Inv X pins σ H' s' ∧ Vals vs us ∧ Q vs H'
def SP (X : Cx) (pins : List (Addr × Obj)) (D : Ends) (f : Flow) (s' : Shared) : Prop :=
  match f with
  | .next => ∃ σ' H', Inv X pins σ' H' s' ∧ D.nx σ' H'
  | .brk => ∃ σ' H', Inv X pins σ' H' s' ∧ D.bk σ' H'
  | .cont => ∃ σ' H', Inv X pins σ' H' s' ∧ D.ct σ' H'
  | .ret u => ∃ v σ' H', Inv X pins σ' H' s' ∧ RelV v u ∧ D.rt v H'

def PE (X : Cx) (e : Expr) (t : TE) : Prop :=
  ∀ (pins : List (Addr × Obj)) (s : Shared) (σ : St) (H : Hp) (Q : VK), Inv X pins σ H s → t σ H Q → wpAny (model X.prog X.w) X.A (eval e X.env) (EP X pins σ Q) X.xe s
def PT (X : Cx) (e : Expr) (t : TT) : Prop :=
  ∀ (pins : List (Addr × Obj)) (s : Shared) (σ : St) (H : Hp) (Q : Bool → Hp → Prop), Inv X pins σ H s → t σ H Q → wpAny (model X.prog X.w) X.A (isTrue e X.env (eval e X.env)) (TP X pins σ Q) X.xe s
/-- a test whatever its 'whole' is (and, or) -/
def PW (X : Cx) (e : Expr) (t : TT) : Prop :=
  ∀ (whole : Sem Value) (pins : List (Addr × Obj)) (s : Shared) (σ : St) (H : Hp) (Q : Bool → Hp → Prop), Inv X pins σ H s → t σ H Q → wpAny (model X.prog X.w) X.A (isTrue e X.env whole) (TP X pins σ Q) X.xe s
theorem PW.pt {X : Cx} {e : Expr} {t : TT} (h : PW X e t) : PT X e t := h _
/-- an argument list (no star), from the left -/
def PA (X : Cx) (es : List Expr) (t : TA) : Prop :=
  ∀ (pos : Pos) (pins : List (Addr × Obj)) (s : Shared) (σ : St) (H : Hp) (Q : List V → Hp → Prop), Inv X pins σ H s → t σ H Q → wpAny (model X.prog X.w) X.A (spliced (backTo pos (starEach es X.env))) (AP X pins σ Q) X.xe s
def PS (X : Cx) (st : Stmt) (t : TS) : Prop :=
  ∀ (pins : List (Addr × Obj)) (s : Shared) (σ : St) (H : Hp) (D : Ends), Inv X pins σ H s → t D σ H → wpAny (model X.prog X.w) X.A (exec st X.env) (SP X pins D) X.xe s
def PSs (X : Cx) (st : List Stmt) (t : TS) : Prop :=
  ∀ (pins : List (Addr × Obj)) (s : Shared) (σ : St) (H : Hp) (D : Ends), Inv X pins σ H s → t D σ H → wpAny (model X.prog X.w) X.A (execs st X.env) (SP X pins D) X.xe s
/-- weaken the end -/
theorem thn {α : Type} {t : Sem α} {Q Q' : α → Shared → Prop} {M : Model} {A : Around} {E : Value → Shared → Prop} {s : Shared} (h : wpAny M A t Q E s) (hQ : ∀ a s, Q a s → Q' a s) : wpAny M A t Q' E s := wpAny_mono h hQ fun _ _ x => x
end L2

namespace L2
open PySem PySem.Spec PyProof.Rows
section
variable {X : Cx}

/-! ### names and constants -/
def tVar (i : Nat) : TE := fun σ H Q => ∃ v, σ[i]? = some (some v) ∧ Q v H
def tC (v : V) : TE := fun _ H Q => Q v H
theorem pe_var {i : Nat} {x : Str} {pos : Pos} (hN : X.N[i]? = some x) (hv : Vis X.env.scope x) (hd : (x == ("__debug__" : Str)) = false := by decide) (hcd : (x == ("__classdict__" : Str)) = false := by decide) : PE X (.Name x pos) (tVar i) := by
  intro pins s σ H Q I h
  obtain ⟨v, e, h⟩ := h
  obtain ⟨m, hn, hl⟩ := I.loc
  obtain ⟨u, r, l⟩ := hl i x v hN e hv
  have fin : EP X pins σ Q u s := ⟨v, H, I, r, h⟩
  rcases l with ⟨hk, hm⟩ | ⟨hk, c, hc, hcell⟩
  · exact wpAny_Name (wpAny_loadName_local I.ok.kind hk hn hm fin) hd
  · rcases hk with hk | hk
    · exact wpAny_Name (wpAny_loadName_cell I.ok.kind hk hc hcell fin) hd
    · exact wpAny_Name (wpAny_loadName_free I.ok.kind hk hc hcell fin hcd) hd
theorem pe_int {i j pos} : PE X (.Constant (.int i) j pos) (tC (.int i)) := fun _ _ _ H _ I h => wpAny_Constant_int ⟨.int i, H, I.tok _, ⟨_, rfl⟩, h⟩
theorem pe_bl {b j pos} : PE X (.Constant (.bool b) j pos) (tC (.bl b)) := fun _ _ _ H _ I h => Constant_bool ⟨.bl b, H, I, rfl, h⟩
theorem pe_non {j pos} : PE X (.Constant .none j pos) (tC .non) := fun _ _ _ H _ I h => Constant_none ⟨.non, H, I, rfl, h⟩
/-- a global name of the def -/
def Gl (X : Cx) (x : Str) : Prop := X.env.kindOf x = some .globalImplicit
theorem ld_glob {E : Value → Shared → Prop} {pins : List (Addr × Obj)} {s : Shared} {σ : St} {H : Hp} {x : Str} {u : Value} {pos : Pos} {Q : Value → Shared → Prop} (I : Inv X pins σ H s) (hg : Gl X x) (hm : X.mg x = some u) (h : Q u s)
    (hd : (x == ("__debug__" : Str)) = false := by decide) : wpAny (model X.prog X.w) X.A (eval (.Name x pos) X.env) Q E s :=
  Calls.Name_function_global I.ok.kind hg (Calls.loadGlobal_global (by rw [I.ok.glob]; exact I.mod.glob.keeps I.bk) hm h) hd
theorem ld_blt {E : Value → Shared → Prop} {pins : List (Addr × Obj)} {s : Shared} {σ : St} {H : Hp} {x : Str} {u : Value} {pos : Pos} {Q : Value → Shared → Prop} (I : Inv X pins σ H s) (hg : Gl X x) (hm : X.mg x = none) (hv : bootBuiltins x = some u) (h : Q u s)
    (hn : x ≠ "__name__" := by decide) (hd : (x == ("__debug__" : Str)) = false := by decide) : wpAny (model X.prog X.w) X.A (eval (.Name x pos) X.env) Q E s := by
  obtain ⟨mb, h1, h2⟩ := I.mod.blt
  exact Calls.Name_function_global I.ok.kind hg (Calls.loadGlobal_builtin (by rw [I.ok.glob]; exact I.mod.glob.keeps I.bk) hm (by rw [I.ok.blt]; exact h1.keeps I.bk) ((h2 x hn).trans hv) h) hd
/-- a module's constant, a class, a function, as a value -/
theorem pe_glob {x : Str} {v : V} {u : Value} {pos : Pos} (hg : Gl X x) (hm : X.mg x = some u) (r : RelV v u) (hd : (x == ("__debug__" : Str)) = false := by decide) : PE X (.Name x pos) (tC v) :=
  fun _ _ _ H _ I h => ld_glob I hg hm ⟨v, H, I, r, h⟩ hd
theorem pe_bltn {x : Str} {v : V} {u : Value} {pos : Pos} (hg : Gl X x) (hm : X.mg x = none) (hv : bootBuiltins x = some u) (r : RelV v u) (hn : x ≠ "__name__" := by decide) (hd : (x == ("__debug__" : Str)) = false := by decide) : PE X (.Name x pos) (tC v) :=
  fun _ _ _ H _ I h => ld_blt I hg hm hv ⟨v, H, I, r, h⟩ hn hd

/-! ### arithmetic -/
/-- two ints -/
def t2I (ta tb : TE) (k : Int → Int → Hp → Prop) : St → Hp → Prop := fun σ H => ta σ H fun x H1 => tb σ H1 fun y H2 => ∃ i j, x = .int i ∧ y = .int j ∧ k i j H2
def tAdd (ta tb : TE) : TE := fun σ H Q => t2I ta tb (fun i j H2 => Q (.int (i + j)) H2) σ H
def tSub (ta tb : TE) : TE := fun σ H Q => t2I ta tb (fun i j H2 => Q (.int (i - j)) H2) σ H
/-- the left factor below 2^64 -/
def tMul (ta tb : TE) : TE := fun σ H Q => t2I ta tb (fun i j H2 => (-(2 ^ 64) < i ∧ i < 2 ^ 64) ∧ Q (.int (i * j)) H2) σ H
variable {a b : Expr} {ta tb : TE} {pos : Pos}
/-! ### comparisons -/
def PC (X : Cx) (op : CmpOp) (a b : Expr) (t : TE) : Prop :=
  ∀ (pins : List (Addr × Obj)) (s : Shared) (σ : St) (H : Hp) (Q : VK), Inv X pins σ H s → t σ H Q →
    wpAny (model X.prog X.w) X.A (eval a X.env) (fun v s₁ => wpAny (model X.prog X.w) X.A (eval b X.env) (fun u s₂ => wpAny (model X.prog X.w) X.A (compareOp op v u) (EP X pins σ Q) X.xe s₂) X.xe s₁) X.xe s
def tCmp (p : Int → Int → Bool) (ta tb : TE) : TE := fun σ H Q => t2I ta tb (fun i j H2 => Q (.bl (p i j)) H2) σ H
abbrev tLt : TE → TE → TE := tCmp fun i j => decide (i < j)
abbrev tLe : TE → TE → TE := tCmp fun i j => decide (i ≤ j)
abbrev tGt : TE → TE → TE := tCmp fun i j => decide (j < i)
abbrev tGe : TE → TE → TE := tCmp fun i j => decide (j ≤ i)
abbrev tEqI : TE → TE → TE := tCmp fun i j => decide (i = j)
abbrev tNeI : TE → TE → TE := tCmp fun i j => !decide (i = j)
/-- is None -/
def tIsN (ta : TE) : TE := fun σ H Q => ta σ H fun x H1 => Q (.bl (decide (x = .non))) H1
def tNotN (ta : TE) : TE := fun σ H Q => ta σ H fun x H1 => Q (.bl (!decide (x = .non))) H1
/-- a comparison as a value, as a test -/
def tB (t : TE) : TT := fun σ H Q => t σ H fun x H1 => ∃ c, x = .bl c ∧ Q c H1
/-- an expression whose value is a bool, as a test -/
theorem pt_val {e : Expr} {t : TE} (h : PE X e t) (he : ∀ whole, isTrue e X.env whole = (do let v ← whole; standAt e.pos; holding [v] (truthy v)) := by intro _; rfl) : PT X e (tB t) := by
  intro pins s σ H Q I hw
  refine isTrue_plain (thn (h pins s σ H _ I hw) fun v s1 ⟨x, H1, I1, r1, q1⟩ => ?_) (he _)
  obtain ⟨d, rfl, q⟩ := q1
  cases r1
  exact wpAny_truthy_bool ⟨H1, I1, q⟩

/-! ### and, or, not -/
variable {tA tB' : TT} {rest : List Expr}
def tAnd (t u : TT) : TT := fun σ H Q => t σ H fun c H1 => if c = true then u σ H1 Q else Q false H1
def tOr (t u : TT) : TT := fun σ H Q => t σ H fun c H1 => if c = true then Q true H1 else u σ H1 Q
def tNot (t : TT) : TT := fun σ H Q => t σ H fun c H1 => Q (!c) H1
theorem pw_and1 (ha : PT X a tA) : PW X (.BoolOp .And [a] pos) tA := by
  intro wh pins s σ H Q I h
  refine isTrue_and (thn (ha pins s σ H Q I h) fun c s1 e => ?_)
  cases c with
  | true => exact isTrue_and_nil e
  | false => exact e
theorem pw_or1 (ha : PT X a tA) : PW X (.BoolOp .Or [a] pos) tA := by
  intro wh pins s σ H Q I h
  refine isTrue_or (thn (ha pins s σ H Q I h) fun c s1 e => ?_)
  cases c with
  | false => exact isTrue_or_nil e
  | true => exact e
theorem pw_and (ha : PT X a tA) (hb : PW X (.BoolOp .And (b :: rest) pos) tB') : PW X (.BoolOp .And (a :: b :: rest) pos) (tAnd tA tB') := by
  intro wh pins s σ H Q I h
  refine isTrue_and (thn (ha pins s σ H _ I h) fun c s1 ⟨H1, I1, q1⟩ => ?_)
  cases c with
  | true => exact hb wh pins s1 σ H1 Q I1 q1
  | false => exact ⟨H1, I1, q1⟩
theorem pw_or (ha : PT X a tA) (hb : PW X (.BoolOp .Or (b :: rest) pos) tB') : PW X (.BoolOp .Or (a :: b :: rest) pos) (tOr tA tB') := by
  intro wh pins s σ H Q I h
  refine isTrue_or (thn (ha pins s σ H _ I h) fun c s1 ⟨H1, I1, q1⟩ => ?_)
  cases c with
  | true => exact ⟨H1, I1, q1⟩
  | false => exact hb wh pins s1 σ H1 Q I1 q1
theorem pt_not (ha : PT X a tA) : PT X (.UnaryOp .Not a pos) (tNot tA) := by
  intro pins s σ H Q I h
  exact isTrue_not (ha pins s σ H (fun c H1 => Q (!c) H1) I h)
/-- .. as values (bools) -/
def tAndV (ta tb : TE) : TE := fun σ H Q => ta σ H fun x H1 => ∃ c, x = .bl c ∧ if c = true then tb σ H1 Q else Q (.bl false) H1
def tOrV (ta tb : TE) : TE := fun σ H Q => ta σ H fun x H1 => ∃ c, x = .bl c ∧ if c = true then Q (.bl true) H1 else tb σ H1 Q
def tNotV (ta : TE) : TE := fun σ H Q => ta σ H fun x H1 => ∃ c, x = .bl c ∧ Q (.bl (!c)) H1
theorem pe_one {op} {t : TE} (h : PE X a t) : PE X (.BoolOp op [a] pos) t := fun pins s σ H Q I hw => BoolOp_one (h pins s σ H Q I hw)
theorem pe_and (ha : PE X a ta) (hb : PE X (.BoolOp .And (b :: rest) pos) tb) : PE X (.BoolOp .And (a :: b :: rest) pos) (tAndV ta tb) := by
  intro pins s σ H Q I h
  refine BoolOp_and (thn (ha pins s σ H _ I h) fun v s1 ⟨x, H1, I1, r1, q1⟩ => ?_)
  obtain ⟨c, rfl, q1⟩ := q1
  cases r1
  refine wpAny_truthy_bool ?_
  cases c with
  | true => exact hb pins s1 σ H1 Q I1 q1
  | false => exact ⟨.bl false, H1, I1, rfl, q1⟩
theorem pe_not (ha : PE X a ta) : PE X (.UnaryOp .Not a pos) (tNotV ta) := by
  intro pins s σ H Q I h
  refine UnaryOp_ (thn (ha pins s σ H _ I h) fun v s1 ⟨x, H1, I1, r1, q1⟩ => ?_)
  obtain ⟨c, rfl, q1⟩ := q1
  cases r1
  exact not_of (wpAny_truthy_bool ⟨.bl (!c), H1, I1, rfl, q1⟩)
/-- a if t else b -/
def tIf (t : TT) (ta tb : TE) : TE := fun σ H Q => t σ H fun c H1 => if c = true then ta σ H1 Q else tb σ H1 Q
end
end L2

namespace L2
open PySem PySem.Spec PyProof.Rows

/-! ### a list, a tuple that is read: tracked, frozen, or an object of the module -/
def SqL (K : PySem.W.Frag) (H : Hp) (a : Addr) (xs : List V) : Prop :=
  Rd H a (.lst xs) ∨
    ∃ (o : Obj) (its : Array Value) (n : Nat), K.lookup a = some o ∧ o.cls = .type "list" ∧ o.dict = none ∧ o.data = .seq its n ∧ its.size ≤ sizeLine ∧ Vals xs its.toList
def SqT (K : PySem.W.Frag) (H : Hp) (a : Addr) (xs : List V) : Prop :=
  Rd H a (.tup xs) ∨
    ∃ (o : Obj) (its : Array Value) (n : Nat), K.lookup a = some o ∧ o.cls = .type "tuple" ∧ o.data = .seq its n ∧ its.size ≤ sizeLine ∧ Vals xs its.toList
def absV : Value → Option V
  | .none => some .non
  | .bool b => some (.bl b)
  | .int i _ => some (.int i)
  | .str x _ => some (.str x)
  | .bytes b _ => some (.byt b)
  | .float b _ => some (.flt b)
  | .ref a => some (.ref a)
  | .type n => some (.ty n)
  | _ => none
theorem RelV.abs {x : V} {u : Value} (r : RelV x u) : absV u = some x := by
  cases x with
  | non => cases r; rfl
  | bl _ => cases r; rfl
  | int _ => obtain ⟨t, rfl⟩ := r; rfl
  | str _ => obtain ⟨t, rfl⟩ := r; rfl
  | byt _ => obtain ⟨t, rfl⟩ := r; rfl
  | flt _ => obtain ⟨t, rfl⟩ := r; rfl
  | ref _ => cases r; rfl
  | ty _ => cases r; rfl
theorem RelV.inj {x y : V} {u : Value} (r : RelV x u) (q : RelV y u) : x = y := Option.some.inj (r.abs.symm.trans q.abs)
theorem Vals.inj : ∀ {xs ys : List V} {us : List Value}, Vals xs us → Vals ys us → xs = ys
  | _, _, _, .nil, .nil => rfl
  | _, _, _, .cons r t, .cons r' t' => by rw [r.inj r', Vals.inj t t']
section
variable {X : Cx} {pins : List (Addr × Obj)} {σ : St} {H : Hp} {s : Shared} {a : Addr} {xs ys : List V}
theorem SqL.of {K : PySem.W.Frag} (h : H a = some (.lst xs)) : SqL K H a xs := .inl (.inl h)
theorem SqT.of {K : PySem.W.Frag} (h : H a = some (.tup xs)) : SqT K H a xs := .inl (.inl h)
theorem Inv.list (I : Inv X pins σ H s) (h : SqL X.K H a xs) : ∃ its : List Value, Vals xs its ∧ PlainL s.heap a its.toArray ∧ xs.length ≤ sizeLine := by
  rcases h with h | ⟨o, its, n, hk, hc, hd, hs, hz, r⟩
  · obtain ⟨z, its, n, r, e⟩ := h.ok I.hok
    exact ⟨its, r, ⟨_, n, e, rfl, rfl, rfl⟩, z⟩
  · refine ⟨its.toList, r, ⟨o, n, I.kIn a o hk, hc, hd, by simpa using hs⟩, ?_⟩
    have e := r.length
    simp only [Array.length_toList] at e
    omega
theorem Inv.tuple (I : Inv X pins σ H s) (h : SqT X.K H a xs) : ∃ its : List Value, Vals xs its ∧ IsTup s.heap a its.toArray ∧ xs.length ≤ sizeLine := by
  rcases h with h | ⟨o, its, n, hk, hc, hs, hz, r⟩
  · obtain ⟨z, its, r, p⟩ := h.ok I.hok
    exact ⟨its, r, p, z⟩
  · refine ⟨its.toList, r, ⟨o, I.kIn a o hk, hc, n, by simpa using hs⟩, ?_⟩
    have e := r.length
    simp only [Array.length_toList] at e
    omega
theorem Inv.list_inj (I : Inv X pins σ H s) (h : SqL X.K H a xs) (h' : SqL X.K H a ys) : xs = ys := by
  obtain ⟨its, r, ⟨o, n, e, _, _, d⟩, _⟩ := I.list h
  obtain ⟨its', r', ⟨o', n', e', _, _, d'⟩, _⟩ := I.list h'
  rw [e] at e'; cases e'
  rw [d] at d'
  injection d' with d1 _
  have : its = its' := by simpa using congrArg Array.toList d1
  subst this
  exact r.inj r'
end

/-! ### another wish about exceptions -/
abbrev Cx.wish (X : Cx) (E : Value → Shared → Prop) : Cx := { X with xe := E }
/-- no exception leaves -/
abbrev Cx.nox (X : Cx) : Cx := X.wish fun _ _ => False
theorem Cx.Ok.wish {X : Cx} (ok : X.Ok) (E : Value → Shared → Prop) : (X.wish E).Ok :=
  ⟨ok.mod, ok.kind, ok.glob, ok.blt, ok.above, ok.inj, ok.has, ok.cab, ok.hd, ok.frames, ok.stk, ok.exf, ok.bs, ok.bsz, ok.noex, ok.exfs, ok.funs, ok.frf⟩
theorem Cx.Ok.unwish {X : Cx} {E : Value → Shared → Prop} (ok : (X.wish E).Ok) : X.Ok :=
  ⟨ok.mod, ok.kind, ok.glob, ok.blt, ok.above, ok.inj, ok.has, ok.cab, ok.hd, ok.frames, ok.stk, ok.exf, ok.bs, ok.bsz, ok.noex, ok.exfs, ok.funs, ok.frf⟩
section
variable {X : Cx} {pins : List (Addr × Obj)} {σ : St} {H : Hp} {s : Shared} {E : Value → Shared → Prop}
theorem Inv.wish (I : Inv X pins σ H s) (E : Value → Shared → Prop) : Inv (X.wish E) pins σ H s := ⟨I.ok.wish E, I.os, I.bare, I.base, I.loc, I.cell, I.free, I.freeC, I.pin, I.hok, I.len⟩
theorem Inv.unwish (I : Inv (X.wish E) pins σ H s) : Inv X pins σ H s := ⟨I.ok.unwish, I.os, I.bare, I.base, I.loc, I.cell, I.free, I.freeC, I.pin, I.hok, I.len⟩
theorem SP.unwish {D : Ends} {f : Flow} {s' : Shared} (h : SP (X.wish E) pins D f s') : SP X pins D f s' := by
  cases f with
  | next => obtain ⟨σ', H', I, q⟩ := h; exact ⟨σ', H', I.unwish, q⟩
  | brk => obtain ⟨σ', H', I, q⟩ := h; exact ⟨σ', H', I.unwish, q⟩
  | cont => obtain ⟨σ', H', I, q⟩ := h; exact ⟨σ', H', I.unwish, q⟩
  | ret u => obtain ⟨v, σ', H', I, r, q⟩ := h; exact ⟨v, σ', H', I.unwish, r, q⟩
theorem PE.nox {e : Expr} {t : TE} (h : PE X.nox e t) : PE X e t := fun pins s σ H Q I hw =>
  wpAny_mono (h pins s σ H Q (I.wish _) hw) (fun _ _ ⟨v, H', I', r, q⟩ => ⟨v, H', I'.unwish, r, q⟩) fun _ _ z => False.elim z
theorem PT.nox {e : Expr} {t : TT} (h : PT X.nox e t) : PT X e t := fun pins s σ H Q I hw =>
  wpAny_mono (h pins s σ H Q (I.wish _) hw) (fun _ _ ⟨H', I', q⟩ => ⟨H', I'.unwish, q⟩) fun _ _ z => False.elim z
theorem PSs.nox {st : List Stmt} {t : TS} (h : PSs X.nox st t) : PSs X st t := fun pins s σ H D I hw =>
  wpAny_mono (h pins s σ H D (I.wish _) hw) (fun _ _ q => q.unwish) fun _ _ z => False.elim z
end

/-! ### blocks and small statements -/
section
variable {X : Cx} {st : Stmt} {rest : List Stmt} {t u : TS} {e : Expr} {te : TE} {pos : Pos}
def tNext : TS := fun D σ H => D.nx σ H
def tSeq (t u : TS) : TS := fun D σ H => t { D with nx := u D } σ H
theorem pss_nil : PSs X [] tNext := fun _ _ σ H _ I h => wpAny_execs_nil ⟨σ, H, I, h⟩
theorem pss_cons (h1 : PS X st t) (h2 : PSs X rest u) : PSs X (st :: rest) (tSeq t u) := by
  intro pins s σ H D I h
  refine wpAny_execs_cons (thn (h1 pins s σ H { D with nx := u D } I h) fun f s1 q => ?_)
  cases f with
  | next =>
    obtain ⟨σ', H', I', q⟩ := q
    exact h2 pins s1 σ' H' D I' q
  | ret v => exact q
  | brk => exact q
  | cont => exact q
theorem pss_one (h1 : PS X st t) : PSs X [st] t := by
  intro pins s σ H D I h
  refine wpAny_execs_cons (thn (h1 pins s σ H D I h) fun f s1 q => ?_)
  cases f with
  | next => exact wpAny_execs_nil q
  | ret v => exact q
  | brk => exact q
  | cont => exact q
def tBreak : TS := fun D σ H => D.bk σ H
def tCont : TS := fun D σ H => D.ct σ H
/-- in a def's body nothing is shown -/
theorem Inv.quiet {pins : List (Addr × Obj)} {σ : St} {H : Hp} {s : Shared} (I : Inv X pins σ H s) : interactive X.env = false := by simp [interactive, I.ok.kind]
/-- an expression whose value is dropped -/
def tDrop (te : TE) : TS := fun D σ H => te σ H fun _ H1 => D.nx σ H1
theorem ps_expr (he : PE X e te) (hs : swapsWith e none pos.line X.env = pure false := by rfl) : PS X (.Expr e pos) (tDrop te) := by
  intro pins s σ H D I h
  exact wpAny_Expr_any (thn (he pins s σ H _ I h) fun v s1 ⟨x, H1, I1, r1, q1⟩ => ⟨σ, H1, I1, q1⟩) I.quiet hs
def tRet (te : TE) : TS := fun D σ H => te σ H D.rt
theorem ps_ret (he : PE X e te) : PS X (.Return (some e) pos) (tRet te) := by
  intro pins s σ H D I h
  exact wpAny_Return_some (thn (he pins s σ H _ I h) fun v s1 ⟨x, H1, I1, r1, q1⟩ => ⟨x, σ, H1, I1, r1, q1⟩)
def tRetN : TS := fun D _ H => D.rt .non H
def tIfS (c : TT) (t u : TS) : TS := fun D σ H => c σ H fun b H1 => if b = true then t D σ H1 else u D σ H1
theorem ps_if {c : Expr} {a b : List Stmt} {tc : TT} (hc : PT X c tc) (ha : PSs X a t) (hb : PSs X b u) : PS X (.If c a b pos) (tIfS tc t u) := by
  intro pins s σ H D I h
  refine wpAny_If (thn (hc pins s σ H _ I h) fun d s1 ⟨H1, I1, q1⟩ => ?_)
  cases d with
  | true => exact ha pins s1 σ H1 D I1 q1
  | false => exact hb pins s1 σ H1 D I1 q1
/-- code that the proof never comes to -/
def tNever : TS := fun _ _ _ => False
end

/-! ### targets -/
abbrev TG := V → St → Hp → (St → Hp → Prop) → Prop
abbrev TGs := List V → St → Hp → (St → Hp → Prop) → Prop
def PG (X : Cx) (target : Expr) (t : TG) : Prop :=
  ∀ (pins : List (Addr × Obj)) (s : Shared) (σ : St) (H : Hp) (v : V) (u : Value) (Q : St → Hp → Prop), Inv X pins σ H s → RelV v u → t v σ H Q →
    wpAny (model X.prog X.w) X.A (assign target X.env u) (fun _ s' => ∃ σ' H', Inv X pins σ' H' s' ∧ Q σ' H') X.xe s
/-- several targets, one after another -/
def PGs (X : Cx) (ts : List Expr) (t : TGs) : Prop :=
  ∀ (pins : List (Addr × Obj)) (s : Shared) (σ : St) (H : Hp) (vs : List V) (us : List Value) (Q : St → Hp → Prop), Inv X pins σ H s → Vals vs us → t vs σ H Q →
    wpAny (model X.prog X.w) X.A (assignInOrder ((assignEach ts X.env).map (·.2)) us) (fun _ s' => ∃ σ' H', Inv X pins σ' H' s' ∧ Q σ' H') X.xe s
/-- o[i] = v, by values -/
abbrev TSet := V → V → V → Hp → (Hp → Prop) → Prop
def PSet (X : Cx) (t : TSet) : Prop :=
  ∀ (pins : List (Addr × Obj)) (s : Shared) (σ : St) (H : Hp) (o i v : V) (ov iv u : Value) (Q : Hp → Prop), Inv X pins σ H s → RelV o ov → RelV i iv → RelV v u → t o i v H Q →
    wpAny (model X.prog X.w) X.A (setItem ov iv u) (fun _ s' => ∃ H', Inv X pins σ H' s' ∧ Q H') X.xe s
/-- a op= b, by values -/
abbrev TIp := V → V → Hp → VK → Prop
def PIp (X : Cx) (op : Operator) (t : TIp) : Prop :=
  ∀ (pins : List (Addr × Obj)) (s : Shared) (σ : St) (H : Hp) (x y : V) (v u : Value) (Q : VK), Inv X pins σ H s → RelV x v → RelV y u → t x y H Q →
    wpAny (model X.prog X.w) X.A (inplaceOp op v u) (EP X pins σ Q) X.xe s
section
variable {X : Cx} {pos : Pos}
def gName (i : Nat) : TG := fun v σ H Q => Q (σ.set i (some v)) H
theorem pg_name {i : Nat} {x : Str} (hN : X.N.Nodup) (hi : X.N[i]? = some x) (hx : Loc X.env.scope x) (hf : X.fn x = true ∨ X.env.scope.names.lookup x = some .local := by first | exact .inl rfl | exact .inr rfl | assumption) : PG X (.Name x pos) (gName i) := by
  intro pins s σ H v u Q I r h
  exact wpAny_assign_Name (store_ok I hN hi hx r (fun s' I' => ⟨_, H, I', h⟩) hf)
def gNil : TGs := fun vs σ H Q => vs = [] ∧ Q σ H
def gCons (t : TG) (u : TGs) : TGs := fun vs σ H Q => ∃ v r, vs = v :: r ∧ t v σ H fun σ' H' => u r σ' H' Q
theorem pgs_nil : PGs X [] gNil := by
  intro pins s σ H vs us Q I r h
  obtain ⟨e, h⟩ := h
  subst e
  cases r
  exact assignInOrder_nil ⟨σ, H, I, h⟩
theorem pgs_cons {e : Expr} {es : List Expr} {t : TG} {u : TGs} (h1 : PG X e t) (h2 : PGs X es u)
    (hs : (assignEach (e :: es) X.env).map (·.2) = assign e X.env :: (assignEach es X.env).map (·.2) := by rfl) : PGs X (e :: es) (gCons t u) := by
  intro pins s σ H vs us Q I r h
  obtain ⟨v, vr, e1, h⟩ := h
  subst e1
  cases r with
  | cons r rr =>
    rw [hs]
    refine assignInOrder_cons (thn (h1 pins s σ H _ _ _ I r h) fun _ s1 ⟨σ1, H1, I1, q1⟩ => ?_)
    exact h2 pins s1 σ1 H1 _ _ Q I1 rr q1
/-- (a, b, ..) = a tuple of that length -/
def gTup (K : PySem.W.Frag) (n : Nat) (t : TGs) : TG := fun v σ H Q => ∃ a xs, v = .ref a ∧ SqT K H a xs ∧ xs.length = n ∧ t xs σ H Q
theorem pg_tup {es : List Expr} {k : Nat} {t : TGs} {n : Nat} (hc : X.calm = true) (h : PGs X es t)
    (hn : (assignEach es X.env).length = n := by rfl) (hst : (assignEach es X.env).findIdx? (·.1) = none := by rfl) : PG X (.Tuple es k pos) (gTup X.K n t) := by
  intro pins s σ H v u Q I r hw
  obtain ⟨a, xs, e1, hq, hl, hw⟩ := hw
  subst e1
  cases r
  obtain ⟨its, rv, ht, hz⟩ := I.tuple hq
  refine assign_Tuple_tuple (I.ok.hd hc) ht (by simp [hn, ← hl, rv.length]) hst fun h' hx => ?_
  have I1 : Inv X pins σ H { s with heap := h' } := I.kept (t' := s.toks) fun b o e => hx b o (Nat.ne_of_lt (Heap.lt_size e)) e
  exact h pins _ σ H xs _ Q I1 (by simpa using rv) hw
/-- o[i] = .. -/
def gSub (to ti : TE) (t : TSet) : TG := fun v σ H Q => to σ H fun o H1 => ti σ H1 fun i H2 => t o i v H2 fun H3 => Q σ H3
theorem pg_sub {o i : Expr} {to ti : TE} {t : TSet} (ho : PE X o to) (hi : PE X i ti) (hs : PSet X t)
    (ha : ∀ v, assign (.Subscript o i pos) X.env v = (do
      let ov ← holding [v] (eval o X.env)
      let iv ← holding [v, ov] (eval i X.env)
      standAt pos
      holding [v, ov, iv] (setItem ov iv v)
      release [v, ov, iv] []) := by intro _; rfl) : PG X (.Subscript o i pos) (gSub to ti t) := by
  intro pins s σ H v u Q I r h
  rw [ha]
  refine wpAny_bind (wpAny_holding (thn (ho pins s σ H _ I h) fun ov s1 ⟨x, H1, I1, r1, q1⟩ => ?_))
  refine wpAny_bind (wpAny_holding (thn (hi pins s1 σ H1 _ I1 q1) fun iv s2 ⟨y, H2, I2, r2, q2⟩ => ?_))
  refine wpAny_bind (wpAny_standAt (wpAny_bind (wpAny_holding (thn (hs pins s2 σ H2 x y v ov iv u _ I2 r1 r2 r q2) fun _ s3 ⟨H3, I3, q3⟩ => ?_))))
  exact wpAny_release ⟨σ, H3, I3, q3⟩
/-- target = value -/
def tAsg (te : TE) (g : TG) : TS := fun D σ H => te σ H fun x H1 => g x σ H1 D.nx
theorem ps_asg {tg e : Expr} {te : TE} {g : TG} (he : PE X e te) (hg : PG X tg g) (hs : swapsWithSole [tg] e pos.line X.env = pure false := by rfl) (hw : swappedStores [tg] e X.env = pure none := by rfl)
    (h1 : (assignEach [tg] X.env).map (·.2) = [assign tg X.env] := by rfl) : PS X (.Assign [tg] e pos) (tAsg te g) := by
  intro pins s σ H D I h
  refine wpAny_Assign_stores (thn (he pins s σ H _ I h) fun v s1 ⟨x, H1, I1, r1, q1⟩ => ?_) hs hw
  rw [h1]
  exact thn (hg pins s1 σ H1 x v _ I1 r1 q1) fun _ s2 q => q
/-- name = value -/
theorem ps_set {i : Nat} {x : Str} {e : Expr} {te : TE} {pos' : Pos} (hN : X.N.Nodup) (hi : X.N[i]? = some x) (hx : Loc X.env.scope x) (he : PE X e te) (hs : swapsWith e (some (.Name x pos')) pos.line X.env = pure false := by rfl) (hf : X.fn x = true ∨ X.env.scope.names.lookup x = some .local := by first | exact .inl rfl | exact .inr rfl | assumption) :
    PS X (.Assign [.Name x pos'] e pos) (tAsg te (gName i)) := by
  intro pins s σ H D I h
  refine wpAny_Assign_Name (thn (he pins s σ H _ I h) fun v s1 ⟨y, H1, I1, r1, q1⟩ => ?_) hs
  exact store_ok I1 hN hi hx r1 (fun s2 I2 => ⟨_, H1, I2, q1⟩) hf
/-- a, b = x, y with plain local names: stored from the right; the pair itself is not tracked (the opening rows as in PyProof/Rows/TupAssign.lean:23) -/
def tPar (i j : Nat) (ta : TA) : TS := fun D σ H => ta σ H fun vs H1 => ∃ v w, vs = [v, w] ∧ D.nx ((σ.set i (some v)).set j (some w)) H1
/-- name op= e -/
def tAug (i : Nat) (te : TE) (ti : TIp) : TS := fun D σ H => ∃ x, σ[i]? = some (some x) ∧ te σ H fun y H1 => ti x y H1 fun z H2 => D.nx (σ.set i (some z)) H2
/-- o[i] op= e -/
def tAugS (to ti te : TE) (tget : V → V → Hp → VK → Prop) (tip : TIp) (tset : TSet) : TS := fun D σ H => to σ H fun o H1 => ti σ H1 fun i H2 => tget o i H2 fun x H3 => te σ H3 fun y H4 => tip x y H4 fun z H5 => tset o i z H5 fun H6 => D.nx σ H6
/-- o[i], by values -/
def PGet (X : Cx) (t : V → V → Hp → VK → Prop) : Prop :=
  ∀ (pins : List (Addr × Obj)) (s : Shared) (σ : St) (H : Hp) (o i : V) (ov iv : Value) (Q : VK), Inv X pins σ H s → RelV o ov → RelV i iv → t o i H Q →
    wpAny (model X.prog X.w) X.A (getItem ov iv) (EP X pins σ Q) X.xe s
theorem ps_augS {o i e : Expr} {to ti te : TE} {tget : V → V → Hp → VK → Prop} {tip : TIp} {tset : TSet} {op : Operator} {tpos : Pos} (ho : PE X o to) (hi : PE X i ti) (hg : PGet X tget) (he : PE X e te) (hp : PIp X op tip) (hs : PSet X tset)
    (ha : ∀ ov iv new, augStore i ov iv new = (do holding [new, ov, iv] (setItem ov iv new); release [new, ov, iv] []; pure .next) := by intros; rfl) : PS X (.AugAssign (.Subscript o i tpos) op e pos) (tAugS to ti te tget tip tset) := by
  intro pins s σ H D I h
  refine wpAny_AugAssign_SubscriptAny (thn (ho pins s σ H _ I h) fun ov s1 ⟨x1, H1, I1, r1, q1⟩ => ?_) ha
  refine thn (hi pins s1 σ H1 _ I1 q1) fun iv s2 ⟨x2, H2, I2, r2, q2⟩ => ?_
  refine thn (hg pins s2 σ H2 x1 x2 ov iv _ I2 r1 r2 q2) fun old s3 ⟨x3, H3, I3, r3, q3⟩ => ?_
  refine thn (he pins s3 σ H3 _ I3 q3) fun v s4 ⟨x4, H4, I4, r4, q4⟩ => ?_
  refine thn (hp pins s4 σ H4 x3 x4 old v _ I4 r3 r4 q4) fun new s5 ⟨x5, H5, I5, r5, q5⟩ => ?_
  exact thn (hs pins s5 σ H5 x1 x2 x5 ov iv new _ I5 r1 r2 r5 q5) fun _ s6 ⟨H6, I6, q6⟩ => ⟨σ, H6, I6, q6⟩
/-- ints -/
def ipI (f : Int → Int → Int) : TIp := fun x y H Q => ∃ i j, x = .int i ∧ y = .int j ∧ Q (.int (f i j)) H
theorem ip_add : PIp X .Add (ipI fun i j => i + j) := by
  intro pins s σ H x y v u Q I r1 r2 h
  obtain ⟨i, j, e1, e2, q⟩ := h
  subst e1; subst e2
  obtain ⟨t, rfl⟩ := r1
  obtain ⟨t', rfl⟩ := r2
  exact iadd_int ⟨.int _, H, I.tok _, ⟨_, rfl⟩, q⟩
theorem ip_sub : PIp X .Sub (ipI fun i j => i - j) := by
  intro pins s σ H x y v u Q I r1 r2 h
  obtain ⟨i, j, e1, e2, q⟩ := h
  subst e1; subst e2
  obtain ⟨t, rfl⟩ := r1
  obtain ⟨t', rfl⟩ := r2
  exact isub_int ⟨.int _, H, I.tok _, ⟨_, rfl⟩, q⟩
end

/-! ### while -/
section
variable {X : Cx} {pos : Pos}
/-- the invariant W with its measure -/
def tWhile (c : TT) (tb : TS) : TS := fun D σ H => ∃ W : Nat → St → Hp → Prop, (∃ m, W m σ H) ∧ ∀ m σ H, W m σ H →
  c σ H fun b H1 => if b = true then ∃ N : St → Hp → Prop, (∀ σ' H', N σ' H' → ∃ m', m' < m ∧ W m' σ' H') ∧ tb { D with nx := N, ct := N, bk := D.nx } σ H1 else D.nx σ H1
theorem ps_while {c : Expr} {body : List Stmt} {tc : TT} {tb : TS} (hp : PassesOwn (model X.prog X.w) X.A X.env X.xe) (hc : PT X c tc) (hb : PSs X body tb) : PS X (.While c body [] pos) (tWhile tc tb) := by
  intro pins s σ H D I h
  obtain ⟨W, ⟨m0, w0⟩, turn⟩ := h
  refine wpAny_While (codeAny_whileLoop (fun n s' => ∃ σ' H', Inv X pins σ' H' s' ∧ W n σ' H') ?_ m0 ⟨σ, H, I, w0⟩)
  rintro n s1 ⟨σ1, H1, I1, w1⟩
  refine wpAny_passesOwn hp (thn (hc pins s1 σ1 H1 _ I1 (turn n σ1 H1 w1)) fun b s2 ⟨H2, I2, q2⟩ => ?_)
  cases b with
  | true =>
    obtain ⟨N, hN, q2⟩ := q2
    rw [if_pos rfl]
    refine wpAny_passesOwn hp (thn (hb pins s2 σ1 H2 _ I2 q2) fun f s3 q3 => ?_)
    cases f with
    | next =>
      obtain ⟨σ3, H3, I3, n3⟩ := q3
      obtain ⟨m', hm, w3⟩ := hN σ3 H3 n3
      exact ⟨m', hm, σ3, H3, I3, w3⟩
    | cont =>
      obtain ⟨σ3, H3, I3, n3⟩ := q3
      obtain ⟨m', hm, w3⟩ := hN σ3 H3 n3
      exact ⟨m', hm, σ3, H3, I3, w3⟩
    | brk => exact q3
    | ret v => exact q3
  | false =>
    rw [if_neg Bool.false_ne_true]
    exact wpAny_execs_nil ⟨σ1, H2, I2, q2⟩
end

/-! ### what a loop or a comprehension walks -/
/-- at turn i: it yields x (the heap may grow), or it stops -/
structure It where
  go : Nat → Hp → Prop
  yld : Nat → Hp → V → Hp → Prop
  stop : Nat → Hp → Prop
/-- the iterator's own objects may turn: they are not the frame's, not pinned, younger than the entry (or a comprehension's own) -/
def FpOk (X : Cx) (pins : List (Addr × Obj)) (H : Hp) (b : Addr) : Prop :=
  H b = none ∧ b ≠ X.env.locals ∧ b ∉ X.fs ∧ (b ∈ X.ex ∨ X.s₀.heap.objs.size ≤ b) ∧ (∀ x c, X.env.cells.lookup x = some c → c ≠ b) ∧ ∀ p ∈ X.pn ++ pins, p.1 ≠ b
theorem Inv.fpOk {X : Cx} {pins : List (Addr × Obj)} {σ : St} {H H' : Hp} {s : Shared} {b : Addr} (I : Inv X pins σ H s) (hb : s.heap.objs.size ≤ b) (hn : H' b = none) : FpOk X pins H' b := by
  refine ⟨hn, Nat.ne_of_gt (Nat.lt_of_lt_of_le I.lt hb), I.nofs hb, .inr (Nat.le_trans I.sz hb), fun x c e z => ?_, fun p hp z => ?_⟩
  · obtain ⟨v, q⟩ := I.cell x c e
    exact absurd (Nat.lt_of_lt_of_le q.lt (by rw [z]; exact hb)) (Nat.lt_irrefl _)
  · exact absurd (Nat.lt_of_lt_of_le (Heap.lt_size (I.pin p hp).1) (by rw [z]; exact hb)) (Nat.lt_irrefl _)
structure Turn (P : Program) (w : World) (K : PySem.W.Frag) (tg : Expr) (J : It) (fp : List Addr) (it : Addr) (tn : Nat → Heap → Prop) : Prop where
  mem : it ∈ fp
  obj : ∀ i h, tn i h → ∀ b ∈ fp, ∃ o, h.get? b = some o ∧ ∀ v, o.data ≠ .cell v
  keep : ∀ i h h', tn i h → (∀ b ∈ fp, ∀ o, h.get? b = some o → h'.get? b = some o) → tn i h'
  item : ∀ (X : Cx), X.prog = P → X.w = w → X.K = K → X.calm = true → ∀ (i : Nat) (pins : List (Addr × Obj)) (s : Shared) (σ : St) (H : Hp) (E : Value → Shared → Prop), Inv X pins σ H s → (∀ b ∈ fp, FpOk X pins H b) → tn i s.heap → J.go i H →
    wpAny (model P w) X.A (pyNext (.ref it)) (fun r s1 => ∃ u, r = some u ∧
      wpAny (model P w) X.A (letOwnedTupleGo tg (.ref it) u) (fun _ s2 => ∃ x H', Inv X pins σ H' s2 ∧ RelV x u ∧ J.yld i H x H' ∧ tn (i + 1) s2.heap ∧ ∀ b ∈ fp, H' b = none) E s1) E s
  done : ∀ (X : Cx), X.prog = P → X.w = w → X.K = K → X.calm = true → ∀ (i : Nat) (pins : List (Addr × Obj)) (s : Shared) (σ : St) (H : Hp) (E : Value → Shared → Prop), Inv X pins σ H s → (∀ b ∈ fp, FpOk X pins H b) → tn i s.heap → J.stop i H →
    wpAny (model P w) X.A (pyNext (.ref it)) (fun r s1 => r = none ∧ Inv X pins σ H s1) E s
  self : ∀ (A : Around) (i : Nat) (s : Shared) (Q : Value → Shared → Prop) (E : Value → Shared → Prop), tn i s.heap → Q (.ref it) s → wpAny (model P w) A (pyIter (.ref it)) Q E s
abbrev TI := St → Hp → (It → Hp → Prop) → Prop
/-- an iterator has come -/
def PIE (X : Cx) (pins : List (Addr × Obj)) (σ : St) (tg : Expr) (R : It → Hp → Prop) (itv : Value) (s2 : Shared) : Prop :=
  ∃ (it : Addr) (fp : List Addr) (tn : Nat → Heap → Prop) (J : It) (H' : Hp), itv = .ref it ∧ Inv X pins σ H' s2 ∧ Turn X.prog X.w X.K tg J fp it tn ∧ tn 0 s2.heap ∧ (∀ b ∈ fp, FpOk X pins H' b) ∧ R J H'
def PI (X : Cx) (tg iter : Expr) (wi : TI) : Prop :=
  ∀ (pins : List (Addr × Obj)) (s : Shared) (σ : St) (H : Hp) (R : It → Hp → Prop), Inv X pins σ H s → wi σ H R →
    wpAny (model X.prog X.w) X.A (eval iter X.env) (fun v s1 => wpAny (model X.prog X.w) X.A (pyIter v) (PIE X pins σ tg R) X.xe s1) X.xe s

/-- the step ahead of the store is nothing for an iterator that keeps no tuple -/
theorem go_of {M : Model} {A : Around} {E : Value → Shared → Prop} {s : Shared} {tg : Expr} {it : Addr} {u : Value} {o : Obj} {n : String} {vs : Array Value} {Q : Unit → Shared → Prop} (ho : s.heap.get? it = some o) (hc : o.cls = .type n) (hd : o.data = .fields vs)
    (hn : ["enumerate", "zip", "dict_itemiterator", "dict_reverseitemiterator", "odict_iterator", "itertools.zip_longest", "itertools.pairwise"].contains n = false) (hQ : Q () s) : wpAny M A (letOwnedTupleGo tg (.ref it) u) Q E s := by
  unfold letOwnedTupleGo
  cases tg <;> first
    | exact wpAny_pure hQ
    | (cases u <;> first
        | exact wpAny_pure hQ
        | (refine wpAny_bind (wpAny_load ho ?_)
           rw [hc, hd]
           show wpAny M A (if (["enumerate", "zip", "dict_itemiterator", "dict_reverseitemiterator", "odict_iterator", "itertools.zip_longest", "itertools.pairwise"].contains n && vs[0]? == some (rawInt _)) = true then _ else _) Q E s
           rw [if_neg (by intro h; rw [hn, Bool.false_and] at h; cases h)]
           exact wpAny_pure hQ))

/-- the list at a, as it stands at each turn (a loop may append to it) -/
def Itl (K : PySem.W.Frag) (a : Addr) : It :=
  ⟨fun i H => ∃ xs x, SqL K H a xs ∧ xs[i]? = some x, fun i H x H' => H' = H ∧ ∀ xs, SqL K H a xs → xs[i]? = some x, fun i H => ∃ xs, SqL K H a xs ∧ xs.length ≤ i⟩
def Itt (K : PySem.W.Frag) (a : Addr) : It :=
  ⟨fun i H => ∃ xs x, SqT K H a xs ∧ xs[i]? = some x, fun i H x H' => H' = H ∧ ∀ xs, SqT K H a xs → xs[i]? = some x, fun i H => ∃ xs, SqT K H a xs ∧ xs.length ≤ i⟩
/-- lo, lo + 1, .. (n of them) -/
def Itr (lo : Int) (n : Nat) : It := ⟨fun i _ => i < n, fun i H x H' => H' = H ∧ x = .int (lo + i), fun i _ => n ≤ i⟩
theorem turn_list {P : Program} {w : World} {K : PySem.W.Frag} {tg : Expr} (a it : Addr) : Turn P w K tg (Itl K a) [it] it (fun i h => h.IsListIter it a i) where
  mem := by simp
  obj := fun i h st b hb => by
    have e : b = it := by simpa using hb
    subst e
    obtain ⟨o, e, c, d⟩ := st
    exact ⟨o, e, fun v z => by rw [d] at z; cases z⟩
  keep := fun i h h' st k => st.at fun o e => k it (by simp) o e
  item := by
    intro X hP hw hK hc i pins s σ H E I hf st hg
    subst hP hw hK
    obtain ⟨xs, x, hq, hx⟩ := hg
    obtain ⟨its, rv, p, hz⟩ := I.list hq
    obtain ⟨u, hu, ru⟩ := rv.get hx
    obtain ⟨f0, f1, f2, f3, f4, f5⟩ := hf it (by simp)
    refine wpAny_pyNext_list_item st p.isList (x := u) (by simpa using hu) fun h' st' sb => ?_
    have I1 : Inv X pins σ H { s with heap := h' } := I.turned (t' := s.toks) (fun b o hb e => (sb.2 b hb).trans e) f0 f1 f3 f4 f5
    obtain ⟨o, e, c, d⟩ := id st'
    exact ⟨u, rfl, go_of (s := { s with heap := h' }) e c d (by decide) ⟨x, H, I1, ru, ⟨rfl, fun ys hy => by rw [I.list_inj hy hq]; exact hx⟩, st', fun b hb => (hf b hb).1⟩⟩
  done := by
    intro X hP hw hK hc i pins s σ H E I hf st hg
    subst hP hw hK
    obtain ⟨xs, hq, hx⟩ := hg
    obtain ⟨its, rv, p, hz⟩ := I.list hq
    obtain ⟨f0, f1, f2, f3, f4, f5⟩ := hf it (by simp)
    have hl := rv.length
    exact wpAny_pyNext_list_end (I.ok.hd hc) st p.isList (by simp; omega) fun h' eb => ⟨rfl, I.turned (t' := s.toks) (fun b o hb e => eb b o hb e) f0 f1 f3 f4 f5⟩
  self := fun _ _ _ _ _ st h => wpAny_pyIter_listiter st h
theorem turn_range {P : Program} {w : World} {K : PySem.W.Frag} {tg : Expr} (it : Addr) (lo : Int) (n : Nat) : Turn P w K tg (Itr lo n) [it] it (fun i h => IsRangeIter h it (lo + (i : Nat) * 1) ((n : Int) - (i : Nat)) 1) where
  mem := by simp
  obj := fun i h st b hb => by
    have e : b = it := by simpa using hb
    subst e
    exact ⟨_, st, fun v z => by
      have z' : Data.fields _ = Data.cell v := z
      cases z'⟩
  keep := fun i h h' st k => k it (by simp) _ st
  item := by
    intro X hP hw hK hc i pins s σ H E I hf st hg
    subst hP hw hK
    obtain ⟨f0, f1, f2, f3, f4, f5⟩ := hf it (by simp)
    have W := Walks.range (prog := X.prog) (w := X.w) (I.ok.hd hc) it lo 1 n
    refine W.item i s _ _ hg st fun v h' tk hv st' kk => ?_
    obtain ⟨t, rfl⟩ := hv
    have I1 : Inv X pins σ H { s with heap := h', toks := tk } := I.turned (fun b o hb e => kk b o (by simpa using hb) e) f0 f1 f3 f4 f5
    refine ⟨_, rfl, go_of (s := { s with heap := h', toks := tk }) (n := "range_iterator") st' rfl rfl (by decide) ⟨.int (lo + i), H, I1, ⟨t, ?_⟩, ⟨rfl, rfl⟩, st', fun b hb => (hf b hb).1⟩⟩
    rw [Int.mul_one]
  done := by
    intro X hP hw hK hc i pins s σ H E I hf st hg
    subst hP hw hK
    obtain ⟨f0, f1, f2, f3, f4, f5⟩ := hf it (by simp)
    exact wpAny_pyNext_range_end (I.ok.hd hc) st (by have : n ≤ i := hg; omega) fun h' eb => ⟨rfl, I.turned (t' := s.toks) (fun b o hb e => eb b o hb e) f0 f1 f3 f4 f5⟩
  self := fun _ _ _ _ _ st h => wpAny_pyIter_rangeiter st h
end L2

namespace L2
open PySem PySem.Spec PyProof.Rows
section
variable {X : Cx} {tg : Expr}
def iList (K : PySem.W.Frag) (tl : TE) : TI := fun σ H R => tl σ H fun x H1 => ∃ a, x = .ref a ∧ (∃ xs, SqL K H1 a xs) ∧ R (Itl K a) H1
def iTup (K : PySem.W.Frag) (tl : TE) : TI := fun σ H R => tl σ H fun x H1 => ∃ a, x = .ref a ∧ (∃ xs, SqT K H1 a xs) ∧ R (Itt K a) H1
theorem pi_list {l : Expr} {tl : TE} (hl : PE X l tl) : PI X tg l (iList X.K tl) := by
  intro pins s σ H R I h
  refine thn (hl pins s σ H _ I h) fun v s1 ⟨x, H1, I1, r1, q1⟩ => ?_
  obtain ⟨a, e, ⟨xs, hq⟩, q⟩ := q1
  subst e
  cases r1
  obtain ⟨its, rv, p, hz⟩ := I1.list hq
  refine wpAny_pyIter_list p.isList ?_
  refine ⟨s1.heap.objs.size, [s1.heap.objs.size], _, _, H1, rfl, I1.kept (t' := s1.toks) fun b o e => Heap.get?_push_of_some _ e, turn_list a _, ⟨_, Heap.get?_push_size _ rfl, rfl, rfl⟩, fun b hb => ?_, q⟩
  have e : b = s1.heap.objs.size := by simpa using hb
  subst e
  exact I1.fpOk (Nat.le_refl _) (I1.hok.fresh (Nat.le_refl _))
/-- a range object just made, walked -/
theorem range_it {pins : List (Addr × Obj)} {σ : St} {H : Hp} {s : Shared} {R : It → Hp → Prop} {E : Value → Shared → Prop} {lo hi : Int} {t u v : Tok} {tk : Nat} (I : Inv X pins σ H s) (h1 : -(2 ^ 62) ≤ lo) (h2 : lo < 2 ^ 62) (h3 : -(2 ^ 62) ≤ hi) (h4 : hi < 2 ^ 62)
    (q : R (Itr lo (hi - lo).toNat) H) : wpAny (model X.prog X.w) X.A (pyIter (.ref s.heap.objs.size)) (PIE X pins σ tg R) E { s with heap := s.heap.push { cls := .type "range", data := .fields #[.int lo t, .int hi u, .int 1 v] }, toks := tk } := by
  refine wpAny_pyIter_range (IsRange.new ..) (small_one h1 h2 h3 h4) ?_
  have I1 : Inv X pins σ H { s with heap := s.heap.push { cls := .type "range", data := .fields #[.int lo t, .int hi u, .int 1 v] }, toks := tk } := I.kept fun b o e => Heap.get?_push_of_some _ e
  refine ⟨(s.heap.push { cls := .type "range", data := .fields #[.int lo t, .int hi u, .int 1 v] }).objs.size, [(s.heap.push { cls := .type "range", data := .fields #[.int lo t, .int hi u, .int 1 v] }).objs.size], _, _, H, rfl,
    I1.kept (t' := tk) fun b o e => Heap.get?_push_of_some _ e, turn_range _ lo (hi - lo).toNat, ?_, fun b hb => ?_, q⟩
  · have e1 : lo + ((0 : Nat) : Int) * 1 = lo := by simp
    have e2 : (((hi - lo).toNat : Nat) : Int) - ((0 : Nat) : Int) = Builtin.Range.rangeSize lo hi 1 := by rw [rangeSize_one]; split <;> omega
    show IsRangeIter _ _ (lo + ((0 : Nat) : Int) * 1) ((((hi - lo).toNat : Nat) : Int) - ((0 : Nat) : Int)) 1
    rw [e1, e2]
    exact Heap.get?_push_size _ rfl
  · have e : b = (s.heap.push { cls := .type "range", data := .fields #[.int lo t, .int hi u, .int 1 v] }).objs.size := by simpa using hb
    subst e
    exact I1.fpOk (Nat.le_refl _) (I1.hok.fresh (Nat.le_refl _))
def iRng1 (ta : TA) : TI := fun σ H R => ta σ H fun vs H1 => ∃ j : Int, vs = [.int j] ∧ -(2 ^ 62) ≤ j ∧ j < 2 ^ 62 ∧ R (Itr 0 j.toNat) H1
def iRng2 (ta : TA) : TI := fun σ H R => ta σ H fun vs H1 => ∃ i j : Int, vs = [.int i, .int j] ∧ (-(2 ^ 62) ≤ i ∧ i < 2 ^ 62 ∧ -(2 ^ 62) ≤ j ∧ j < 2 ^ 62) ∧ R (Itr i (j - i).toNat) H1
theorem pi_range1 {a : Expr} {ta : TA} {p pos : Pos} (hg : Gl X "range") (hm : X.mg "range" = none) (ha : PA X [a] ta) (hs : starEach [a] X.env = [(false, eval a X.env)] := by rfl) : PI X tg (.Call (.Name "range" p) [a] [] pos) (iRng1 ta) := by
  intro pins s σ H R I h
  refine Call_ (ld_blt I hg hm boot_range (PyProof.Rows.callWith_type1 (thn (ha pos pins s σ H _ I h) fun us s1 ⟨vs, H1, I1, r1, q1⟩ => ?_) hs rfl))
  obtain ⟨j, e, q1, q2, q⟩ := q1
  subst e
  cases r1 with
  | cons r rr =>
    cases rr
    obtain ⟨t, rfl⟩ := r
    exact call_range_1 (range_it I1 (by omega) (by omega) q1 q2 (by simpa using q))
/-! ### for -/
/-- W: the invariant by the turn and a measure; N: what the body is to reach -/
def tFor (wi : TI) (g : TG) (tb : TS) : TS := fun D σ H => wi σ H fun J H1 => ∃ W : Nat → Nat → St → Hp → Prop, (∃ m, W 0 m σ H1) ∧ ∀ i m σ H, W i m σ H →
  (J.stop i H ∧ D.nx σ H) ∨ (J.go i H ∧ ∃ N : St → Hp → Prop, (∀ σ' H', N σ' H' → ∃ m', m' < m ∧ W (i + 1) m' σ' H') ∧ ∀ x H', J.yld i H x H' → g x σ H' fun σ2 H2 => tb { D with nx := N, ct := N, bk := D.nx } σ2 H2)
/-- the records at fp as they stand -/
def pinsAt (fp : List Addr) (h : Heap) : List (Addr × Obj) := fp.filterMap fun b => (h.get? b).map fun o => (b, o)
theorem mem_pinsAt {fp : List Addr} {h : Heap} {b : Addr} {o : Obj} (hb : b ∈ fp) (e : h.get? b = some o) : (b, o) ∈ pinsAt fp h := List.mem_filterMap.mpr ⟨b, hb, by rw [e]; rfl⟩
theorem of_pinsAt {fp : List Addr} {h : Heap} {p : Addr × Obj} (hp : p ∈ pinsAt fp h) : p.1 ∈ fp ∧ h.get? p.1 = some p.2 := by
  obtain ⟨b, hb, e⟩ := List.mem_filterMap.mp hp
  cases q : h.get? b with
  | none => rw [q] at e; cases e
  | some o =>
    rw [q] at e
    have e' : (b, o) = p := Option.some.inj e
    subst e'
    exact ⟨hb, q⟩
theorem Inv.pinned {pins : List (Addr × Obj)} {σ : St} {H : Hp} {s : Shared} {fp : List Addr} (I : Inv X pins σ H s) (hf : ∀ b ∈ fp, FpOk X pins H b) (ho : ∀ b ∈ fp, ∃ o, s.heap.get? b = some o ∧ ∀ v, o.data ≠ .cell v) : Inv X (pins ++ pinsAt fp s.heap) σ H s :=
  I.pins_of fun p hp => (List.mem_append.mp hp).elim (fun z => I.pin p (List.mem_append_right _ z)) fun z => by
    obtain ⟨hb, e⟩ := of_pinsAt z
    obtain ⟨f0, f1, f2, _⟩ := hf p.1 hb
    obtain ⟨o, e', d⟩ := ho p.1 hb
    rw [e] at e'; cases e'
    exact ⟨e, f0, f1, f2, d⟩
theorem Inv.unpinned {pins pl : List (Addr × Obj)} {σ : St} {H : Hp} {s : Shared} (I : Inv X (pins ++ pl) σ H s) : Inv X pins σ H s := I.pins_of fun p hp => I.pin p (List.mem_append_right _ (List.mem_append_left _ hp))
theorem ps_for {iter : Expr} {body : List Stmt} {wi : TI} {g : TG} {tb : TS} {pos : Pos} (hp : PassesOwn (model X.prog X.w) X.A X.env X.xe) (hc : X.calm = true) (hi : PI X tg iter wi) (hg : PG X tg g) (hb : PSs X body tb)
    (hs : ∀ x, foldedSetIterable iter X.env x = pure x := by intro _; rfl) : PS X (.For tg iter body [] pos) (tFor wi g tb) := by
  intro pins s σ H D I h
  refine wpAny_For (thn (hi pins s σ H _ I h) fun v s1 h1 => thn h1 fun itv s2 h2 => ?_) hs
  obtain ⟨it, fp, tn, J, H2, e, I2, T, st2, f2, W, ⟨m0, w0⟩, turn⟩ := h2
  subst e
  -- what stays true of the iterator's objects through the loop
  have stat : ∀ {H' : Hp}, (∀ b ∈ fp, H' b = none) → ∀ b ∈ fp, FpOk X pins H' b := fun hn b hb => ⟨hn b hb, (f2 b hb).2⟩
  refine codeAny_forLoop_any (fun n s' => ∃ i σ' H', Inv X pins σ' H' s' ∧ tn i s'.heap ∧ (∀ b ∈ fp, H' b = none) ∧ W i n σ' H') ?_ m0 ⟨0, σ, H2, I2, st2, fun b hb => (f2 b hb).1, w0⟩
  rintro n s3 ⟨i, σ3, H3, I3, st3, fr3, w3⟩
  rcases turn i n σ3 H3 w3 with ⟨stop, qn⟩ | ⟨go, N, hN, step⟩
  · refine wpAny_passesOwn hp (thn (T.done X rfl rfl rfl hc i pins s3 σ3 H3 X.xe I3 (stat fr3) st3 stop) fun r s4 ⟨hr, I4⟩ => ?_)
    subst hr
    exact wpAny_execs_nil ⟨σ3, H3, I4, qn⟩
  · refine wpAny_passesOwn hp (thn (T.item X rfl rfl rfl hc i pins s3 σ3 H3 X.xe I3 (stat fr3) st3 go) fun r s4 ⟨u, hr, h4⟩ => ?_)
    subst hr
    refine wpAny_passesOwn hp (thn h4 fun _ s5 ⟨x, H5, I5, r5, y5, st5, fr5⟩ => ?_)
    have I5' := I5.pinned (stat fr5) (T.obj _ _ st5)
    refine wpAny_passesOwn hp (thn (hg _ s5 σ3 H5 x u _ I5' r5 (step x H5 y5)) fun _ s6 ⟨σ6, H6, I6, q6⟩ => ?_)
    refine wpAny_passesOwn hp (thn (hb _ s6 σ6 H6 _ I6 q6) fun f s7 q7 => ?_)
    have again : ∀ {σ7 : St} {H7 : Hp}, Inv X (pins ++ pinsAt fp s5.heap) σ7 H7 s7 → N σ7 H7 → ∃ m, m < n ∧ ∃ i σ' H', Inv X pins σ' H' s7 ∧ tn i s7.heap ∧ (∀ b ∈ fp, H' b = none) ∧ W i m σ' H' := fun {σ7 H7} I7 n7 => by
      obtain ⟨m', hm, w7⟩ := hN σ7 H7 n7
      refine ⟨m', hm, i + 1, σ7, H7, I7.unpinned, T.keep _ _ _ st5 fun b hb o e => (I7.pin (b, o) (List.mem_append_right _ (List.mem_append_right _ (mem_pinsAt hb e)))).1, fun b hb => ?_, w7⟩
      obtain ⟨o, e, d⟩ := T.obj _ _ st5 b hb
      exact (I7.pin (b, o) (List.mem_append_right _ (List.mem_append_right _ (mem_pinsAt hb e)))).2.1
    cases f with
    | next => obtain ⟨σ7, H7, I7, n7⟩ := q7; exact again I7 n7
    | cont => obtain ⟨σ7, H7, I7, n7⟩ := q7; exact again I7 n7
    | brk => obtain ⟨σ7, H7, I7, q7⟩ := q7; exact ⟨σ7, H7, I7.unpinned, q7⟩
    | ret v => obtain ⟨x7, σ7, H7, I7, r7, q7⟩ := q7; exact ⟨x7, σ7, H7, I7.unpinned, r7, q7⟩
end

/-! ### the forms one uses -/
/-- over a list that the body leaves as it is -/
theorem for_list {K : PySem.W.Frag} {a : Addr} {xs : List V} {g : TG} {tb : TS} {D : Ends} {σ : St} {H : Hp} (Pv : Nat → St → Hp → Prop) (h0 : Pv 0 σ H) (hl : ∀ i σ H, i ≤ xs.length → Pv i σ H → SqL K H a xs)
    (hs : ∀ i x σ H, xs[i]? = some x → Pv i σ H → g x σ H fun σ2 H2 => tb { D with nx := Pv (i + 1), ct := Pv (i + 1), bk := D.nx } σ2 H2) (hd : ∀ σ H, Pv xs.length σ H → D.nx σ H) :
    ∃ W : Nat → Nat → St → Hp → Prop, (∃ m, W 0 m σ H) ∧ ∀ i m σ H, W i m σ H →
      ((Itl K a).stop i H ∧ D.nx σ H) ∨ ((Itl K a).go i H ∧ ∃ N : St → Hp → Prop, (∀ σ' H', N σ' H' → ∃ m', m' < m ∧ W (i + 1) m' σ' H') ∧ ∀ x H', (Itl K a).yld i H x H' → g x σ H' fun σ2 H2 => tb { D with nx := N, ct := N, bk := D.nx } σ2 H2) := by
  refine ⟨fun i m σ H => m = xs.length - i ∧ i ≤ xs.length ∧ Pv i σ H, ⟨xs.length, by simp, Nat.zero_le _, h0⟩, ?_⟩
  rintro i m σ H ⟨rfl, hi, p⟩
  have q := hl i σ H hi p
  by_cases hlt : i < xs.length
  · refine .inr ⟨⟨xs, xs[i], q, by simp [hlt]⟩, Pv (i + 1), fun σ' H' p' => ⟨xs.length - (i + 1), by omega, rfl, hlt, p'⟩, fun x H' y => ?_⟩
    obtain ⟨e, y⟩ := y
    subst e
    exact hs i x σ _ (y xs q) p
  · have e : i = xs.length := by omega
    subst e
    exact .inl ⟨⟨xs, q, Nat.le_refl _⟩, hd σ H p⟩
theorem for_range {lo : Int} {n : Nat} {g : TG} {tb : TS} {D : Ends} {σ : St} {H : Hp} (Pv : Nat → St → Hp → Prop) (h0 : Pv 0 σ H)
    (hs : ∀ i σ H, i < n → Pv i σ H → g (.int (lo + i)) σ H fun σ2 H2 => tb { D with nx := Pv (i + 1), ct := Pv (i + 1), bk := D.nx } σ2 H2) (hd : ∀ σ H, Pv n σ H → D.nx σ H) :
    ∃ W : Nat → Nat → St → Hp → Prop, (∃ m, W 0 m σ H) ∧ ∀ i m σ H, W i m σ H →
      ((Itr lo n).stop i H ∧ D.nx σ H) ∨ ((Itr lo n).go i H ∧ ∃ N : St → Hp → Prop, (∀ σ' H', N σ' H' → ∃ m', m' < m ∧ W (i + 1) m' σ' H') ∧ ∀ x H', (Itr lo n).yld i H x H' → g x σ H' fun σ2 H2 => tb { D with nx := N, ct := N, bk := D.nx } σ2 H2) := by
  refine ⟨fun i m σ H => m = n - i ∧ i ≤ n ∧ Pv i σ H, ⟨n, by simp, Nat.zero_le _, h0⟩, ?_⟩
  rintro i m σ H ⟨rfl, hi, p⟩
  by_cases hlt : i < n
  · refine .inr ⟨hlt, Pv (i + 1), fun σ' H' p' => ⟨n - (i + 1), by omega, rfl, hlt, p'⟩, fun x H' y => ?_⟩
    obtain ⟨e, y⟩ := y
    subst e y
    exact hs i σ _ hlt p
  · have e : i = n := by omega
    subst e
    exact .inl ⟨Nat.le_refl _, hd σ H p⟩
/-- while, by a word and a measure of the state -/
theorem while_by {c : TT} {tb : TS} {D : Ends} {σ : St} {H : Hp} (Pv : St → Hp → Prop) (μ : St → Hp → Nat) (h0 : Pv σ H)
    (hs : ∀ σ H, Pv σ H → c σ H fun b H1 => if b = true then tb { D with nx := fun σ' H' => Pv σ' H' ∧ μ σ' H' < μ σ H, ct := fun σ' H' => Pv σ' H' ∧ μ σ' H' < μ σ H, bk := D.nx } σ H1 else D.nx σ H1)
    (mono : ∀ σ H Q Q', (∀ b H1, Q b H1 → Q' b H1) → c σ H Q → c σ H Q') : tWhile c tb D σ H := by
  refine ⟨fun m σ H => m = μ σ H ∧ Pv σ H, ⟨_, rfl, h0⟩, ?_⟩
  rintro m σ H ⟨rfl, p⟩
  refine mono σ H _ _ (fun b H1 q => ?_) (hs σ H p)
  cases b with
  | true => exact ⟨_, fun σ' H' ⟨p', l⟩ => ⟨_, l, rfl, p'⟩, q⟩
  | false => exact q
end L2

namespace L2
open PySem PySem.Spec PyProof.Rows

abbrev R2 := V → V → Hp → VK → Prop
/-- a two-place operation on values: f is binaryOp op, inplaceOp op or compareOp op -/
def OpR (X : Cx) (f : Value → Value → Sem Value) (r : R2) : Prop :=
  ∀ (pins : List (Addr × Obj)) (s : Shared) (σ : St) (H : Hp) (x y : V) (v u : Value) (Q : VK), Inv X pins σ H s → RelV x v → RelV y u → r x y H Q →
    wpAny (model X.prog X.w) X.A (f v u) (EP X pins σ Q) X.xe s
/-- a one-place operation -/
def UnR (X : Cx) (f : Value → Sem Value) (r : V → Hp → VK → Prop) : Prop :=
  ∀ (pins : List (Addr × Obj)) (s : Shared) (σ : St) (H : Hp) (x : V) (v : Value) (Q : VK), Inv X pins σ H s → RelV x v → r x H Q →
    wpAny (model X.prog X.w) X.A (f v) (EP X pins σ Q) X.xe s
/-- a call of a value that is known (a builtin, a type) with values -/
def CallR (X : Cx) (f : Value) (r : List V → Hp → VK → Prop) : Prop :=
  ∀ (pins : List (Addr × Obj)) (s : Shared) (σ : St) (H : Hp) (xs : List V) (us : List Value) (Q : VK), Inv X pins σ H s → Vals xs us → r xs H Q →
    wpAny (model X.prog X.w) X.A (call f us) (EP X pins σ Q) X.xe s
/-- a value's truth -/
def TruR (X : Cx) (r : V → Hp → (Bool → Hp → Prop) → Prop) : Prop :=
  ∀ (pins : List (Addr × Obj)) (s : Shared) (σ : St) (H : Hp) (x : V) (v : Value) (Q : Bool → Hp → Prop), Inv X pins σ H s → RelV x v → r x H Q →
    wpAny (model X.prog X.w) X.A (truthy v) (TP X pins σ Q) X.xe s

def tOp (r : R2) (ta tb : TE) : TE := fun σ H Q => ta σ H fun x H1 => tb σ H1 fun y H2 => r x y H2 Q
def tUn (r : V → Hp → VK → Prop) (ta : TE) : TE := fun σ H Q => ta σ H fun x H1 => r x H1 Q
/-- ints in, under C, and a value out -/
def rI (C : Int → Int → Prop) (g : Int → Int → V) : R2 := fun x y H Q => ∃ i j, x = .int i ∧ y = .int j ∧ C i j ∧ Q (g i j) H
def rI0 (g : Int → Int → V) : R2 := fun x y H Q => ∃ i j, x = .int i ∧ y = .int j ∧ Q (g i j) H
def rU (g : Int → V) : V → Hp → VK → Prop := fun x H Q => ∃ i, x = .int i ∧ Q (g i) H

section
variable {X : Cx} {a b c : Expr} {ta tb tc : TE} {pos : Pos}

theorem binT (ha : PE X a ta) (hb : PE X b tb) {pins : List (Addr × Obj)} {s : Shared} {σ : St} {H : Hp} {R : V → V → Hp → Prop} (I : Inv X pins σ H s)
    (h : ta σ H fun x H1 => tb σ H1 fun y H2 => R x y H2) {Q : Value → Shared → Prop} {f : Value → Value → Sem Value}
    (hf : ∀ v u s2 x y H2, Inv X pins σ H2 s2 → RelV x v → RelV y u → R x y H2 → wpAny (model X.prog X.w) X.A (f v u) Q X.xe s2) :
    wpAny (model X.prog X.w) X.A (eval a X.env) (fun v s₁ => wpAny (model X.prog X.w) X.A (eval b X.env) (fun u s₂ => wpAny (model X.prog X.w) X.A (f v u) Q X.xe s₂) X.xe s₁) X.xe s := by
  refine thn (ha pins s σ H _ I h) fun v s1 ⟨x, H1, I1, r1, q1⟩ => ?_
  refine thn (hb pins s1 σ H1 _ I1 q1) fun u s2 ⟨y, H2, I2, r2, q2⟩ => ?_
  exact hf v u s2 x y H2 I2 r1 r2 q2

theorem pe_op {op : Operator} {r : R2} (ho : OpR X (binaryOp op) r) (ha : PE X a ta) (hb : PE X b tb) : PE X (.BinOp a op b pos) (tOp r ta tb) := by
  intro pins s σ H Q I h
  exact wpAny_BinOp (binT ha hb I h fun v u s2 x y H2 I2 rx ry q => ho pins s2 σ H2 x y v u Q I2 rx ry q)
theorem pe_un {op : UnaryOp} {r : V → Hp → VK → Prop} (ho : UnR X (unaryOp op) r) (ha : PE X a ta) : PE X (.UnaryOp op a pos) (tUn r ta) := by
  intro pins s σ H Q I h
  exact UnaryOp_ (thn (ha pins s σ H _ I h) fun v s1 ⟨x, H1, I1, r1, q1⟩ => ho pins s1 σ H1 x v Q I1 r1 q1)
/-! ### ints -/
theorem opI {f : Value → Value → Sem Value} {C : Int → Int → Prop} {g : Int → Int → Int}
    (rule : ∀ (i j : Int) (t u : Tok) (s : Shared) (Q : Value → Shared → Prop) (E : Value → Shared → Prop), C i j → Q (.int (g i j) s.toks) { s with toks := s.toks + 1 } → wpAny (model X.prog X.w) X.A (f (.int i t) (.int j u)) Q E s) :
    OpR X f (rI C fun i j => .int (g i j)) := by
  intro pins s σ H x y v u Q I rx ry h
  obtain ⟨i, j, rfl, rfl, hc, q⟩ := h
  obtain ⟨t, rfl⟩ := rx
  obtain ⟨t', rfl⟩ := ry
  exact rule i j t t' s _ _ hc ⟨.int (g i j), H, I.tok _, ⟨_, rfl⟩, q⟩
theorem opI0 {f : Value → Value → Sem Value} {g : Int → Int → Int}
    (rule : ∀ (i j : Int) (t u : Tok) (s : Shared) (Q : Value → Shared → Prop) (E : Value → Shared → Prop), Q (.int (g i j) s.toks) { s with toks := s.toks + 1 } → wpAny (model X.prog X.w) X.A (f (.int i t) (.int j u)) Q E s) :
    OpR X f (rI0 fun i j => .int (g i j)) := by
  intro pins s σ H x y v u Q I rx ry h
  obtain ⟨i, j, rfl, rfl, q⟩ := h
  obtain ⟨t, rfl⟩ := rx
  obtain ⟨t', rfl⟩ := ry
  exact rule i j t t' s _ _ ⟨.int (g i j), H, I.tok _, ⟨_, rfl⟩, q⟩
theorem opB0 {f : Value → Value → Sem Value} {g : Int → Int → Bool}
    (rule : ∀ (i j : Int) (t u : Tok) (s : Shared) (Q : Value → Shared → Prop) (E : Value → Shared → Prop), Q (.bool (g i j)) s → wpAny (model X.prog X.w) X.A (f (.int i t) (.int j u)) Q E s) :
    OpR X f (rI0 fun i j => .bl (g i j)) := by
  intro pins s σ H x y v u Q I rx ry h
  obtain ⟨i, j, rfl, rfl, q⟩ := h
  obtain ⟨t, rfl⟩ := rx
  obtain ⟨t', rfl⟩ := ry
  exact rule i j t t' s _ _ ⟨.bl (g i j), H, I, rfl, q⟩

def CDiv (i j : Int) : Prop := 0 < j ∧ j < 1073741824
def CDivN (i j : Int) : Prop := j ≠ 0 ∧ j.natAbs < 1073741824
def CPow (i j : Int) : Prop := 0 ≤ j ∧ j ≤ 1000000 ∧ i.natAbs < 2 ^ 64
def CMul (i j : Int) : Prop := (-(2 ^ 64) < i ∧ i < 2 ^ 64) ∨ (-(2 ^ 64) < j ∧ j < 2 ^ 64)
theorem CMul.ok {i j : Int} (h : CMul i j) : IntMulOk i j := by
  rcases h with ⟨h1, h2⟩ | ⟨h1, h2⟩
  · exact .of_left (intBits_le_64 h1 h2)
  · exact .of_right (intBits_le_64 h1 h2)
theorem op_add : OpR X (binaryOp .Add) (rI0 fun i j => .int (i + j)) := opI0 fun _ _ _ _ _ _ _ q => add_int q
theorem op_sub : OpR X (binaryOp .Sub) (rI0 fun i j => .int (i - j)) := opI0 fun _ _ _ _ _ _ _ q => sub_int q
theorem op_mul : OpR X (binaryOp .Mult) (rI CMul fun i j => .int (i * j)) := opI fun _ _ _ _ _ _ _ hc q => mul_int q hc.ok
/-- % by a positive divisor of any size -/
theorem op_mod : OpR X (binaryOp .Mod) (rI (fun _ j => 0 < j) fun i j => .int (i % j)) := opI fun i j _ _ _ _ _ hc q => by
  have h1 : (0 : Int) < j := hc
  exact mod_int' (by omega) (by rw [Int.fmod_eq_emod_of_nonneg i (by omega)]; exact q)
theorem op_pow : OpR X (binaryOp .Pow) (rI CPow fun i j => .int (i ^ j.toNat)) := opI fun _ _ _ _ _ _ _ hc q => pow_int_small hc.1 hc.2.1 hc.2.2 q
theorem unI {f : Value → Sem Value} {g : Int → Int}
    (rule : ∀ (i : Int) (t : Tok) (s : Shared) (Q : Value → Shared → Prop) (E : Value → Shared → Prop), Q (.int (g i) s.toks) { s with toks := s.toks + 1 } → wpAny (model X.prog X.w) X.A (f (.int i t)) Q E s) :
    UnR X f (rU fun i => .int (g i)) := by
  intro pins s σ H x v Q I rx h
  obtain ⟨i, rfl, q⟩ := h
  obtain ⟨t, rfl⟩ := rx
  exact rule i t s _ _ ⟨.int (g i), H, I.tok _, ⟨_, rfl⟩, q⟩
theorem un_neg : UnR X (unaryOp .USub) (rU fun i => .int (-i)) := unI fun _ _ _ _ _ q => neg_int q
/-! ### bools among ints: n += (a < b) -/
end

/-! ### comparisons -/
/-- the scalars that == tells apart as data does -/
def scal : V → V → Bool
  | .non, .non => true | .non, .int _ => true | .int _, .non => true | .non, .bl _ => true | .bl _, .non => true | .non, .str _ => true | .str _, .non => true
  | .int _, .int _ => true | .bl _, .bl _ => true | .str _, .str _ => true | .byt _, .byt _ => true
  | .int _, .str _ => true | .str _, .int _ => true | .bl _, .str _ => true | .str _, .bl _ => true
  | _, _ => false
def rEq : R2 := fun x y H Q => scal x y = true ∧ Q (.bl (decide (x = y))) H
def rNe : R2 := fun x y H Q => scal x y = true ∧ Q (.bl (!decide (x = y))) H

theorem dec_int {i j : Int} : decide (V.int i = V.int j) = (i == j) := by
  rw [Bool.eq_iff_iff]
  simp
theorem dec_bl {i j : Bool} : decide (V.bl i = V.bl j) = (i == j) := by
  rw [Bool.eq_iff_iff]
  simp
theorem dec_str {i j : Str} : decide (V.str i = V.str j) = (i == j) := by
  rw [Bool.eq_iff_iff]
  simp
theorem dec_byt {i j : Array UInt8} : decide (V.byt i = V.byt j) = (i.toList == j.toList) := by
  rw [Bool.eq_iff_iff]
  cases i
  cases j
  simp

section
variable {X : Cx} {a b c : Expr} {ta tb tc : TE} {pos : Pos}
theorem fin_bl {pins : List (Addr × Obj)} {σ : St} {H : Hp} {s : Shared} {Q : VK} {k k' : Bool} (I : Inv X pins σ H s) (q : Q (.bl k) H) (e : k = k') : EP X pins σ Q (.bool k') s := by
  subst e
  exact ⟨.bl k, H, I, rfl, q⟩
theorem op_eq : OpR X (compareOp .Eq) rEq := by
  intro pins s σ H x y v u Q I rx ry h
  obtain ⟨hs, q⟩ := h
  cases x with
  | non =>
    cases rx
    cases y with
    | non => cases ry; exact PySem.EqNone.eq_none_none (fin_bl I q (by simp))
    | bl j => cases ry; exact PySem.EqNone.eq_none_bool (fin_bl I q (by simp))
    | int j => obtain ⟨t', rfl⟩ := ry; exact PySem.EqNone.eq_none_int (fin_bl I q (by simp))
    | str j => obtain ⟨t', rfl⟩ := ry; exact PySem.EqNone.eq_none_str (fin_bl I q (by simp))
    | _ => exact absurd (show false = true from hs) Bool.false_ne_true
  | bl i =>
    cases rx
    cases y with
    | non => cases ry; exact PySem.EqNone.eq_bool_none (fin_bl I q (by simp))
    | bl j => cases ry; exact eq_bool (fin_bl I q dec_bl)
    | str j => obtain ⟨t', rfl⟩ := ry; exact PySem.EqMixed.eq_bool_str (fin_bl I q (by simp))
    | _ => exact absurd (show false = true from hs) Bool.false_ne_true
  | int i =>
    obtain ⟨t, rfl⟩ := rx
    cases y with
    | non => cases ry; exact PySem.EqNone.eq_int_none (fin_bl I q (by simp))
    | int j => obtain ⟨t', rfl⟩ := ry; exact eq_int (fin_bl I q dec_int)
    | str j => obtain ⟨t', rfl⟩ := ry; exact PySem.EqMixed.eq_int_str (fin_bl I q (by simp))
    | _ => exact absurd (show false = true from hs) Bool.false_ne_true
  | str i =>
    obtain ⟨t, rfl⟩ := rx
    cases y with
    | non => cases ry; exact PySem.EqNone.eq_str_none (fin_bl I q (by simp))
    | bl j => cases ry; exact PySem.EqMixed.eq_str_bool (fin_bl I q (by simp))
    | int j => obtain ⟨t', rfl⟩ := ry; exact PySem.EqMixed.eq_str_int (fin_bl I q (by simp))
    | str j => obtain ⟨t', rfl⟩ := ry; exact eq_str (fin_bl I q dec_str)
    | _ => exact absurd (show false = true from hs) Bool.false_ne_true
  | byt i =>
    obtain ⟨t, rfl⟩ := rx
    cases y with
    | byt j => obtain ⟨t', rfl⟩ := ry; exact PySem.W.eq_bytes (fin_bl I q dec_byt)
    | _ => exact absurd (show false = true from hs) Bool.false_ne_true
  | _ => cases y <;> exact absurd (show false = true from hs) Bool.false_ne_true
theorem op_ne : OpR X (compareOp .NotEq) rNe := by
  intro pins s σ H x y v u Q I rx ry h
  obtain ⟨hs, q⟩ := h
  cases x with
  | non =>
    cases rx
    cases y with
    | non => cases ry; exact PySem.EqNone.ne_none_none (fin_bl I q (by simp))
    | bl j => cases ry; exact PySem.EqNone.ne_none_bool (fin_bl I q (by simp))
    | int j => obtain ⟨t', rfl⟩ := ry; exact PySem.EqNone.ne_none_int (fin_bl I q (by simp))
    | str j => obtain ⟨t', rfl⟩ := ry; exact PySem.EqNone.ne_none_str (fin_bl I q (by simp))
    | _ => exact absurd (show false = true from hs) Bool.false_ne_true
  | bl i =>
    cases rx
    cases y with
    | non => cases ry; exact PySem.EqNone.ne_bool_none (fin_bl I q (by simp))
    | bl j => cases ry; exact ne_bool (fin_bl I q (congrArg not dec_bl))
    | str j => obtain ⟨t', rfl⟩ := ry; exact PySem.EqMixed.ne_bool_str (fin_bl I q (by simp))
    | _ => exact absurd (show false = true from hs) Bool.false_ne_true
  | int i =>
    obtain ⟨t, rfl⟩ := rx
    cases y with
    | non => cases ry; exact PySem.EqNone.ne_int_none (fin_bl I q (by simp))
    | int j => obtain ⟨t', rfl⟩ := ry; exact ne_int (fin_bl I q (congrArg not dec_int))
    | str j => obtain ⟨t', rfl⟩ := ry; exact PySem.EqMixed.ne_int_str (fin_bl I q (by simp))
    | _ => exact absurd (show false = true from hs) Bool.false_ne_true
  | str i =>
    obtain ⟨t, rfl⟩ := rx
    cases y with
    | non => cases ry; exact PySem.EqNone.ne_str_none (fin_bl I q (by simp))
    | bl j => cases ry; exact PySem.EqMixed.ne_str_bool (fin_bl I q (by simp))
    | int j => obtain ⟨t', rfl⟩ := ry; exact PySem.EqMixed.ne_str_int (fin_bl I q (by simp))
    | str j => obtain ⟨t', rfl⟩ := ry; exact ne_str (fin_bl I q (congrArg not dec_str))
    | _ => exact absurd (show false = true from hs) Bool.false_ne_true
  | byt i =>
    obtain ⟨t, rfl⟩ := rx
    cases y with
    | byt j => obtain ⟨t', rfl⟩ := ry; exact PySem.W.ne_bytes (fin_bl I q (congrArg not dec_byt))
    | _ => exact absurd (show false = true from hs) Bool.false_ne_true
  | _ => cases y <;> exact absurd (show false = true from hs) Bool.false_ne_true

theorem op_lt : OpR X (compareOp .Lt) (rI0 fun i j => .bl (decide (i < j))) := opB0 fun _ _ _ _ _ _ _ q => lt_int q
theorem op_le : OpR X (compareOp .LtE) (rI0 fun i j => .bl (decide (i ≤ j))) := opB0 fun _ _ _ _ _ _ _ q => le_int q
theorem op_gt : OpR X (compareOp .Gt) (rI0 fun i j => .bl (decide (j < i))) := opB0 fun _ _ _ _ _ _ _ q => gt_int q
theorem op_ge : OpR X (compareOp .GtE) (rI0 fun i j => .bl (decide (j ≤ i))) := opB0 fun _ _ _ _ _ _ _ q => ge_int q
/-- is None, is not None: the right side a value none -/
theorem op_isN : OpR X (compareOp .Is) (fun x y H Q => y = .non ∧ Q (.bl (decide (x = .non))) H) := by
  intro pins s σ H x y v u Q I rx ry h
  obtain ⟨rfl, q⟩ := h
  cases ry
  refine is_none_gen (fin_bl I q ?_)
  cases x <;> first
    | (cases rx; rfl)
    | (obtain ⟨t, rfl⟩ := rx; rfl)
theorem op_notN : OpR X (compareOp .IsNot) (fun x y H Q => y = .non ∧ Q (.bl (!decide (x = .non))) H) := by
  intro pins s σ H x y v u Q I rx ry h
  obtain ⟨rfl, q⟩ := h
  cases ry
  refine isnot_none_gen (fin_bl I q ?_)
  cases x <;> first
    | (cases rx; rfl)
    | (obtain ⟨t, rfl⟩ := rx; rfl)

/-- is, is not of two objects that are tracked lists or instances -/
def isObj : HO → Bool
  | .lst _ => true
  | .ins _ _ _ => true
  | _ => false
/-- two rules for one operation: by cases -/
theorem OpR.or {f : Value → Value → Sem Value} {r r' : R2} (h : OpR X f r) (h' : OpR X f r') : OpR X f (fun x y H Q => r x y H Q ∨ r' x y H Q) := by
  intro pins s σ H x y v u Q I rx ry q
  rcases q with q | q
  · exact h pins s σ H x y v u Q I rx ry q
  · exact h' pins s σ H x y v u Q I rx ry q

theorem nomark (b : Expr) {op : CmpOp} (h : op ≠ .In := by decide) (h2 : op ≠ .NotIn := by decide) : behindInMarks op b = false := by
  have e1 : (op == CmpOp.In) = false := by cases op <;> first | rfl | exact absurd rfl h
  have e2 : (op == CmpOp.NotIn) = false := by cases op <;> first | rfl | exact absurd rfl h2
  cases b <;> simp [behindInMarks, e1, e2]
/-- a comparison as a value; hm: nomark b, or (for in, not in) by with_unfolding_all rfl -/
theorem pe_cmpR {op : CmpOp} {r : R2} (ho : OpR X (compareOp op) r) (ha : PE X a ta) (hb : PE X b tb) (hm : behindInMarks op b = false) : PE X (.Compare a [op] [b] pos) (tOp r ta tb) := by
  intro pins s σ H Q I h
  exact wpAny_Compare1 (binT ha hb I h fun v u s2 x y H2 I2 rx ry q => ho pins s2 σ H2 x y v u Q I2 rx ry q) hm
/-- a reading of a value as a test -/
def tTest (t : TE) : TT := fun σ H Q => t σ H fun x H' => ∃ k, x = .bl k ∧ Q k H'
theorem pt_cmpR {op : CmpOp} {r : R2} (ho : OpR X (compareOp op) r) (ha : PE X a ta) (hb : PE X b tb) (hm : behindInMarks op b = false) : PT X (.Compare a [op] [b] pos) (tTest (tOp r ta tb)) := by
  intro pins s σ H Q I h
  refine wpAny_isTrue_Compare1 (thn (ha pins s σ H _ I h) fun v s1 ⟨x, H1, I1, r1, q1⟩ => thn (hb pins s1 σ H1 _ I1 q1) fun u s2 ⟨y, H2, I2, r2, q2⟩ =>
    thn (ho pins s2 σ H2 x y v u _ I2 r1 r2 q2) fun c s3 ⟨z, H3, I3, r3, k, e, q3⟩ => ?_) hm
  subst e
  cases r3
  exact wpAny_truthy_bool ⟨H3, I3, q3⟩
/-- a op1 b op2 c -/
def tChain (r r' : R2) (ta tb tc : TE) : TE := fun σ H Q => ta σ H fun x H1 => tb σ H1 fun y H2 => r x y H2 fun z H3 => ∃ k, z = .bl k ∧
  (if k = true then tc σ H3 fun w' H4 => r' y w' H4 Q else Q (.bl false) H3)
theorem pe_chain {op op' : CmpOp} {r r' : R2} (ho : OpR X (compareOp op) r) (ho' : OpR X (compareOp op') r') (ha : PE X a ta) (hb : PE X b tb) (hc : PE X c tc)
    (hm : lastMarks [op, op'] [b, c] = false := by with_unfolding_all rfl) : PE X (.Compare a [op, op'] [b, c] pos) (tChain r r' ta tb tc) := by
  intro pins s σ H Q I h
  refine Compare_chain (thn (ha pins s σ H _ I h) fun v s1 ⟨x, H1, I1, r1, q1⟩ => chain_link (thn (hb pins s1 σ H1 _ I1 q1) fun u s2 ⟨y, H2, I2, r2, q2⟩ =>
    thn (ho pins s2 σ H2 x y v u _ I2 r1 r2 q2) fun d s3 ⟨z, H3, I3, r3, k, e, q3⟩ => ?_)) hm
  subst e
  cases r3
  refine wpAny_truthy_bool ?_
  cases k with
  | false => exact ite_ff ⟨.bl false, H3, I3, rfl, q3⟩
  | true => exact ite_tt (chain_last (thn (hc pins s3 σ H3 _ I3 q3) fun w' s4 ⟨z', H4, I4, r4, q4⟩ => ho' pins s4 σ H4 y z' u w' Q I4 r2 r4 q4))
theorem pt_chain {op op' : CmpOp} {r r' : R2} (ho : OpR X (compareOp op) r) (ho' : OpR X (compareOp op') r') (ha : PE X a ta) (hb : PE X b tb) (hc : PE X c tc)
    (hm : lastMarks [op, op'] [b, c] = false := by with_unfolding_all rfl) : PT X (.Compare a [op, op'] [b, c] pos) (tTest (tChain r r' ta tb tc)) := by
  intro pins s σ H Q I h
  refine isTrue_chain (thn (ha pins s σ H _ I h) fun v s1 ⟨x, H1, I1, r1, q1⟩ => test_link (thn (hb pins s1 σ H1 _ I1 q1) fun u s2 ⟨y, H2, I2, r2, q2⟩ =>
    thn (ho pins s2 σ H2 x y v u _ I2 r1 r2 q2) fun d s3 ⟨z, H3, I3, r3, k, e, q3⟩ => ?_)) hm
  subst e
  cases r3
  refine wpAny_truthy_bool ?_
  cases k with
  | false =>
    obtain ⟨k', e', q'⟩ := q3
    cases e'
    exact ite_ff ⟨H3, I3, q'⟩
  | true =>
    refine ite_tt (test_last (thn (hc pins s3 σ H3 _ I3 q3) fun w' s4 ⟨z', H4, I4, r4, q4⟩ => thn (ho' pins s4 σ H4 y z' u w' _ I4 r2 r4 q4) fun d' s5 ⟨z2, H5, I5, r5, k2, e2, q5⟩ => ?_))
    subst e2
    cases r5
    exact wpAny_truthy_bool ⟨H5, I5, q5⟩

/-! ### truth -/
/-- a value's truth by the abstract heap -/
def TruV (K : PySem.W.Frag) (x : V) (H : Hp) (k : Bool) : Prop :=
  match x with
  | .non => k = false
  | .bl b => k = b
  | .int i => k = (i != 0)
  | .str y => y.length ≤ sizeLine ∧ k = ((y.length : Int) != 0)
  | .byt y => y.size ≤ sizeLine ∧ k = ((y.size : Int) != 0)
  | .ref p => (∃ xs, SqL K H p xs ∧ k = !xs.isEmpty) ∨ (∃ xs, SqT K H p xs ∧ k = !xs.isEmpty) ∨ ∃ kvs, H p = some (.dK kvs) ∧ k = !kvs.isEmpty
  | _ => False
theorem line63 : (sizeLine : Nat) < 2 ^ 63 := by rw [sizeLine_eq]; decide
/-! ### strs and bytes -/
def PlainIxT (b : Expr) : Prop := ∀ o i, subscripted b false o i = operate [o, i] (getItem o i)
/-! ### scalar builtins, by CallR -/
theorem vals1 {x : V} {us : List Value} (r : Vals [x] us) : ∃ u, us = [u] ∧ RelV x u := by
  cases r with
  | cons r1 r2 => cases r2; exact ⟨_, rfl, r1⟩
theorem vals2 {x y : V} {us : List Value} (r : Vals [x, y] us) : ∃ u w', us = [u, w'] ∧ RelV x u ∧ RelV y w' := by
  cases r with
  | cons r1 r2 =>
    cases r2 with
    | cons r3 r4 => cases r4; exact ⟨_, _, rfl, r1, r3⟩
theorem call_abs : CallR X (.builtin "abs") (fun xs H Q => ∃ i, xs = [.int i] ∧ Q (.int (if i < 0 then -i else i)) H) := by
  intro pins s σ H xs us Q I r h
  obtain ⟨i, rfl, q⟩ := h
  obtain ⟨u, rfl, t, rfl⟩ := vals1 r
  exact call_abs_int fun u tk => ⟨.int (if i < 0 then -i else i), H, I.tok _, ⟨_, rfl⟩, q⟩
theorem call_max2 (hc : X.calm = true) : CallR X (.builtin "max") (fun xs H Q => ∃ i j, xs = [.int i, .int j] ∧ Q (.int (if j > i then j else i)) H) := by
  intro pins s σ H xs us Q I r h
  obtain ⟨i, j, rfl, q⟩ := h
  obtain ⟨u, w', rfl, ⟨t, rfl⟩, ⟨t', rfl⟩⟩ := vals2 r
  refine max_two_ints (I.ok.hd hc) fun h' tk k => ⟨_, H, I.kept k, ?_, q⟩
  by_cases hj : j > i
  · rw [if_pos hj, if_pos hj]; exact ⟨_, rfl⟩
  · rw [if_neg hj, if_neg hj]; exact ⟨_, rfl⟩
theorem call_min2 (hc : X.calm = true) : CallR X (.builtin "min") (fun xs H Q => ∃ i j, xs = [.int i, .int j] ∧ Q (.int (if j < i then j else i)) H) := by
  intro pins s σ H xs us Q I r h
  obtain ⟨i, j, rfl, q⟩ := h
  obtain ⟨u, w', rfl, ⟨t, rfl⟩, ⟨t', rfl⟩⟩ := vals2 r
  refine min_two_ints (I.ok.hd hc) fun h' tk k => ⟨_, H, I.kept k, ?_, q⟩
  by_cases hj : j < i
  · rw [if_pos hj, if_pos hj]; exact ⟨_, rfl⟩
  · rw [if_neg hj, if_neg hj]; exact ⟨_, rfl⟩
theorem call_int1 : CallR X (.type "int") (fun xs H Q => (∃ i, xs = [.int i] ∧ Q (.int i) H) ∨ ∃ k, xs = [.bl k] ∧ Q (.int (if k then 1 else 0)) H) := by
  intro pins s σ H xs us Q I r h
  rcases h with ⟨i, rfl, q⟩ | ⟨k, rfl, q⟩
  · obtain ⟨u, rfl, t, rfl⟩ := vals1 r
    exact call_int_int ⟨.int i, H, I, ⟨_, rfl⟩, q⟩
  · obtain ⟨u, rfl, r1⟩ := vals1 r
    cases r1
    exact call_int_bool ⟨.int (if k then 1 else 0), H, I.tok _, ⟨_, rfl⟩, q⟩
/-- len of a str, a bytes, a list, a tuple -/
def LenV (K : PySem.W.Frag) (x : V) (H : Hp) (n : Nat) : Prop :=
  match x with
  | .str y => y.length ≤ sizeLine ∧ n = y.length
  | .byt y => y.size ≤ sizeLine ∧ n = y.size
  | .ref p => (∃ xs, SqL K H p xs ∧ n = xs.length) ∨ ∃ xs, SqT K H p xs ∧ n = xs.length
  | _ => False
end
end L2

namespace L2
open PySem PySem.Spec PyProof.Rows

/-! ### an instance, its attributes a map -/
structure ObjM (h : Heap) (x dx C : Addr) (mA : Str → Option Value) : Prop where
  obj : h.get? x = some (PySem.W.instObj C dx)
  ns : h.Ns1 dx mA
  ne : dx ≠ x

theorem lookIn_ns {h : Heap} {dx : Addr} {mA : Str → Option Value} (n : h.Ns1 dx mA) : ∃ od, h.get? dx = some od ∧ ∀ name, PySem.W.lookIn name od = some (mA name) := by
  obtain ⟨o, es, ep, ho, hd, hk, _, hm⟩ := n
  refine ⟨o, ho, fun name => ?_⟩
  have e := hm name
  unfold nsFind findBy at e
  rw [← Array.find?_toList] at e
  unfold PySem.W.lookIn
  rw [hd]
  dsimp only
  split
  · rename_i y q
    rw [q] at e
    exact congrArg some e
  · rename_i q
    rw [q] at e
    have a : es.toList.any (·.refKey) = false := by
      rw [List.any_eq_false]
      intro y hy
      obtain ⟨z, t, hkey⟩ := hk y (Array.mem_toList_iff.mp hy)
      simp [DictEntry.refKey, hkey]
    have a' : ¬ es.toList.any (·.refKey) = true := by rw [a]; exact Bool.false_ne_true
    rw [if_neg a']
    exact congrArg some e

theorem ObjM.look {h : Heap} {x dx C : Addr} {mA : Str → Option Value} (I : ObjM h x dx C mA) : ∃ od, PySem.W.InstAt h x (PySem.W.instObj C dx) C (some od) ∧ ∀ name, PySem.W.lookIn name od = some (mA name) :=
  let ⟨od, ho, hl⟩ := lookIn_ns I.ns
  ⟨od, ⟨I.obj, rfl, rfl, ho⟩, hl⟩

section
variable {prog : Program} {w : World} {A : Around} {E : Value → Shared → Prop} {s : Shared} {K : PySem.W.Frag} {x dx C f : Addr} {mA : Str → Option Value} {name : Str} {v : Value}

end

/-! ### the attributes as a list of pairs -/
def putF (f : Str) (v : V) : List (Str × V) → List (Str × V)
  | [] => [(f, v)]
  | (g, x) :: r => if g = f then (g, v) :: r else (g, x) :: putF f v r
section
variable {P : Program} {w : World} {H H' : Hp} {h h' : Heap} {a C dx : Addr} {fs fs' : List (Str × V)}
theorem ins_get (hok : HOk P w H h) (e : H a = some (.ins C dx fs)) : ∃ mA, ObjM h a dx C mA ∧ (∀ f, RelO (fs.lookup f) (mA f)) ∧ PySem.Within mA (fs.map (·.1)) ∧ fs.length ≤ 1000 ∧ H dx = some (.own a) := by
  obtain ⟨d, z, ne, ob, mA, n, r, q⟩ := (show ObjOk P w H h a (.ins C dx fs) from hok a _ e)
  exact ⟨mA, ⟨ob, n, ne⟩, r, q, z, d⟩
end

/-! ### what of the text a class must have -/
structure Cls (K : PySem.W.Frag) (C : Addr) : Prop where
  pg : PySem.W.plainGet K C Str.empty = true
  hd : PySem.W.hasDictIn K C = true
  po : PySem.W.plainOver K C = true
  sa : PySem.W.findIn K (.ref C) "__setattr__" = some (some (.builtin "object.__setattr__"))
theorem Cls.get {K : PySem.W.Frag} {C : Addr} (c : Cls K C) (f : Str) : PySem.W.plainGet K C f = true := c.pg
/-- no class of it has the name -/
def NoAttr (K : PySem.W.Frag) (C : Addr) (f : Str) : Prop := PySem.W.findIn K (.ref C) f = some none
/-- a constant of the class -/
structure Con (K : PySem.W.Frag) (C : Addr) (f : Str) (v : V) (u : Value) : Prop where
  at_ : PySem.W.findIn K (.ref C) f = some (some u)
  rel : RelV v u
  get : PySem.W.specialIn K u "__get__" = some none
  cp : PySem.W.copiedNames.contains f = false
/-- a method: a plain def of the class or of one above it -/
structure Meth (K : PySem.W.Frag) (C : Addr) (m : Str) (f : Addr) : Prop where
  at_ : PySem.W.findIn K (.ref C) m = some (some (.ref f))
  fn : PySem.W.isFn K (.ref f) = true
  kp : PySem.W.keepIn K (.ref f) = true

section
variable {X : Cx} {pins : List (Addr × Obj)} {σ : St} {H : Hp} {s : Shared} {a C dx : Addr} {fs : List (Str × V)} {f : Str} {v : V} {A : Around} {E : Value → Shared → Prop}

/-- a new instance, tracked, without attributes -/
theorem Inv.made (I : Inv X pins σ H s) : Inv X pins σ (upd (upd H s.heap.objs.size (.own (s.heap.objs.size + 1))) (s.heap.objs.size + 1) (.ins C s.heap.objs.size []))
    { s with heap := (s.heap.push PySem.W.emptyDict).push (PySem.W.instObj C s.heap.objs.size) } := by
  have e1 : (s.heap.push PySem.W.emptyDict).get? s.heap.objs.size = some PySem.W.emptyDict := Heap.get?_push_size s.heap rfl
  have e2 : ((s.heap.push PySem.W.emptyDict).push (PySem.W.instObj C s.heap.objs.size)).get? (s.heap.objs.size + 1) = some (PySem.W.instObj C s.heap.objs.size) := by
    have := Heap.get?_push_size (s.heap.push PySem.W.emptyDict) (o := PySem.W.instObj C s.heap.objs.size) rfl
    rwa [Heap.size_push] at this
  have e3 : (s.heap.push PySem.W.emptyDict).Ns s.heap.objs.size (fun _ => none) := ⟨PySem.W.emptyDict, #[], _, e1, rfl, (fun e he => absurd he (by simp)), fun _ => rfl⟩
  have I1 := I.laid (a := s.heap.objs.size) (o := .own (s.heap.objs.size + 1)) (h' := s.heap.push PySem.W.emptyDict) (t' := s.toks) (fun b u q => Heap.get?_push_of_some _ q) (Nat.le_refl _) ⟨_, e1⟩
  refine I1.laid (a := s.heap.objs.size + 1) (o := .ins C s.heap.objs.size []) (t' := s.toks) (fun b u q => Heap.get?_push_of_some _ q) (Nat.le_of_eq (Heap.size_push _ _)) ?_
  have ne : s.heap.objs.size ≠ s.heap.objs.size + 1 := Nat.ne_of_lt (Nat.lt_succ_self _)
  refine ⟨by rw [upd_ne ne, upd_same], Nat.zero_le _, ne, e2, fun _ => none, (Heap.Ns1.of_empty e3).at fun o q => Heap.get?_push_of_some _ q, fun _ => True.intro, fun y hy => absurd rfl hy⟩

end

/-! ### readings and rules -/
/-- e.f, an attribute of the instance -/
def tFld (K : PySem.W.Frag) (ta : TE) (f : Str) : TE := fun σ H Q => ta σ H fun x H1 => ∃ a C dx fs v, x = .ref a ∧ H1 a = some (.ins C dx fs) ∧ Cls K C ∧ NoAttr K C f ∧ fs.lookup f = some v ∧ Q v H1
/-- e.f, a constant of the class -/
def tCon (K : PySem.W.Frag) (ta : TE) (f : Str) : TE := fun σ H Q => ta σ H fun x H1 => ∃ a C dx fs v u, x = .ref a ∧ H1 a = some (.ins C dx fs) ∧ Cls K C ∧ Con K C f v u ∧ fs.lookup f = none ∧ Q v H1
/-- e.f = value -/
def sFld (K : PySem.W.Frag) (ta tv : TE) (f : Str) : TS := fun D σ H => tv σ H fun y H1 => ta σ H1 fun x H2 => ∃ a C dx fs, x = .ref a ∧ H2 a = some (.ins C dx fs) ∧ Cls K C ∧ NoAttr K C f ∧ fs.length < 1000 ∧
  D.nx σ (upd H2 a (.ins C dx (putF f y fs)))
/-- an augmented operator on two values -/
def InOp (X : Cx) (op : Operator) (rd : V → V → Hp → VK → Prop) : Prop :=
  ∀ (pins : List (Addr × Obj)) (s : Shared) (σ : St) (H : Hp) (x y : V) (u v : Value) (Q : VK), Inv X pins σ H s → RelV x u → RelV y v → rd x y H Q → wpAny (model X.prog X.w) X.A (inplaceOp op u v) (EP X pins σ Q) X.xe s
/-- e.f op= value -/
def sFldAug (K : PySem.W.Frag) (ta tv : TE) (rd : V → V → Hp → VK → Prop) (f : Str) : TS := fun D σ H => ta σ H fun x H1 => ∃ a C dx fs v, x = .ref a ∧ H1 a = some (.ins C dx fs) ∧ Cls K C ∧ NoAttr K C f ∧ fs.lookup f = some v ∧
  tv σ H1 fun y H2 => rd v y H2 fun z H3 => ∃ dx' fs', H3 a = some (.ins C dx' fs') ∧ fs'.length < 1000 ∧ D.nx σ (upd H3 a (.ins C dx' (putF f z fs')))

section
variable {X : Cx} {o e value : Expr} {f : Str} {pos pos' tpos : Pos} {ta tv : TE}
def rAdd : V → V → Hp → VK → Prop := fun x y H Q => ∃ i j, x = .int i ∧ y = .int j ∧ Q (.int (i + j)) H
def rSub : V → V → Hp → VK → Prop := fun x y H Q => ∃ i j, x = .int i ∧ y = .int j ∧ Q (.int (i - j)) H
end

/-! ### isinstance -/
section
variable {X : Cx} {pins : List (Addr × Obj)} {σ : St} {H : Hp} {s : Shared} {A : Around} {E : Value → Shared → Prop} {Q : Value → Shared → Prop} {c : Value} {b : Bool}
/-- the type of a value, as the fragment's deciders take it; for an instance its class -/
inductive TyOf (K : PySem.W.Frag) (H : Hp) : V → Value → Prop where
  | non : TyOf K H .non (.type "NoneType")
  | bl (x : Bool) : TyOf K H (.bl x) (.type "bool")
  | int (i : Int) : TyOf K H (.int i) (.type "int")
  | str (x : Str) : TyOf K H (.str x) (.type "str")
  | flt (x : UInt64) : TyOf K H (.flt x) (.type "float")
  | lst {a : Addr} {xs : List V} (e : H a = some (.lst xs)) : TyOf K H (.ref a) (.type "list")
  | frz {a : Addr} {o : Obj} {xs : List V} (e : H a = some (.frz o (.lst xs))) : TyOf K H (.ref a) (.type "list")
  | tup {a : Addr} {xs : List V} (e : H a = some (.tup xs)) : TyOf K H (.ref a) (.type "tuple")
  | dK {a : Addr} {kvs : List (Key × V)} (e : H a = some (.dK kvs)) : TyOf K H (.ref a) (.type "dict")
  | dT {a : Addr} {kvs : List (List Key × V)} (e : H a = some (.dT kvs)) : TyOf K H (.ref a) (.type "dict")
  | ins {a C dx : Addr} {fs : List (Str × V)} (e : H a = some (.ins C dx fs)) (cl : Cls K C) (ha : PySem.W.findIn K (.ref C) "__class__" = some (some (.builtin "object.__class__")))
      (hn : PySem.W.specialIn K (.builtin "object.__class__") "__get__" = some (some (.builtin "getset_descriptor.__get__"))) (htk : PySem.W.takesIn K (.builtin "object.__class__") = some true)
      (hm : PySem.W.mroIn K C (.type "object") = some true) : TyOf K H (.ref a) (.ref C)
/-- isinstance(x, c) for one class c, a built-in or an own one: kitOne's answer -/
theorem isinst_ok {x : V} {u t : Value} (I : Inv X pins σ H s) (rx : RelV x u) (ty : TyOf X.K H x t) (e : PySem.W.kitOne X.K t c = some b) (h : ∀ tk, Q (.bool b) { s with toks := tk }) :
    wpAny (model X.prog X.w) A (call (.builtin "isinstance") [u, c]) Q E s := by
  cases ty with
  | non => cases (show u = Value.none from rx); exact PySem.W.kia_one PySem.W.kitx_none I.kIn True.intro e (fun z => nomatch z) h
  | bl y => cases (show u = Value.bool y from rx); exact PySem.W.kia_one PySem.W.kitx_bool I.kIn True.intro e (fun z => nomatch z) h
  | int i => obtain ⟨t, q⟩ := (show ∃ t, u = Value.int i t from rx); cases q; exact PySem.W.kia_one PySem.W.kitx_int I.kIn True.intro e (fun z => nomatch z) h
  | str y => obtain ⟨t, q⟩ := (show ∃ t, u = Value.str y t from rx); cases q; exact PySem.W.kia_one PySem.W.kitx_str I.kIn True.intro e (fun z => nomatch z) h
  | flt y => obtain ⟨t, q⟩ := (show ∃ t, u = Value.float y t from rx); cases q; exact PySem.W.kia_one PySem.W.kitx_float I.kIn True.intro e (fun z => nomatch z) h
  | @lst a xs ea =>
    cases (show u = Value.ref a from rx)
    obtain ⟨_, _, n, _, h1⟩ := (show ObjOk X.prog X.w H s.heap a (.lst xs) from I.hok a _ ea)
    exact PySem.W.kia_one PySem.W.kitx_list I.kIn ⟨_, h1, rfl⟩ e (fun z => nomatch z) h
  | @frz a ob xs ea =>
    cases (show u = Value.ref a from rx)
    obtain ⟨_, _, _, n, _, h1⟩ := (show ObjOk X.prog X.w H s.heap a (.frz ob (.lst xs)) from I.hok a _ ea)
    exact PySem.W.kia_one PySem.W.kitx_list I.kIn ⟨_, h1, rfl⟩ e (fun z => nomatch z) h
  | @tup a xs ea =>
    cases (show u = Value.ref a from rx)
    obtain ⟨_, _, _, p⟩ := (show ObjOk X.prog X.w H s.heap a (.tup xs) from I.hok a _ ea)
    obtain ⟨o, h1, h2, _⟩ := p
    exact PySem.W.kia_one PySem.W.kitx_tuple I.kIn ⟨o, h1, h2⟩ e (fun z => nomatch z) h
  | @dK a kvs ea =>
    cases (show u = Value.ref a from rx)
    obtain ⟨_, _, vs, _, p⟩ := (show ObjOk X.prog X.w H s.heap a (.dK kvs) from I.hok a _ ea)
    obtain ⟨o, es, ep, h1, h2, _⟩ := p
    exact PySem.W.kia_one PySem.W.kitx_dict I.kIn ⟨o, h1, h2.1⟩ e (fun z => nomatch z) h
  | @dT a kvs ea =>
    cases (show u = Value.ref a from rx)
    obtain ⟨_, _, xs, _, o, es, ep, h1, h2, _⟩ := (show ObjOk X.prog X.w H s.heap a (.dT kvs) from I.hok a _ ea)
    exact PySem.W.kia_one PySem.W.kitx_dict I.kIn ⟨o, h1, h2.1⟩ e (fun z => nomatch z) h
  | @ins a C dx fs ea cl ha hn htk hm =>
    cases (show u = Value.ref a from rx)
    obtain ⟨mA, O, _⟩ := ins_get I.hok ea
    obtain ⟨od, J, _⟩ := O.look
    exact PySem.W.kia_one (PySem.W.kitx_own (cl.get _) cl.hd ha hn htk hm) I.kIn J e (fun z => nomatch z) h
end
end L2

namespace L2
open PySem PySem.Spec PyProof.Rows

/-! ### room -/
structure Room (k : Nat) (A : Around) : Prop where
  hd : A.handled = none
  dp : A.depth + 3 * k + 5 < recursionLimit
  un : A.units + 16 * k + 200 < cLine
theorem Room.mono {j k : Nat} {A : Around} (r : Room k A) (h : j ≤ k) : Room j A := ⟨r.hd, by have := r.dp; omega, by have := r.un; omega⟩
theorem Room.deeper {k : Nat} {A : Around} (r : Room (k + 1) A) (env : Env) : Room k (A.deeper env) :=
  ⟨r.hd, by have := r.dp; show A.depth + 1 + 3 * k + 5 < _; omega, by have := r.un; show A.units + 3 + 16 * k + 200 < _; omega⟩
theorem Room.in1 {k : Nat} {A : Around} (r : Room (k + 1) A) : Room k A.in1 :=
  ⟨r.hd, by have := r.dp; show A.depth + 3 * k + 5 < _; omega, by have := r.un; show A.units + 1 + 16 * k + 200 < _; omega⟩
theorem Room.depth {k : Nat} {A : Around} (r : Room k A) : A.depth < recursionLimit := by have := r.dp; omega
theorem Room.units {k : Nat} {A : Around} (r : Room k A) : A.units + 64 < cLine := by have := r.un; omega
/-! ### argument lists and displays -/
def tNil : TA := fun _ H Q => Q [] H
def tCons (ta : TE) (tr : TA) : TA := fun σ H Q => ta σ H fun x H1 => tr σ H1 fun xs H2 => Q (x :: xs) H2
section
variable {X : Cx} {e : Expr} {es : List Expr} {te : TE} {t : TA} {pos : Pos}
theorem pa_nil : PA X [] tNil := fun _ _ _ _ H Q I h => Calls.spliced_nil ⟨[], H, I, .nil, h⟩
theorem pa_cons (ha : PE X e te) (hr : PA X es t) (hs : starEach (e :: es) X.env = (false, eval e X.env) :: starEach es X.env := by rfl) : PA X (e :: es) (tCons te t) := by
  intro pos pins s σ H Q I h
  rw [hs]
  show wpAny _ _ (spliced ((false, eval e X.env) :: backTo pos (starEach es X.env))) _ _ s
  refine Calls.spliced_cons (thn (ha pins s σ H _ I h) fun u s1 ⟨x, H1, I1, r1, q1⟩ => ?_)
  exact thn (hr pos pins s1 σ H1 _ I1 q1) fun us s2 ⟨xs, H2, I2, r2, q2⟩ => ⟨x :: xs, H2, I2, .cons r1 r2, q2⟩

/-- a tuple, a list of written items -/
def tTup (t : TA) : TE := fun σ H Q => t σ H fun xs H1 => xs.length ≤ sizeLine ∧ ∀ p, H1 p = none → Q (.ref p) (upd H1 p (.tup xs))
def tLst (t : TA) : TE := fun σ H Q => t σ H fun xs H1 => xs.length ≤ sizeLine ∧ ∀ p, H1 p = none → Q (.ref p) (upd H1 p (.lst xs))
theorem pe_tup {x1} (h : PA X es t) : PE X (.Tuple es x1 pos) (tTup t) := by
  intro pins s σ H Q I hq
  refine wpAny_Tuple_spliced (thn (h pos pins s σ H _ I hq) fun us s1 ⟨xs, H1, I1, r, z, q⟩ => ⟨by rw [← r.length]; exact z, ?_⟩)
  have hf : H1 s1.heap.objs.size = none := I1.hok.fresh (Nat.le_refl _)
  refine ⟨.ref s1.heap.objs.size, upd H1 s1.heap.objs.size (.tup xs), I1.laid (t' := s1.toks) (fun b u e => Heap.get?_push_of_some _ e) (Nat.le_refl _) ?_, rfl, q _ hf⟩
  exact ⟨z, us, r, ⟨_, Heap.get?_push_size _ rfl, rfl, _, rfl⟩⟩
theorem pe_lst (h : PA X es t) : PE X (.List es pos) (tLst t) := by
  intro pins s σ H Q I hq
  refine wpAny_List_spliced (thn (h pos pins s σ H _ I hq) fun us s1 ⟨xs, H1, I1, r, z, q⟩ => ⟨by rw [← r.length]; exact z, ?_⟩)
  have hf : H1 s1.heap.objs.size = none := I1.hok.fresh (Nat.le_refl _)
  refine ⟨.ref s1.heap.objs.size, upd H1 s1.heap.objs.size (.lst xs), I1.laid (t' := s1.toks) (fun b u e => Heap.get?_push_of_some _ e) (Nat.le_refl _) ?_, rfl, q _ hf⟩
  exact ⟨z, us, 0, r, Heap.get?_push_size _ rfl⟩
end

/-! ### what a def promises -/
/-- a def's promise: the bound arguments in the parameters' order, the heap, the wanted end, the wanted exception -/
abbrev Sp := List V → Hp → VK → XK → Prop
/-- how an exception lies behind a call (file 08 gives it): the callers' frames, abstract heap and state ahead of the call, the wish, the exception, the state -/
abbrev CXT := List Env → Hp → Shared → XK → Value → Shared → Prop

/-- the state at a call -/
structure Env0 (P : Program) (w : World) (K : PySem.W.Frag) (mg : Str → Option Value) (base : Heap) (A : Around) (outer : List Env) (s : Shared) (H : Hp) : Prop where
  frames : A.frames = some outer
  mod : Mod K mg base
  bs : ∀ b o, base.get? b = some o → s.heap.get? b = some o ∧ H b = none
  bsz : base.objs.size ≤ s.heap.objs.size
  funs : s.heap.FunFrames base outer
  frf : ∀ b ∈ frs outer, H b = none
  hok : HOk P w H s.heap
  bare : AllBare s.gens
/-- a call's end -/
def CE (outer : List Env) (P : Program) (w : World) (H : Hp) (s : Shared) (Q : VK) (u : Value) (s' : Shared) : Prop :=
  ∃ v H', s'.os = s.os ∧ AllBare s'.gens ∧ Un (frs outer) [] H H' s.heap s'.heap ∧ HOk P w H' s'.heap ∧ RelV v u ∧ Q v H'
def CR (CX : CXT) (outer : List Env) (P : Program) (w : World) (H : Hp) (s : Shared) (Q : VK) (E : XK) (r : Result) (s' : Shared) : Prop :=
  match r with
  | .ok (.ret u) => CE outer P w H s Q u s'
  | .ok _ => False
  | .error e => CX outer H s E e s'
structure FnOk (P : Program) (w : World) (K : PySem.W.Frag) (mg : Str → Option Value) (base : Heap) (CX : CXT) (k : Nat) (f : Addr) (fd : FuncData) (ps : List Str) (sp : Sp) : Prop where
  len : ∀ vs H Q E, sp vs H Q E → vs.length = ps.length
  run : ∀ (A : Around) (outer : List Env) (s : Shared) (H : Hp) (args : Args) (us : List Value) (vs : List V) (Q : VK) (E : XK), Room k A → Env0 P w K mg base A outer s H → BindsTo s fd args (ps.zip us) → Vals vs us → sp vs H Q E →
    codeAny (model P w) A (.call (.ref f) args) (CR CX outer P w H s Q E) s
theorem FnOk.mono {P : Program} {w : World} {K : PySem.W.Frag} {mg : Str → Option Value} {base : Heap} {CX : CXT} {j k : Nat} {f : Addr} {fd : FuncData} {ps : List Str} {sp : Sp} (F : FnOk P w K mg base CX j f fd ps sp) (h : j ≤ k) :
    FnOk P w K mg base CX k f fd ps sp := ⟨F.len, fun A outer s H args us vs Q E hr => F.run A outer s H args us vs Q E (hr.mono h)⟩
/-- a weaker promise -/
theorem FnOk.imp {P : Program} {w : World} {K : PySem.W.Frag} {mg : Str → Option Value} {base : Heap} {CX : CXT} {k : Nat} {f : Addr} {fd : FuncData} {ps : List Str} {sp sp' : Sp} (F : FnOk P w K mg base CX k f fd ps sp)
    (h : ∀ vs H Q E, sp' vs H Q E → sp vs H Q E) : FnOk P w K mg base CX k f fd ps sp' :=
  ⟨fun vs H Q E q => F.len vs H Q E (h _ _ _ _ q), fun A outer s H args us vs Q E hr he hb hv hs => F.run A outer s H args us vs Q E hr he hb hv (h _ _ _ _ hs)⟩

theorem Env0.in1 {P : Program} {w : World} {K : PySem.W.Frag} {mg : Str → Option Value} {base : Heap} {A : Around} {outer : List Env} {s : Shared} {H : Hp} (e : Env0 P w K mg base A outer s H) :
    Env0 P w K mg base A.in1 outer s H := ⟨e.frames, e.mod, e.bs, e.bsz, e.funs, e.frf, e.hok, e.bare⟩

section
variable {X : Cx} {pins : List (Addr × Obj)} {σ : St} {H : Hp} {s s' : Shared}
/-- from a body: what a callee wants -/
theorem Inv.env0 (I : Inv X pins σ H s) : Env0 X.prog X.w X.K X.mg X.base X.A X.stack s H :=
  ⟨I.ok.frames, I.ok.mod, I.bs, Nat.le_trans I.ok.bsz I.sz, I.stack, I.stkFree, I.hok, I.bare⟩
/-- behind a call -/
theorem Inv.after {Q : VK} {u : Value} (I : Inv X pins σ H s) (h : CE X.stack X.prog X.w H s Q u s') : EP X pins σ Q u s' := by
  obtain ⟨v, H', os, bare, un, hok, r, q⟩ := h
  obtain ⟨hh, g, d, t, os'⟩ := s'
  obtain rfl : os' = s.os := os
  exact ⟨v, H', I.call (h' := hh) (g' := g) (d' := d) (t' := t) (ch := []) un hok bare (fun b z => absurd z (by simp)), r, q⟩
end

/-! ### calls -/
/-- f(..): the written arguments, then the defaults dvs; E: what is wanted of an exception -/
def tCall (sp : Sp) (dvs : List V) (E : XK) (t : TA) : TE := fun σ H Q => t σ H fun vs H1 => sp (vs ++ dvs) H1 Q E
/-- o.m(..) of an instance of the class at C -/
def tMeth (C : Addr) (m : Str) (sp : Sp) (dvs : List V) (E : XK) (ta : TE) (t : TA) : TE := fun σ H Q => ta σ H fun x H1 => ∃ a dx fs, x = .ref a ∧ H1 a = some (.ins C dx fs) ∧ fs.lookup m = none ∧
  t σ H1 fun vs H2 => sp (x :: (vs ++ dvs)) H2 Q E
/-- C(..): a new instance and its dict, then __init__ -/
def tMake (C : Addr) (sp : Sp) (dvs : List V) (E : XK) (t : TA) : TE := fun σ H Q => t σ H fun vs H1 => ∀ x dx, H1 x = none → H1 dx = none → dx ≠ x →
  sp (.ref x :: (vs ++ dvs)) (upd (upd H1 dx (.own x)) x (.ins C dx [])) (fun v H2 => v = .non ∧ Q (.ref x) H2) E

/-- how the parameters are bound: us the positional arguments, kw the keywords' values by name, ds the defaults that fill up -/
def Binds (K : PySem.W.Frag) (fd : FuncData) (ps : List Str) (ds : List Value) : Prop :=
  ∀ (s : Shared) (us : List Value), K.In s.heap → (us ++ ds).length = ps.length → BindsTo s fd ⟨us, []⟩ (ps.zip (us ++ ds))
/-- every parameter is given -/
theorem Binds.all {K : PySem.W.Frag} {fd : FuncData} {ps : List Str} (h : ∀ us : List Value, us.length = ps.length → bindArgs fd ⟨us, []⟩ = pure (ps.zip us)) : Binds K fd ps [] := fun s us _ hl => by
  rw [List.append_nil] at hl ⊢
  exact .of_eq (h us hl)

/-- an exception of a callee reaches what this body wants of exceptions -/
def Passes (CX : CXT) (X : Cx) (E : XK) : Prop := ∀ (pins : List (Addr × Obj)) (σ : St) (H : Hp) (s : Shared) (e : Value) (s' : Shared), Inv X pins σ H s → CX X.stack H s E e s' → X.xe e s'

section
variable {X : Cx} {CX : CXT} {k : Nat} {f C : Addr} {fd : FuncData} {ps : List Str} {sp : Sp} {dvs : List V} {ds : List Value} {E : XK} {x m : Str} {p pos apos : Pos} {e o : Expr} {es : List Expr} {ta : TE} {t : TA}

/-- the callee runs -/
theorem run_fn {pins : List (Addr × Obj)} {σ : St} {H : Hp} {s : Shared} {Q : VK} {us : List Value} {vs : List V} (F : FnOk X.prog X.w X.K X.mg X.base CX k f fd ps sp) (hr : Room k X.A) (hb : Binds X.K fd ps ds) (hd : Vals dvs ds) (hx : Passes CX X E)
    (I : Inv X pins σ H s) (r : Vals vs us) (h : sp (vs ++ dvs) H Q E) : wpAny (model X.prog X.w) X.A (call (.ref f) us) (EP X pins σ Q) X.xe s := by
  have r2 : Vals (vs ++ dvs) (us ++ ds) := r.append hd
  have hl : (us ++ ds).length = ps.length := by rw [← r2.length]; exact F.len _ _ _ _ h
  refine wpAny_call (codeAny_mono (F.run X.A X.stack s H ⟨us, []⟩ (us ++ ds) (vs ++ dvs) Q E hr I.env0 (hb s us I.kIn hl) r2 h) fun r s' hq => ?_)
  cases r with
  | error e => exact hx pins σ H s e s' I hq
  | ok fl =>
    cases fl with
    | ret u => exact I.after hq
    | next => exact False.elim hq
    | brk => exact False.elim hq
    | cont => exact False.elim hq

theorem pe_call (F : FnOk X.prog X.w X.K X.mg X.base CX k f fd ps sp) (hr : Room k X.A) (hg : Gl X x) (hm : X.mg x = some (.ref f)) (hk : PySem.W.keepIn X.K (.ref f) = true) (hb : Binds X.K fd ps ds) (hd : Vals dvs ds) (hx : Passes CX X E)
    (ha : PA X (e :: es) t) (hdb : (x == ("__debug__" : Str)) = false := by decide) (he : starEach (e :: es) X.env = (false, eval e X.env) :: starEach es X.env := by rfl) (hpl : (backTo pos (starEach es X.env)).any (·.1) = false := by rfl) :
    PE X (.Call (.Name x p) (e :: es) [] pos) (tCall sp dvs E t) := by
  intro pins s σ H Q I h
  refine wpAny_Call_Name_kw (ld_glob I hg hm ?_ hdb)
  refine PySem.W.callWith_K (h₀ := X.base) I.ok.mod.kin hk (thn (ha pos pins s σ H _ I h) fun us s1 ⟨vs, H1, I1, r, q⟩ => ⟨I1.kIn, ?_⟩) he hpl
  exact run_fn F hr hb hd hx I1 r q
/-- what a class must have to be made -/
structure Mk (K : PySem.W.Frag) (C f : Addr) : Prop where
  makes : PySem.W.makesIn K C = true
  init : PySem.W.findIn K (.ref C) "__init__" = some (some (.ref f))
  fn : PySem.W.isFn K (.ref f) = true
  kp : PySem.W.keepIn K (.ref C) = true

end

/-! ### keywords -/
/-- the values of the keywords, from the left -/
def PK (X : Cx) (kws : List Keyword) (t : TA) : Prop :=
  ∀ (pos : Pos) (pins : List (Addr × Obj)) (s : Shared) (σ : St) (H : Hp) (Q : List V → Hp → Prop), Inv X pins σ H s → t σ H Q → wpAny (model X.prog X.w) X.A (evalAll ((backToKw pos (keywordEach kws X.env)).map (·.2))) (AP X pins σ Q) X.xe s
section
variable {X : Cx} {CX : CXT} {k : Nat} {f C : Addr} {fd : FuncData} {ps ks : List Str} {sp : Sp} {E : XK} {x m : Str} {p pos apos kpos : Pos} {e o : Expr} {es : List Expr} {kws : List Keyword} {te ta : TE} {t tk : TA} {nm : Option Str}
/-- how a call with keywords binds: g puts the positional values us and the keywords' values ws (names ks) in the parameters' order, defaults among them -/
structure KBinds (K : PySem.W.Frag) (fd : FuncData) (ps ks : List Str) (g : List Value → List Value → List Value) (gV : List V → List V → List V) : Prop where
  to : ∀ (s : Shared) (us ws : List Value), K.In s.heap → (g us ws).length = ps.length → BindsTo s fd ⟨us, ks.zip ws⟩ (ps.zip (g us ws))
  rel : ∀ {vs : List V} {us : List Value} {zs : List V} {ws : List Value}, Vals vs us → Vals zs ws → Vals (gV vs zs) (g us ws)
def tCallK (sp : Sp) (gV : List V → List V → List V) (E : XK) (t tk : TA) : TE := fun σ H Q => t σ H fun vs H1 => tk σ H1 fun zs H2 => sp (gV vs zs) H2 Q E
variable {g : List Value → List Value → List Value} {gV : List V → List V → List V}
end

/-! ### a def's body keeps its promise -/
/-- names: the parameters first -/
structure FnScope (N P : List Str) (sc : Scope) : Prop where
  kind : sc.kind = .function
  co : sc.isCoroutine = false
  gen : sc.isGenerator = false
  nd : N.Nodup
  pre : N.take P.length = P
  par : ∀ x ∈ P, sc.names.lookup x = some .local ∨ sc.names.lookup x = some .cell
  nofree : ∀ y ∈ sc.names, y.2 ≠ .free

theorem bindL_out {kindOf : Str → Option NameKind} {x : Str} : ∀ {binds : List (Str × Value)} {m : Str → Option Value}, (∀ v, (x, v) ∉ binds) → bindL kindOf binds m x = m x
  | [], _, _ => rfl
  | (n, v) :: r, m, h => by
    unfold bindL
    rw [bindL_out fun w hw => h w (List.mem_cons_of_mem _ hw)]
    split
    · have : x ≠ n := by rintro rfl; exact h v List.mem_cons_self
      simp [this]
    · rfl
theorem bindC_out {kindOf : Str → Option NameKind} {x : Str} : ∀ {binds : List (Str × Value)} {m : Str → Option Value}, (∀ v, (x, v) ∉ binds) → bindC kindOf binds m x = m x
  | [], _, _ => rfl
  | (n, v) :: r, m, h => by
    unfold bindC
    rw [bindC_out fun w hw => h w (List.mem_cons_of_mem _ hw)]
    split
    · rfl
    · have : x ≠ n := by rintro rfl; exact h v List.mem_cons_self
      simp [this]
theorem bindL_get {kindOf : Str → Option NameKind} {x : Str} {v : Value} : ∀ {P : List Str} {vs : List Value} {i : Nat} {m : Str → Option Value}, P.Nodup → P[i]? = some x → vs[i]? = some v → kindOf x = some .local →
    bindL kindOf (P.zip vs) m x = some v
  | [], _, _, _, _, h, _, _ => by simp at h
  | _ :: _, [], _, _, _, _, h, _ => by simp at h
  | p :: P, w :: vs, 0, m, nd, h1, h2, hk => by
    simp at h1 h2; subst h1; subst h2
    show bindL kindOf ((p, w) :: P.zip vs) m p = _
    unfold bindL
    rw [bindL_out fun v hv => (List.nodup_cons.mp nd).1 (List.of_mem_zip hv).1, if_pos hk]
    simp
  | p :: P, w :: vs, i + 1, m, nd, h1, h2, hk => by
    show bindL kindOf ((p, w) :: P.zip vs) m x = _
    unfold bindL
    exact bindL_get (i := i) (List.nodup_cons.mp nd).2 (by simpa using h1) (by simpa using h2) hk
theorem bindC_get {kindOf : Str → Option NameKind} {x : Str} {v : Value} : ∀ {P : List Str} {vs : List Value} {i : Nat} {m : Str → Option Value}, P.Nodup → P[i]? = some x → vs[i]? = some v → kindOf x ≠ some .local →
    bindC kindOf (P.zip vs) m x = some v
  | [], _, _, _, _, h, _, _ => by simp at h
  | _ :: _, [], _, _, _, _, h, _ => by simp at h
  | p :: P, w :: vs, 0, m, nd, h1, h2, hk => by
    simp at h1 h2; subst h1; subst h2
    show bindC kindOf ((p, w) :: P.zip vs) m p = _
    unfold bindC
    rw [bindC_out fun v hv => (List.nodup_cons.mp nd).1 (List.of_mem_zip hv).1, if_neg hk]
    simp
  | p :: P, w :: vs, i + 1, m, nd, h1, h2, hk => by
    show bindC kindOf ((p, w) :: P.zip vs) m x = _
    unfold bindC
    exact bindC_get (i := i) (List.nodup_cons.mp nd).2 (by simpa using h1) (by simpa using h2) hk

/-- the names' values at the entry -/
def start (N : List Str) (vs : List V) : St := vs.map some ++ List.replicate (N.length - vs.length) none

/-- the context of a def's body, at its entry; an exception leaves the frame, then lies as CX says -/
def cxOf (CX : CXT) (P : Program) (w : World) (K : PySem.W.Frag) (mg : Str → Option Value) (base : Heap) (N : List Str) (qual : Str) (scope : Scope) (f : Addr) (cd : Value) (A : Around) (outer : List Env) (s : Shared) (H : Hp) (E : XK) : Cx where
  prog := P
  w := w
  K := K
  mg := mg
  base := base
  A := A.deeper (envOfC qual scope s.heap.objs.size f cd)
  N := N
  s₀ := s
  H₀ := H
  env := envOfC qual scope s.heap.objs.size f cd
  outer := outer
  stack := envOfC qual scope s.heap.objs.size f cd :: outer
  ex := []
  calm := true
  fn := fun _ => true
  pn := []
  xe := fun e s' => wpAny (model P w) (A.deeper (envOfC qual scope s.heap.objs.size f cd)) (leaving (envOfC qual scope s.heap.objs.size f cd) e) (fun _ s'' => CX outer H s E e s'') (fun e' s'' => CX outer H s E e' s'') s'

theorem cell_has {sc : Scope} {n : Nat} {x : Str} (h : sc.names.lookup x = some .cell) : ∃ c, (cellsFrom n sc.names []).lookup x = some c := by
  have q := PySem.W.cellsFrom_some sc.names n [] (.inl h)
  exact Option.isSome_iff_exists.mp q

theorem inv_start {CX : CXT} {P : Program} {w : World} {K : PySem.W.Frag} {mg : Str → Option Value} {base : Heap} {N ps : List Str} {qual : Str} {scope : Scope} {f : Addr} {cd : Value} {A : Around} {outer : List Env} {s s1 : Shared} {H : Hp} {E : XK} {us : List Value} {vs : List V}
    (S : FnScope N ps scope) (hd : A.handled = none) (e0 : Env0 P w K mg base A outer s H) (hl : vs.length = ps.length) (r : Vals vs us)
    (x : InCallC s s.heap.objs.size (bindL (envOfC qual scope s.heap.objs.size f cd).kindOf (ps.zip us) fun _ => none) (cellsFrom (s.heap.objs.size + 1) scope.names []) (bindC (envOfC qual scope s.heap.objs.size f cd).kindOf (ps.zip us) fun _ => none) s1) :
    Inv (cxOf CX P w K mg base N qual scope f cd A outer s H E) [] (start N vs) H s1 := by
  have hpl : ps.length ≤ N.length := by have := congrArg List.length S.pre; rw [List.length_take] at this; omega
  obtain ⟨h1, tk, rfl, hk⟩ := x.done
  have noA : ∀ b : Addr, b ∉ (cxOf CX P w K mg base N qual scope f cd A outer s H E).ex := fun b z => absurd (show b ∈ ([] : List Addr) from z) (by simp)
  refine ⟨⟨e0.mod, S.kind, rfl, rfl, Nat.le_refl _, fun y z c h1 h2 => ?_, fun y hy => ?_, fun y c _ h => ?_, fun _ => hd, Around.frames_deeper e0.frames, .inr ⟨rfl, rfl⟩, fun b z => absurd z (noA b), e0.bs, e0.bsz, fun b _ _ => noA b, fun b z => absurd z (noA b), e0.funs, e0.frf⟩,
    rfl, e0.bare, Un.kept hk, ⟨_, x.toInCall.ns, fun i y v h1 h2 h3 => ?_⟩, fun y c h => ⟨_, x.cell y c h⟩, e0.hok.fresh (Nat.le_refl _), fun y c h => ?_, fun p hp => absurd (show p ∈ ([] : List (Addr × Obj)) from hp) (by simp), e0.hok.kept hk, ?_⟩
  · exact name_of_addr x.apart (PySem.mem_of_lookup h1) (PySem.mem_of_lookup h2)
  · have hy : scope.names.lookup y = some .cell ∨ scope.names.lookup y = some .free := hy
    rcases hy with hy | hy
    · exact cell_has hy
    · exact absurd rfl (S.nofree _ (PySem.mem_of_lookup hy))
  · exact Nat.le_of_lt (x.above y c (PySem.mem_of_lookup h))
  · have hi : i < vs.length := by
      unfold start at h2
      by_cases hi : i < vs.length
      · exact hi
      · rw [List.getElem?_append_right (by simpa using hi)] at h2
        rw [List.getElem?_replicate] at h2
        split at h2 <;> cases h2
    have ha : vs[i]? = some v := by
      unfold start at h2
      rw [List.getElem?_append_left (by simpa using hi), List.getElem?_map] at h2
      cases e : vs[i]? with
      | none => rw [e] at h2; cases h2
      | some a => rw [e] at h2; cases h2; rfl
    obtain ⟨u, hu, rv⟩ := r.get ha
    have hp : ps[i]? = some y := by
      rw [← S.pre, List.getElem?_take_of_lt (by omega)]; exact h1
    have ndP : ps.Nodup := by rw [← S.pre]; exact S.nd.sublist (List.take_sublist _ _)
    refine ⟨u, rv, ?_⟩
    rcases S.par y (List.mem_of_getElem? hp) with k | k
    · exact .inl ⟨k, bindL_get ndP hp hu k⟩
    · obtain ⟨c, e⟩ := cell_has (n := s.heap.objs.size + 1) k
      refine .inr ⟨.inl k, c, e, ?_⟩
      have q := x.cell y c e
      rw [bindC_get ndP hp hu (by show scope.names.lookup y ≠ _; rw [k]; decide)] at q
      exact q
  · exact e0.hok.fresh (Nat.le_of_lt (x.above y c (PySem.mem_of_lookup h)))
  · unfold start
    show _ = N.length
    rw [List.length_append, List.length_map, List.length_replicate]
    omega

/-- THE RULE: a def (or a method) of the text, by its body. The body's reading t is chosen for each entry; it is run at the parameters' values -/
theorem fn_of {CX : CXT} {P : Program} {w : World} {K : PySem.W.Frag} {mg : Str → Option Value} {base : Heap} {k : Nat} {f : Addr} {name qual : Str} {params : Arguments} {body : List Stmt} {scope : Scope} {dV kV doc pm cdv ct oc : Value} {an od : Option Addr}
    {osl : Array (Option Value)} {N ps : List Str} {sp : Sp} (lk : K.lookup f = some ⟨oc, od, .func (PySem.W.fnOf name qual params body scope dV kV doc pm an cdv ct), osl⟩) (hcd : PySem.W.codeIn K cdv qual = true) (S : FnScope N ps scope)
    (len : ∀ vs H Q E, sp vs H Q E → vs.length = ps.length)
    (hbody : ∀ (A : Around) (outer : List Env) (s : Shared) (H : Hp) (vs : List V) (Q : VK) (E : XK), Room k (A.deeper (envOfC qual scope s.heap.objs.size f cdv)) → sp vs H Q E →
      ∃ t, PSs (cxOf CX P w K mg base N qual scope f cdv A outer s H E) body t ∧ t { nx := fun _ H' => Q .non H', rt := Q } (start N vs) H) :
    FnOk P w K mg base CX (k + 1) f (PySem.W.fnOf name qual params body scope dV kV doc pm an cdv ct) ps sp := by
  refine ⟨len, fun A outer s H args us vs Q E hr e0 hb r hsp => ?_⟩
  have hl := len _ _ _ _ hsp
  have KX : K.In s.heap := e0.mod.kin.keeps fun b o e => (e0.bs b o e).1
  have lim : s.heap.NoLimit := e0.mod.nolimit.keeps fun b o e => (e0.bs b o e).1
  have hkind : ∀ y ∈ ps.zip us, scope.names.lookup y.1 = some .local ∨ (scope.names.lookup y.1 = some .cell ∧ ((cellsFrom (s.heap.objs.size + 1) scope.names []).lookup y.1).isSome = true) := fun ⟨n, v⟩ hy => by
    rcases S.par n (List.of_mem_zip hy).1 with q | q
    · exact .inl q
    · exact .inr ⟨q, PySem.W.cellsFrom_some _ _ _ (.inl q)⟩
  refine codeAny_call_function hr.depth (KX _ _ lk) rfl S.co S.gen rfl (PySem.W.codeRec_of KX hcd) (hb _ _ _ _ ?_)
  refine wpAny_newFunctionEnv_cells S.kind hkind fun env he s1 x => ?_
  subst he
  refine ⟨lim.keeps x.toInCall.keep, codeAny_func ?_⟩
  obtain ⟨t, ht, hq⟩ := hbody A outer s H vs Q E (hr.deeper _) hsp
  have I : Inv (cxOf CX P w K mg base N qual scope f cdv A outer s H E) [] (start N vs) H s1 := inv_start S hr.hd e0 hl r x
  refine wpAny_mono (ht [] s1 (start N vs) H _ I hq) (fun fl s' hs => ?_) fun e s' hs => hs
  have fin : ∀ {σ' : St} {H' : Hp} {v : V} {u : Value}, Inv (cxOf CX P w K mg base N qual scope f cdv A outer s H E) [] σ' H' s' → RelV v u → Q v H' → CE outer P w H s Q u s' :=
    fun {σ' H' v u} J rv q => ⟨v, H', J.os, J.bare, J.base, J.hok, rv, q⟩
  cases fl with
  | ret u =>
    obtain ⟨v, σ', H', J, rv, q⟩ := hs
    exact fin J rv q
  | next =>
    obtain ⟨σ', H', J, q⟩ := hs
    exact fin (v := V.non) (u := Value.none) J rfl q
  | brk =>
    obtain ⟨_, _, _, q⟩ := hs
    exact False.elim q
  | cont =>
    obtain ⟨_, _, _, q⟩ := hs
    exact False.elim q
end L2

namespace L2
open PySem PySem.Spec PyProof.Rows
section
variable {X : Cx} {x : Str} {p pos : Pos} {e : Expr} {es : List Expr} {t : TA} {id T : String} {r : List V → Hp → VK → Prop}

def tCB (r : List V → Hp → VK → Prop) (t : TA) : TE := fun σ H Q => t σ H fun vs H1 => r vs H1 Q
/-- f(e, ..), f a built-in function -/
theorem pe_callB (hc : CallR X (.builtin id) r) (hg : Gl X x) (hm : X.mg x = none) (hv : bootBuiltins x = some (.builtin id)) (ha : PA X (e :: es) t) (hn : x ≠ "__name__" := by decide) (hdb : (x == ("__debug__" : Str)) = false := by decide)
    (he : starEach (e :: es) X.env = (false, eval e X.env) :: starEach es X.env := by rfl) (hpl : (backTo pos (starEach es X.env)).any (·.1) = false := by rfl) : PE X (.Call (.Name x p) (e :: es) [] pos) (tCB r t) := by
  intro pins s σ H Q I h
  refine wpAny_Call_Name_kw (ld_blt I hg hm hv ?_ hn hdb)
  exact PyProof.Rows.callWith_builtin1 (thn (ha pos pins s σ H _ I h) fun us s1 ⟨vs, H1, I1, r1, q1⟩ => hc pins s1 σ H1 vs us Q I1 r1 q1) he hpl
/-- T(e, ..), T a built-in type -/
theorem pe_callTy (hc : CallR X (.type T) r) (hg : Gl X x) (hm : X.mg x = none) (hv : bootBuiltins x = some (.type T)) (ha : PA X (e :: es) t) (hn : x ≠ "__name__" := by decide) (hdb : (x == ("__debug__" : Str)) = false := by decide)
    (he : starEach (e :: es) X.env = (false, eval e X.env) :: starEach es X.env := by rfl) (hpl : (backTo pos (starEach es X.env)).any (·.1) = false := by rfl) : PE X (.Call (.Name x p) (e :: es) [] pos) (tCB r t) := by
  intro pins s σ H Q I h
  refine wpAny_Call_Name_kw (ld_blt I hg hm hv ?_ hn hdb)
  exact PyProof.Rows.callWith_type1 (thn (ha pos pins s σ H _ I h) fun us s1 ⟨vs, H1, I1, r1, q1⟩ => hc pins s1 σ H1 vs us Q I1 r1 q1) he hpl
end
end L2

namespace HT
open PySem PyProof.Rows

/-- t < u of tuples of ints -/
def lexLt : List Int → List Int → Bool
  | [], [] => false
  | [], _ :: _ => true
  | _ :: _, [] => false
  | x :: xs, y :: ys => if x = y then lexLt xs ys else decide (x < y)
section
open PySem.SeqAt
open PySem.AutoSeq1 (wpAny_loadPart')
open PySem.MeetsSeq PySem.MeetsSeq2 PySem.MeetsSeq3

end

section
variable {prog : Program} {w : World} {A : Around} {E : Value → Shared → Prop} {s : Shared}

/-! ### t[a:b], not the whole -/
/-- a slice's bound as a place among n (d where it is left out) -/
def sIx (n d : Nat) : Option Int → Nat
  | none => d
  | some v => if v < 0 then (v + (n : Int)).toNat else min v.toNat n
end
end HT

namespace L2
open PySem PySem.Spec PyProof.Rows

/-! ### the parts of a slice -/
abbrev TO := St → Hp → (Option Int → Hp → Prop) → Prop
/-- a slice's part (left out, or an int) -/
def PO (X : Cx) (e : Option Expr) (t : TO) : Prop :=
  ∀ (pins : List (Addr × Obj)) (s : Shared) (σ : St) (H : Hp) (Q : Option Int → Hp → Prop), Inv X pins σ H s → t σ H Q →
    wpAny (model X.prog X.w) X.A (evalPart e X.env) (fun u s' => ∃ o H', Inv X pins σ H' s' ∧ IsPart u o ∧ Q o H') X.xe s
def tNoPart : TO := fun _ H Q => Q none H
def tPart (t : TE) : TO := fun σ H Q => t σ H fun x H1 => ∃ i, x = .int i ∧ Q (some i) H1

theorem intsAre_of {ns : List Int} : ∀ {us : List Value}, Vals (ns.map V.int) us → IntsAre us ns := by
  induction ns with
  | nil => intro us r; rw [List.map_nil] at r; cases r; exact .nil
  | cons n ns ih =>
    intro us r
    rw [List.map_cons] at r
    cases r with
    | cons r1 r2 =>
      obtain ⟨t, e⟩ := r1
      subst e
      exact .cons n t (ih r2)

section
variable {X : Cx} {e : Expr} {te : TE} {lo hi : Option Expr} {tl th : TO} {pos p2 : Pos}

theorem po_none : PO X none tNoPart := by
  intro pins s σ H Q I h
  rw [evalPart_none]
  exact wpAny_pure ⟨none, H, I, .none, h⟩
theorem po_some (h : PE X e te) : PO X (some e) (tPart te) := by
  intro pins s σ H Q I hw
  rw [evalPart_some]
  refine thn (h pins s σ H _ I hw) fun u s1 ⟨x, H1, I1, r1, q1⟩ => ?_
  obtain ⟨i, rfl, q⟩ := q1
  obtain ⟨t, rfl⟩ := r1
  exact ⟨some i, H1, I1, .int i t, q⟩

/-- what a slice of a value is, by values: the slice object stands at sl -/
def SlR (X : Cx) (r : V → Option Int → Option Int → Hp → VK → Prop) : Prop :=
  ∀ (pins : List (Addr × Obj)) (s : Shared) (σ : St) (H : Hp) (x : V) (v vl vu : Value) (lo hi : Option Int) (sl : Addr) (Q : VK), Inv X pins σ H s → RelV x v → s.heap.IsSliceOf sl vl vu .none → IsPart vl lo → IsPart vu hi → r x lo hi H Q →
    ∃ T id, typeLookup (.type T) "__getitem__" = pure (some (.builtin id)) ∧ s.TypeIs v T ∧ wpAny (model X.prog X.w) X.A (getItem v (.ref sl)) (EP X pins σ Q) X.xe s
theorem SlR.or {r r' : V → Option Int → Option Int → Hp → VK → Prop} (h : SlR X r) (h' : SlR X r') : SlR X (fun x lo hi H Q => r x lo hi H Q ∨ r' x lo hi H Q) := by
  intro pins s σ H x v vl vu lo hi sl Q I rx hs pl pu q
  rcases q with q | q
  · exact h pins s σ H x v vl vu lo hi sl Q I rx hs pl pu q
  · exact h' pins s σ H x v vl vu lo hi sl Q I rx hs pl pu q
def tSl (r : V → Option Int → Option Int → Hp → VK → Prop) (te : TE) (tl th : TO) : TE := fun σ H Q => te σ H fun x H1 => tl σ H1 fun l H2 => th σ H2 fun u H3 => r x l u H3 Q
/-- a[lo:hi], any a -/
theorem pe_slice {r : V → Option Int → Option Int → Hp → VK → Prop} (hr : SlR X r) (he : PE X e te) (hl : PO X lo tl) (hu : PO X hi th) : PE X (.Subscript e (.Slice lo hi none p2) pos) (tSl r te tl th) := by
  intro pins s σ H Q I h
  refine Subscript_ (thn (he pins s σ H _ I h) fun v s1 ⟨x, H1, I1, r1, q1⟩ => ?_)
  refine wpAny_Slice (thn (hl pins s1 σ H1 _ I1 q1) fun vl s2 ⟨l, H2, I2, pl, q2⟩ => thn (hu pins s2 σ H2 _ I2 q2) fun vu s3 ⟨u, H3, I3, pu, q3⟩ => ?_)
  rw [evalPart_none]
  refine wpAny_pure ?_
  have I4 : Inv X pins σ H3 { s3 with heap := s3.heap.push { cls := .type "slice", data := .fields #[vl, vu, .none] } } := I3.kept (t' := s3.toks) fun b ob q => Heap.get?_push_of_some _ q
  obtain ⟨T, id, hT, ht, hg⟩ := hr pins { s3 with heap := s3.heap.push { cls := .type "slice", data := .fields #[vl, vu, .none] } } σ H3 x v vl vu l u s3.heap.objs.size Q I4 r1 (Heap.IsSliceOf.new ..) pl pu q3
  show wpAny (model X.prog X.w) X.A (subscriptTail e (.Slice lo hi none p2) v (.ref s3.heap.objs.size)) (EP X pins σ Q) X.xe { s3 with heap := s3.heap.push { cls := .type "slice", data := .fields #[vl, vu, .none] } }
  exact tail_any (ops := [.ref s3.heap.objs.size, v]) ht hT hg (by with_unfolding_all rfl)

/-- the items of xs[lo:hi] -/
def cutV (xs : List V) (lo hi : Option Int) : List V := (xs.drop (HT.sIx xs.length 0 lo)).take (HT.sIx xs.length xs.length hi - HT.sIx xs.length 0 lo)
theorem cutV_length (xs : List V) (lo hi : Option Int) : (cutV xs lo hi).length ≤ xs.length := by
  unfold cutV
  rw [List.length_take, List.length_drop]
  omega
/-- t[lo:hi], not the whole of it (the whole would be t itself) -/
def rSlT (K : PySem.W.Frag) : V → Option Int → Option Int → Hp → VK → Prop := fun x lo hi H Q => ∃ a xs, x = .ref a ∧ SqT K H a xs ∧
  ¬ (HT.sIx xs.length 0 lo = 0 ∧ HT.sIx xs.length xs.length hi = xs.length) ∧ ∀ p, H p = none → Q (.ref p) (upd H p (.tup (cutV xs lo hi)))
/-! ### t < u, t + u -/
def rLtT (K : PySem.W.Frag) : R2 := fun x y H Q => ∃ a b ns ms, x = .ref a ∧ y = .ref b ∧ SqT K H a (ns.map V.int) ∧ SqT K H b (ms.map V.int) ∧ Q (.bl (HT.lexLt ns ms)) H
/-- t + u, t not empty: u empty gives t itself -/
def rCatT (K : PySem.W.Frag) : R2 := fun x y H Q => ∃ a b xs ys, x = .ref a ∧ y = .ref b ∧ SqT K H a xs ∧ SqT K H b ys ∧ xs ≠ [] ∧ xs.length + ys.length ≤ sizeLine ∧
  (ys = [] → Q (.ref a) H) ∧ (ys ≠ [] → ∀ p, H p = none → Q (.ref p) (upd H p (.tup (xs ++ ys))))
end
end L2

namespace L2
open PySem PySem.Spec PyProof.Rows

/-! ### places -/
/-- the place that an index of any sign means -/
def ixN (n : Nat) (i : Int) : Option Nat := if 0 ≤ i then (if i < n then some i.toNat else none) else if -(n : Int) ≤ i then some (i + n).toNat else none
def atI {α : Type} (xs : List α) (i : Int) : Option α := (ixN xs.length i).bind fun j => xs[j]?
theorem ixN_seq {n : Nat} {i : Int} {j : Nat} (h : ixN n i = some j) : seqIndex? i n = some j ∧ j < n ∧ -(n : Int) ≤ i ∧ i < n := by
  unfold ixN at h
  by_cases h0 : 0 ≤ i
  · rw [if_pos h0] at h
    by_cases h1 : i < n
    · rw [if_pos h1] at h
      have e : i.toNat = j := Option.some.inj h
      exact ⟨by rw [seqIndex_of h0 h1, e], by omega, by omega, h1⟩
    · rw [if_neg h1] at h; cases h
  · rw [if_neg h0] at h
    by_cases h1 : -(n : Int) ≤ i
    · rw [if_pos h1] at h
      have e : (i + n).toNat = j := Option.some.inj h
      exact ⟨by rw [seqIndex_neg (by omega) h1, e], by omega, h1, by omega⟩
    · rw [if_neg h1] at h; cases h
theorem atI_get {α : Type} {xs : List α} {i : Int} {v : α} (h : atI xs i = some v) : ∃ j, seqIndex? i xs.length = some j ∧ xs[j]? = some v ∧ j < xs.length ∧ -(xs.length : Int) ≤ i ∧ i < xs.length := by
  unfold atI at h
  cases e : ixN xs.length i with
  | none => rw [e] at h; cases h
  | some j =>
    rw [e] at h
    obtain ⟨h1, h2, h3, h4⟩ := ixN_seq e
    exact ⟨j, h1, h, h2, h3, h4⟩
theorem atI_nat {α : Type} {xs : List α} {j : Nat} {v : α} (h : xs[j]? = some v) : atI xs (j : Int) = some v := by
  have hj : j < xs.length := (List.getElem?_eq_some_iff.mp h).1
  have e : ixN xs.length (j : Int) = some j := by
    unfold ixN
    rw [if_pos (by omega), if_pos (by omega)]; simp
  unfold atI; rw [e]; exact h
theorem atI_last {α : Type} (xs : List α) (v : α) : atI (xs ++ [v]) (-1) = some v := by
  have hl : (xs ++ [v]).length = xs.length + 1 := by simp
  have e : ixN (xs ++ [v]).length (-1) = some xs.length := by
    unfold ixN
    rw [hl, if_neg (by decide), if_pos (by omega)]
    congr 1
    omega
  unfold atI
  rw [e]
  show (xs ++ [v])[xs.length]? = some v
  simp

/-! ### what may be subscripted -/
/-- what stands as an index of a plain subscript -/
def PlainIx (b : Expr) : Prop := ∀ o i, subscripted b false o i = operate [o, i] (getItem o i)
/-- a subscript by values -/
def IxR (X : Cx) (r : R2) : Prop :=
  ∀ (value slice : Expr) (pins : List (Addr × Obj)) (s : Shared) (σ : St) (H : Hp) (x y : V) (v u : Value) (Q : VK), Inv X pins σ H s → RelV x v → RelV y u → r x y H Q →
    subscripted slice false v u = operate [v, u] (getItem v u) → wpAny (model X.prog X.w) X.A (subscriptTail value slice v u) (EP X pins σ Q) X.xe s
/-- a call of a builtin's method by values: the receiver, the arguments -/
def MtR (X : Cx) (id : String) (r : V → List V → Hp → VK → Prop) : Prop :=
  ∀ (pins : List (Addr × Obj)) (s : Shared) (σ : St) (H : Hp) (x : V) (xs : List V) (v : Value) (us : List Value) (Q : VK), Inv X pins σ H s → RelV x v → Vals xs us → r x xs H Q →
    wpAny (model X.prog X.w) X.A (call (.builtin id) (v :: us)) (EP X pins σ Q) X.xe s
section
variable {X : Cx} {a b : Expr} {ta tb : TE} {pos : Pos}
theorem IxR.or {r r' : R2} (h : IxR X r) (h' : IxR X r') : IxR X (fun x y H Q => r x y H Q ∨ r' x y H Q) := by
  intro value slice pins s σ H x y v u Q I rx ry q hs
  rcases q with q | q
  · exact h value slice pins s σ H x y v u Q I rx ry q hs
  · exact h' value slice pins s σ H x y v u Q I rx ry q hs
theorem MtR.or {id : String} {r r' : V → List V → Hp → VK → Prop} (h : MtR X id r) (h' : MtR X id r') : MtR X id (fun x xs H Q => r x xs H Q ∨ r' x xs H Q) := by
  intro pins s σ H x xs v us Q I rx rs q
  rcases q with q | q
  · exact h pins s σ H x xs v us Q I rx rs q
  · exact h' pins s σ H x xs v us Q I rx rs q
/-- a[b] -/
theorem pe_ix {r : R2} (hr : IxR X r) (ha : PE X a ta) (hb : PE X b tb) (hs : PlainIx b) : PE X (.Subscript a b pos) (tOp r ta tb) := by
  intro pins s σ H Q I h
  exact Subscript_ (binT ha hb I h fun v u s2 x y H2 I2 rx ry q => hr a b pins s2 σ H2 x y v u Q I2 rx ry q (hs _ _))

def rIxL (K : PySem.W.Frag) : R2 := fun x y H Q => ∃ p xs i v, x = .ref p ∧ y = .int i ∧ SqL K H p xs ∧ atI xs i = some v ∧ Q v H
def rIxT (K : PySem.W.Frag) : R2 := fun x y H Q => ∃ p xs i v, x = .ref p ∧ y = .int i ∧ SqT K H p xs ∧ atI xs i = some v ∧ Q v H
def rIxS : R2 := fun x y H Q => ∃ z i c, x = .str z ∧ y = .int i ∧ z.length ≤ sizeLine ∧ atI z.cps.toList i = some c ∧ Q (.str ⟨#[c]⟩) H
theorem ix_list : IxR X (rIxL X.K) := by
  intro value slice pins s σ H x y v u Q I rx ry h hs
  obtain ⟨p, xs, i, z, rfl, rfl, hq, he, q⟩ := h
  cases rx
  obtain ⟨t, rfl⟩ := ry
  obtain ⟨its, r, pl, hz⟩ := I.list hq
  obtain ⟨j, h1, h2, h3, h4, h5⟩ := atI_get he
  obtain ⟨w, ew, rw'⟩ := r.get h2
  have hl := r.length
  have hn := line63
  have fin : EP X pins σ Q w s := ⟨z, H, I, rw', q⟩
  by_cases h0 : 0 ≤ i
  · have hj : i.toNat = j := by
      rw [seqIndex_of h0 h5] at h1
      exact Option.some.inj h1
    exact item_listR pl.isList h0 (by omega) (by rw [hj]; simpa using ew) fin hs
  · have hj : (i + (its.toArray.size : Int)).toNat = j := by
      rw [seqIndex_neg (by omega) h4] at h1
      rw [List.size_toArray, ← hl]
      exact Option.some.inj h1
    exact subscriptTail_builtinR (x := w) pl.isList.typeIs slot_list_getitem.lookup
      (wpAny_getItem_list_neg (Q := fun r s' => r = w ∧ EP X pins σ Q r s') pl.isList (by omega) (by rw [List.size_toArray] <;> omega) (by omega) (by rw [hj]; simpa using ew) ⟨rfl, fin⟩) hs
theorem ix_tup : IxR X (rIxT X.K) := by
  intro value slice pins s σ H x y v u Q I rx ry h hs
  obtain ⟨p, xs, i, z, rfl, rfl, hq, he, q⟩ := h
  cases rx
  obtain ⟨t, rfl⟩ := ry
  obtain ⟨its, r, pl, hz⟩ := I.tuple hq
  obtain ⟨j, h1, h2, h3, h4, h5⟩ := atI_get he
  obtain ⟨w, ew, rw'⟩ := r.get h2
  have hl := r.length
  have hn := line63
  have fin : EP X pins σ Q w s := ⟨z, H, I, rw', q⟩
  exact subscriptTail_builtinR (x := w) pl.typeIs slot_tuple_getitem.lookup
    (getItem_tuple (j := j) (Q := fun r s' => r = w ∧ EP X pins σ Q r s') pl (by omega) (by omega) (by rw [List.size_toArray, ← hl]; exact h1) (by simpa using ew) ⟨rfl, fin⟩) hs
/-- list, tuple or str -/
def rIx (K : PySem.W.Frag) : R2 := fun x y H Q => rIxL K x y H Q ∨ rIxT K x y H Q ∨ rIxS x y H Q
/-! ### xs[i] = v, any sign -/
/-- the list's object behind a store -/
theorem mapSeq_set (its : List Value) (n j : Nat) (u : Value) : Obj.mapSeq (·.setIfInBounds j u) { cls := .type "list", data := .seq its.toArray n } = { cls := .type "list", data := .seq (its.set j u).toArray n } := by
  simp [Obj.mapSeq]
theorem Inv.lst {pins : List (Addr × Obj)} {σ : St} {H : Hp} {s : Shared} {p : Addr} {xs : List V} (I : Inv X pins σ H s) (h : H p = some (.lst xs)) :
    ∃ (its : List Value) (n : Nat), Vals xs its ∧ s.heap.get? p = some { cls := .type "list", data := .seq its.toArray n } ∧ xs.length ≤ sizeLine := by
  obtain ⟨z, its, n, r, e⟩ := I.hok p _ h
  exact ⟨its, n, r, e, z⟩
/-- the list at p is written by an update of its object -/
theorem Inv.lstUpd {pins : List (Addr × Obj)} {σ : St} {H : Hp} {s : Shared} {p : Addr} {xs ys : List V} {its its' : List Value} {n n' : Nat} {f : Obj → Obj} (I : Inv X pins σ H s) (h : H p = some (.lst xs))
    (ho : s.heap.get? p = some { cls := .type "list", data := .seq its.toArray n }) (hf : f { cls := .type "list", data := .seq its.toArray n } = { cls := .type "list", data := .seq its'.toArray n' }) (r : Vals ys its') (hz : ys.length ≤ sizeLine) (t : Nat) :
    Inv X pins σ (upd H p (.lst ys)) { s with heap := s.heap.update p f, toks := t } := by
  have e : (s.heap.update p f).get? p = some { cls := .type "list", data := .seq its'.toArray n' } := by
    rw [Heap.get?_update_self f ho (by rw [hf] <;> rfl), hf]
  refine I.write (x := p) (e := p) (by rw [h]; trivial) (.inl rfl) (fun b u hb q => (Heap.get?_update_other _ _ (Ne.symm hb)).trans q) ⟨_, e⟩ ?_
  exact ⟨hz, its', n', r, e⟩
def rSetL : V → V → V → Hp → (Hp → Prop) → Prop := fun o i v H Q => ∃ p xs k j, o = .ref p ∧ i = .int k ∧ H p = some (.lst xs) ∧ ixN xs.length k = some j ∧ Q (upd H p (.lst (xs.set j v)))
theorem set_list : PSet X rSetL := by
  intro pins s σ H o i v ov iv u Q I ro ri rv h
  obtain ⟨p, xs, k, j, rfl, rfl, hp, hj, q⟩ := h
  cases ro
  obtain ⟨t, rfl⟩ := ri
  obtain ⟨its, n, r, ho, hz⟩ := I.lst hp
  obtain ⟨h1, h2, h3, h4⟩ := ixN_seq hj
  have hl := r.length
  have hn := line63
  have I' : Inv X pins σ (upd H p (.lst (xs.set j v))) { s with heap := s.heap.update p (Obj.mapSeq (·.setIfInBounds j u)) } :=
    I.lstUpd hp ho (mapSeq_set its n j u) (r.set rv j) (by rw [List.length_set]; exact hz) s.toks
  by_cases h0 : 0 ≤ k
  · have hk : k.toNat = j := by
      rw [seqIndex_of h0 h4] at h1
      exact Option.some.inj h1
    exact PySem.W.ki_setAt ho h0 (by omega) (by rw [List.size_toArray, ← hl]; exact h4) (by rw [hk]; exact ⟨_, I', q⟩)
  · have hk : (k + (its.toArray.size : Int)).toNat = j := by
      rw [seqIndex_neg (by omega) h3] at h1
      rw [List.size_toArray, ← hl]
      exact Option.some.inj h1
    exact PySem.W.ki_setBack ho (by omega) (by rw [List.size_toArray, ← hl]; exact h3) (by omega) (by rw [hk]; exact ⟨_, I', q⟩)

/-! ### slices -/
theorem slice_bounds (lo hi : Option Int) (n : Nat) : (sliceBounds lo hi none n).1 = ((HT.sIx n 0 lo : Nat) : Int) ∧ (sliceBounds lo hi none n).2.1 = ((HT.sIx n n hi : Nat) : Int) ∧ (sliceBounds lo hi none n).2.2 = 1 := by
  refine ⟨?_, ?_, rfl⟩
  · cases lo with
    | none => simp [sliceBounds, HT.sIx]
    | some i =>
      simp only [sliceBounds, HT.sIx, Option.getD_none, show (1 : Int) > 0 by decide, if_true]
      by_cases h : i < 0
      · simp only [h, if_true] <;> omega
      · simp only [h, if_false] <;> omega
  · cases hi with
    | none => simp [sliceBounds, HT.sIx]
    | some i =>
      simp only [sliceBounds, HT.sIx, Option.getD_none, show (1 : Int) > 0 by decide, if_true]
      by_cases h : i < 0
      · simp only [h, if_true] <;> omega
      · simp only [h, if_false] <;> omega
theorem slicePick_cut (its : List Value) (lo hi : Option Int) : slicePick its.toArray lo hi none = ((its.drop (HT.sIx its.length 0 lo)).take (HT.sIx its.length its.length hi - HT.sIx its.length 0 lo)).toArray := by
  obtain ⟨h1, h2, h3⟩ := slice_bounds lo hi its.toArray.size
  unfold slicePick
  rw [h1, h2, h3]
  simp only [sliceRange_one, pick_run, List.size_toArray] <;> rfl
/-- xs[lo:hi] of a list: a new list -/
def rSlL (K : PySem.W.Frag) : V → Option Int → Option Int → Hp → VK → Prop := fun x lo hi H Q => ∃ a xs, x = .ref a ∧ SqL K H a xs ∧ ∀ p, H p = none → Q (.ref p) (upd H p (.lst (cutV xs lo hi)))
theorem sl_list : SlR X (rSlL X.K) := by
  intro pins s σ H x v vl vu lo hi sl Q I rx hs pl pu h
  obtain ⟨a, xs, rfl, hx, q⟩ := h
  cases rx
  obtain ⟨its, r, ht, hz⟩ := I.list hx
  have hlen := r.length
  refine ⟨"list", _, slot_list_getitem.lookup, ht.isList.typeIs, ?_⟩
  refine wpAny_getItem_list_slice ht.isList hs pl pu .none (by simp) ?_ (by rw [List.size_toArray] <;> omega)
  rw [slicePick_cut, ← hlen]
  refine ⟨.ref s.heap.objs.size, _, I.laid (t' := s.toks) (o := .lst (cutV xs lo hi)) (fun b ob q => Heap.get?_push_of_some _ q) (Nat.le_refl _) ?_, rfl, q _ (I.hok.fresh (Nat.le_refl _))⟩
  exact ⟨Nat.le_trans (cutV_length xs lo hi) hz, _, 0, (r.drop (HT.sIx xs.length 0 lo)).take (HT.sIx xs.length xs.length hi - HT.sIx xs.length 0 lo), Heap.get?_push_size _ rfl⟩

/-! ### in, not in: flat items -/
def flatV : V → Bool
  | .non => true
  | .bl _ => true
  | .int _ => true
  | .str _ => true
  | _ => false
/-- == of flat values -/
def eqV : V → V → Bool
  | .non, .non => true
  | .bl a, .bl b => a == b
  | .bl a, .int b => (if a then 1 else 0) == b
  | .int a, .bl b => a == (if b then 1 else 0)
  | .int a, .int b => a == b
  | .str a, .str b => a == b
  | _, _ => false
/-- the items' answers, read off the values (a value's own answer does not lean on its token) -/
def eqU (x : V) (u : Value) : Bool := match u with
  | .none => eqV .non x
  | .bool b => eqV (.bl b) x
  | .int i _ => eqV (.int i) x
  | .str z _ => eqV (.str z) x
  | _ => false
def inV (x : V) (xs : List V) : Bool := xs.any fun y => eqV y x
/-- x in a list or tuple of flat items -/
def rIn (K : PySem.W.Frag) (neg : Bool) : R2 := fun x y H Q => ∃ p xs, y = .ref p ∧ (SqL K H p xs ∨ SqT K H p xs) ∧ flatV x = true ∧ xs.all flatV = true ∧ Q (.bl (if neg then !inV x xs else inV x xs)) H
/-! ### len, list(x), tuple(x) of any list or tuple that is read -/
theorem call_len_seq : CallR X (.builtin "len") (fun xs H Q => ∃ p ys, xs = [.ref p] ∧ (SqL X.K H p ys ∨ SqT X.K H p ys) ∧ Q (.int ys.length) H) := by
  intro pins s σ H xs us Q I r h
  obtain ⟨p, ys, rfl, hq, q⟩ := h
  obtain ⟨u, rfl, rx⟩ := vals1 r
  cases rx
  have hn := line63
  rcases hq with hq | hq
  · obtain ⟨its, r', pl, hz⟩ := I.list hq
    have hlen := r'.length
    exact Calls.call_len_list pl.isList (by simp only [List.size_toArray] <;> omega) ⟨.int ys.length, H, I.tok _, ⟨s.toks + 1, by rw [List.size_toArray, hlen]⟩, q⟩
  · obtain ⟨its, r', pl, hz⟩ := I.tuple hq
    have hlen := r'.length
    exact len_tuple pl (by simp only [List.size_toArray] <;> omega) ⟨.int ys.length, H, I.tok _, ⟨s.toks + 1, by rw [List.size_toArray, hlen]⟩, q⟩
theorem CallR.or {f : Value} {r r' : List V → Hp → VK → Prop} (h : CallR X f r) (h' : CallR X f r') : CallR X f (fun xs H Q => r xs H Q ∨ r' xs H Q) := by
  intro pins s σ H xs us Q I rs q
  rcases q with q | q
  · exact h pins s σ H xs us Q I rs q
  · exact h' pins s σ H xs us Q I rs q
theorem call_list_of : CallR X (.type "list") (fun xs H Q => ∃ p ys, xs = [.ref p] ∧ (SqL X.K H p ys ∨ SqT X.K H p ys) ∧ ∀ l, H l = none → Q (.ref l) (upd H l (.lst ys))) := by
  intro pins s σ H xs us Q I r h
  obtain ⟨p, ys, rfl, hq, q⟩ := h
  obtain ⟨u, rfl, rx⟩ := vals1 r
  cases rx
  have fin : ∀ (its : List Value), Vals ys its → ys.length ≤ sizeLine → ∀ (h' : Heap) (c' : Nat), (∀ b o', s.heap.get? b = some o' → h'.get? b = some o') →
      h'.get? s.heap.objs.size = some { cls := .type "list", dict := none, data := .seq its.toArray c', slots := #[] } → EP X pins σ Q (.ref s.heap.objs.size) { s with heap := h' } := fun its r' hz h' c' kp e =>
    ⟨.ref s.heap.objs.size, _, I.laid (t' := s.toks) kp (Nat.le_refl _) (show ObjOk X.prog X.w _ h' _ (.lst ys) from ⟨hz, its, c', r', e⟩), rfl, q _ (I.hok.fresh (Nat.le_refl _))⟩
  rcases hq with hq | hq
  · obtain ⟨its, r', pl, hz⟩ := I.list hq
    have hlen := r'.length
    obtain ⟨o, ho, hc, n, hd⟩ := pl.isList
    exact call_list_seq p (.inl rfl) ho hc hd (fun h' c' kp e => fin its r' hz h' c' kp e) (by simp only [List.size_toArray] <;> omega)
  · obtain ⟨its, r', pl, hz⟩ := I.tuple hq
    have hlen := r'.length
    obtain ⟨o, ho, hc, n, hd⟩ := pl
    exact call_list_seq p (.inr rfl) ho hc hd (fun h' c' kp e => fin its r' hz h' c' kp e) (by simp only [List.size_toArray] <;> omega)
/-! ### the call of a builtin's method: o.m(..) -/
/-- the value is of that builtin type -/
def tyV (K : PySem.W.Frag) (T : String) (x : V) (H : Hp) : Prop := match x with
  | .str _ => T = "str"
  | .int _ => T = "int"
  | .ref p => (T = "list" ∧ ∃ xs, SqL K H p xs) ∨ (T = "tuple" ∧ ∃ o, K.lookup p = some o ∧ o.cls = .type "tuple" ∧ o.dict = none) ∨
      (T = "dict" ∧ ((∃ kvs, H p = some (.dK kvs)) ∨ ∃ kvs, H p = some (.dT kvs))) ∨ (T = "set" ∧ ∃ S n, H p = some (.set S n))
  | _ => False
theorem tyV_is {pins : List (Addr × Obj)} {σ : St} {H : Hp} {s : Shared} {T : String} {x : V} {v : Value} (I : Inv X pins σ H s) (r : RelV x v) (ty : tyV X.K T x H) :
    s.TypeIs v T ∧ ∀ a, v = .ref a → ∃ ob, s.heap.get? a = some ob ∧ ob.dict = none := by
  cases x with
  | str z =>
    obtain ⟨t, rfl⟩ := r
    cases (show T = "str" from ty)
    exact ⟨typeIs_str s z t, fun _ e => nomatch e⟩
  | int i =>
    obtain ⟨t, rfl⟩ := r
    cases (show T = "int" from ty)
    exact ⟨typeIs_int s i t, fun _ e => nomatch e⟩
  | ref p =>
    cases r
    rcases ty with ⟨rfl, xs, hq⟩ | ⟨rfl, o, hk, hc, hd⟩ | ⟨rfl, hk⟩ | ⟨rfl, S, n, hk⟩
    · obtain ⟨its, _, pl, _⟩ := I.list hq
      refine ⟨pl.isList.typeIs, fun a e => ?_⟩
      cases e
      obtain ⟨o, n, e, c, hd, _⟩ := pl
      exact ⟨o, e, hd⟩
    · refine ⟨⟨o, I.kIn p o hk, hc⟩, fun a e => ?_⟩
      cases e
      exact ⟨o, I.kIn _ o hk, hd⟩
    · have z : ∃ o, s.heap.get? p = some o ∧ o.ExactDict := by
        rcases hk with ⟨kvs, hk⟩ | ⟨kvs, hk⟩
        · obtain ⟨_, _, _, _, o, _, _, e, ex, _⟩ := I.hok p _ hk
          exact ⟨o, e, ex⟩
        · obtain ⟨_, _, _, _, o, _, _, e, ex, _⟩ := I.hok p _ hk
          exact ⟨o, e, ex⟩
      obtain ⟨o, e, ex⟩ := z
      refine ⟨⟨o, e, ex.1⟩, fun a e2 => ?_⟩
      cases e2
      exact ⟨o, e, ex.2.1⟩
    · obtain ⟨o, _, _, _, e, ex, _⟩ := I.hok p _ hk
      refine ⟨⟨o, e, ex.1⟩, fun a e2 => ?_⟩
      cases e2
      exact ⟨o, e, ex.2.1⟩
  | _ => exact False.elim ty
def tBM0 (K : PySem.W.Frag) (T : String) (r : V → List V → Hp → VK → Prop) (to : TE) : TE := fun σ H Q => to σ H fun x H1 => tyV K T x H1 ∧ r x [] H1 Q
def tBM (K : PySem.W.Frag) (T : String) (r : V → List V → Hp → VK → Prop) (to : TE) (t : TA) : TE := fun σ H Q => to σ H fun x H1 => tyV K T x H1 ∧ t σ H1 fun xs H2 => r x xs H2 Q
variable {o e : Expr} {es : List Expr} {to : TE} {t : TA} {name : Str} {apos cpos : Pos} {T id : String} {r : V → List V → Hp → VK → Prop}
theorem pe_bm0 (pa : PlainAttrs T) (slot : Slot T name id) (hty : typeOf (.builtin id) = pure (.type "method_descriptor")) (hm : MtR X id r) (ho : PE X o to)
    (hbase : attributeBase o name X.env (eval o X.env) = eval o X.env := by rfl) (hline : (apos.endLine == cpos.line) = true := by rfl) : PE X (.Call (.Attribute o name apos) [] [] cpos) (tBM0 X.K T r to) := by
  intro pins s σ H Q I h
  refine wpAny_Call_method0_late hbase hline (thn (ho pins s σ H _ I h) fun v s1 ⟨x, H1, I1, r1, ty, q1⟩ => ?_)
  obtain ⟨h1, h2⟩ := tyV_is I1 r1 ty
  exact ⟨T, id, pa, slot, hty, h1, h2, Calls.callWith_builtin rfl (PySem.evalArgs_none (hm pins s1 σ H1 x [] v [] Q I1 r1 .nil q1))⟩
theorem pe_bm (pa : PlainAttrs T) (slot : Slot T name id) (hty : typeOf (.builtin id) = pure (.type "method_descriptor")) (hm : MtR X id r) (ho : PE X o to) (ha : PA X (e :: es) t)
    (hbase : attributeBase o name X.env (eval o X.env) = eval o X.env := by rfl)
    (hfew : ((backTo cpos (starEach (e :: es) X.env)).all (fun x => !x.1) && (backToKw cpos (keywordEach [] X.env)).all (fun x => x.1.isSome)
      && decide ((e :: es).length + ([] : List Keyword).length + (if ([] : List Keyword).isEmpty then 0 else 1) < 30)) = true := by rfl)
    (hline : (apos.endLine == cpos.line) = true := by rfl) (hs : starEach (e :: es) X.env = (false, eval e X.env) :: starEach es X.env := by rfl) (hplain : (backTo cpos (starEach es X.env)).any (·.1) = false := by rfl) :
    PE X (.Call (.Attribute o name apos) (e :: es) [] cpos) (tBM X.K T r to t) := by
  intro pins s σ H Q I h
  refine wpAny_Call_method_late hbase hfew hline rfl (thn (ho pins s σ H _ I h) fun v s1 ⟨x, H1, I1, r1, ty, q1⟩ => ?_)
  obtain ⟨h1, h2⟩ := tyV_is I1 r1 ty
  refine ⟨T, id, pa, slot, hty, h1, h2, ?_⟩
  have hA := ha cpos pins s1 σ H1 _ I1 q1
  rw [hs] at hA ⊢
  refine Calls.callWith_builtin (by show (false || (backTo cpos (starEach es X.env)).any (·.1)) = false; rw [hplain] <;> rfl) (Calls.evalArgs_plain ?_)
  exact thn hA fun us s2 ⟨vs, H2, I2, r2, q2⟩ => hm pins s2 σ H2 x vs v us Q I2 r1 r2 q2
/- xs.append(e), list.index on a module's tuple .. are MtR facts of 06m -/
end
end L2

namespace L2
open PySem PySem.Spec PyProof.Rows

def MtM (X : Cx) (id : String) (r : V → List V → Hp → VK → Prop) : Prop :=
  ∀ (pins : List (Addr × Obj)) (s : Shared) (σ : St) (H : Hp) (x : V) (xs : List V) (v : Value) (us : List Value) (Q : VK), Inv X pins σ H s → RelV x v → Vals xs us → r x xs H Q →
    wpAny (model X.prog X.w) X.A (call (.builtin id) (v :: us)) (EP X pins σ Q) X.xe s

/-! ### lists of values -/
theorem Vals.one : ∀ {x : V} {us : List Value}, Vals [x] us → ∃ u, us = [u] ∧ RelV x u
  | _, _, .cons r .nil => ⟨_, rfl, r⟩
theorem Vals.two : ∀ {x y : V} {us : List Value}, Vals [x, y] us → ∃ u v, us = [u, v] ∧ RelV x u ∧ RelV y v
  | _, _, _, .cons r (.cons q .nil) => ⟨_, _, rfl, r, q⟩
theorem Vals.zero : ∀ {us : List Value}, Vals [] us → us = []
  | _, .nil => rfl
theorem Vals.dropLast {xs : List V} {us : List Value} (h : Vals xs us) : Vals xs.dropLast us.dropLast := by
  induction h with
  | nil => exact .nil
  | cons r t ih =>
    cases t with
    | nil => exact .nil
    | cons q t' => exact .cons r ih
theorem Vals.eraseIdx : ∀ {xs : List V} {us : List Value} (i : Nat), Vals xs us → Vals (xs.eraseIdx i) (us.eraseIdx i)
  | _, _, _, .nil => .nil
  | _, _, 0, .cons _ t => t
  | _, _, i + 1, .cons r t => .cons r (Vals.eraseIdx i t)
theorem Vals.reverse {xs : List V} {us : List Value} (h : Vals xs us) : Vals xs.reverse us.reverse := by
  induction h with
  | nil => exact .nil
  | cons r t ih => rw [List.reverse_cons, List.reverse_cons]; exact Vals.append ih (.cons r .nil)
section
variable {X : Cx} {pins : List (Addr × Obj)} {σ : St} {H : Hp} {s : Shared} {l b : Addr} {xs ys zs : List V}

/-! ### the two steps: a tracked list is rewritten, a new list is laid -/
theorem Inv.lset {its its' : List Value} {n : Nat} {f : Array Value → Array Value} {t' : Nat} (I : Inv X pins σ H s) (hH : H l = some (.lst xs))
    (e : s.heap.get? l = some { cls := .type "list", data := .seq its.toArray n }) (hf : f its.toArray = its'.toArray) (hv : Vals ys its') (hz : ys.length ≤ sizeLine) :
    Inv X pins σ (upd H l (.lst ys)) { s with heap := s.heap.update l (Obj.mapSeq f), toks := t' } := by
  have q := PySem.IsL.update e f
  rw [hf] at q
  refine I.write (x := l) (e := l) (by rw [hH]; exact trivial) (.inl rfl) (fun b' u hb hu => (Heap.get?_update_other s.heap (Obj.mapSeq f) (Ne.symm hb)).trans hu) ⟨_, q⟩ ?_
  exact ⟨hz, its', _, hv, q⟩
theorem Inv.fresh (I : Inv X pins σ H s) : H s.heap.objs.size = none := I.hok.fresh (Nat.le_refl _)
theorem Inv.lstM (I : Inv X pins σ H s) (hH : H l = some (.lst xs)) : xs.length ≤ sizeLine ∧ ∃ (its : List Value) (n : Nat), Vals xs its ∧ xs.length = its.length ∧ s.heap.get? l = some { cls := .type "list", data := .seq its.toArray n } := by
  obtain ⟨z, its, n, r, e⟩ := I.hok l _ hH
  exact ⟨z, its, n, r, r.length, e⟩

end

section
variable {X : Cx}

/-! ### methods -/
def rAppend : V → List V → Hp → VK → Prop := fun x vs H Q => ∃ l xs y, x = .ref l ∧ vs = [y] ∧ H l = some (.lst xs) ∧ xs.length < sizeLine ∧ Q .non (upd H l (.lst (xs ++ [y])))
theorem mt_append : MtM X "list.append" rAppend := by
  intro pins s σ H x vs v us Q I rx rv h
  obtain ⟨l, xs, y, rfl, rfl, hH, hz, q⟩ := h
  cases rx
  obtain ⟨u, rfl, ru⟩ := rv.one
  obtain ⟨z, its, n, r, hl, e⟩ := I.lstM hH
  refine call_meets F.slot_list_append ⟨_, e, rfl⟩ F.entry_list_append (F.args_list_append_2 _ _) (PySem.list_append l its.toArray n u (by rw [List.size_toArray]; omega)) ⟨e, ?_⟩
  refine ⟨.non, _, I.lset (its' := its ++ [u]) hH e (by simp) (r.append (.cons ru .nil)) ?_, rfl, q⟩
  rw [List.length_append, List.length_singleton]
  omega

def rExtend : V → List V → Hp → VK → Prop := fun x vs H Q => ∃ l b xs zs, x = .ref l ∧ vs = [.ref b] ∧ H l = some (.lst xs) ∧ H b = some (.lst zs) ∧ xs.length + zs.length ≤ sizeLine ∧ Q .non (upd H l (.lst (xs ++ zs)))
def rPop : V → List V → Hp → VK → Prop := fun x vs H Q => ∃ l xs y, x = .ref l ∧ vs = [] ∧ H l = some (.lst xs) ∧ xs[xs.length - 1]? = some y ∧ Q y (upd H l (.lst xs.dropLast))
def rPopAt : V → List V → Hp → VK → Prop := fun x vs H Q => ∃ l xs i k y, x = .ref l ∧ vs = [.int i] ∧ H l = some (.lst xs) ∧ -(2 ^ 63) ≤ i ∧ i < 2 ^ 63 ∧ seqIndex? i xs.length = some k ∧ xs[k]? = some y ∧ Q y (upd H l (.lst (xs.eraseIdx k)))
def rReverse : V → List V → Hp → VK → Prop := fun x vs H Q => ∃ l xs, x = .ref l ∧ vs = [] ∧ H l = some (.lst xs) ∧ Q .non (upd H l (.lst xs.reverse))
def rClear : V → List V → Hp → VK → Prop := fun x vs H Q => ∃ l xs, x = .ref l ∧ vs = [] ∧ H l = some (.lst xs) ∧ Q .non (upd H l (.lst []))
theorem mt_clear : MtM X "list.clear" rClear := by
  intro pins s σ H x vs v us Q I rx rv h
  obtain ⟨l, xs, rfl, rfl, hH, q⟩ := h
  cases rx
  have hus := rv.zero
  subst hus
  obtain ⟨z, its, n, r, hl, e⟩ := I.lstM hH
  refine call_meets F.slot_list_clear ⟨_, e, rfl⟩ F.entry_list_clear (F.args_list_clear_1 _) (AutoSeq1.list_clear_list_0 l its.toArray n (by rw [List.size_toArray]; omega)) ⟨e, ?_⟩
  exact ⟨.non, _, I.lset (its' := []) (ys := []) hH e rfl .nil (Nat.zero_le _), rfl, q⟩

/-! ### list + list, list += list, list * int -/
def rCat : R2 := fun x y H Q => ∃ l b xs zs, x = .ref l ∧ y = .ref b ∧ H l = some (.lst xs) ∧ H b = some (.lst zs) ∧ xs.length + zs.length ≤ sizeLine ∧ ∀ p, H p = none → Q (.ref p) (upd H p (.lst (xs ++ zs)))
/-- a list times an int (a negative one is nothing) -/
def rRep : R2 := fun x y H Q => ∃ l k xs, x = .ref l ∧ y = .int k ∧ H l = some (.lst xs) ∧ -(2 ^ 63) ≤ k ∧ k < 2 ^ 63 ∧ xs.length * k.toNat ≤ sizeLine ∧
  ∀ p, H p = none → Q (.ref p) (upd H p (.lst (List.replicate k.toNat xs).flatten))
/-! ### del xs[i] -/
end

/-! ### xs[a:b] = ys -/
section
variable {prog : Program} {w : World} {A : Around} {E : Value → Shared → Prop} {s : Shared}
set_option maxRecDepth 100000 in
end

section
variable {X : Cx}
end
end L2

namespace Att
open PySem PySem.W PySem.Calls PyProof.Rows

/-! ### the script -/
theorem ints_of_wellAll {P : Params} {h : Heap} : ∀ (ns : List Int) (vs : List Value), WellAll P h vs (ns.map WData.int) → IntsAre vs ns := by
  intro ns
  induction ns with
  | nil =>
    intro vs w
    rw [List.map_nil] at w
    cases w
    exact .nil
  | cons n ns ih =>
    intro vs w
    rw [List.map_cons] at w
    cases w with
    | cons a b =>
      cases a
      exact .cons _ _ (ih _ b)

theorem script_of {l : OpenLaw} {n : Nat} (hn : l.most = some n) {P : Params} {h : Heap} {args : List WData} {vals : List Value}
    (hpre : l.row.toRowW.claim.pre args = true) (hwl : WellAll P h vals args) :
    ∃ a vs ns, vals = [Value.ref a] ∧ args = [WData.list (ns.map WData.int)] ∧ h.get? a = some { cls := .type "list", data := .seq vs.toArray } ∧ IntsAre vs ns ∧ ns.length ≤ n := by
  have hsh : WShape.hasAll [] args [.list .int] = true := (pre_splitW hpre).1
  have hc : l.pre.holds [] { args := args } = true := (pre_splitW hpre).2
  obtain ⟨d, r, rfl, h1, h2⟩ := hasAllW_cons hsh
  obtain rfl := hasAllW_nil h2
  obtain ⟨xs, rfl, h3⟩ := hasW_list h1
  obtain ⟨ns, rfl⟩ := items_int h3
  have hlen : ns.length ≤ n := by
    unfold OpenLaw.pre at hc
    have h4 : (WTm.not (.lt (.lit (.int (n : Int))) (.len (.arg 0)))).holds [] { args := [.list (ns.map .int)] } = true := by
      have h4 := (holds_andW hc).1
      rw [hn] at h4
      exact h4
    have h5 := condW_of h4 (w_not (w_lt w_lit (w_len_list (w_arg rfl))))
    rw [List.length_map] at h5
    refine Nat.le_of_not_lt fun q => ?_
    have q' : (n : Int) < ((ns.length : Nat) : Int) := by omega
    first
      | (rw [decide_eq_true q'] at h5; exact absurd h5 (by decide))
      | (simp at h5; omega)
  cases hwl with
  | cons w1 w2 =>
    cases w2
    cases w1 with
    | list ho hall => exact ⟨_, _, ns, rfl, rfl, ho, ints_of_wellAll ns _ hall, hlen⟩

theorem post_true (l : OpenLaw) (args : List WData) : l.row.toRowW.claim.post args (.bool true) args = true :=
  postW_of (r := l.row.toRowW) (X := (true == true))
    (show WShape.has [] (.bool true) .bool = true by first | rfl | decide | simp [WShape.has, WShape.arms, WShape.armsAll])
    (show (WTm.eq .res (.lit (.bool true))).value [] { args := args, res := some (.bool true), after := args } = some (.bool (true == true)) from w_eq_bool (w_res rfl) w_lit) rfl

/-! ### the attachment: holds_open's last premise (the goal 'hc' behind k_head) from a wpAny of the law's body -/
/-- the same from a codeAny of the CALL (for a layer whose function contracts speak of calls) -/
theorem attach_call {l : OpenLaw} {n : Nat} {q : Program} {loose : List Str} {XP : (Str → Option Value) → Heap → Prop} {YP : World → Heap → Prop} {d : DefRec}
    (hn : l.most = some n) (hdf : d.params.defaults = [])
    (call : ∀ (w : World) (s₀ s₁ : Shared) (mg mb : Str → Option Value) (fa : Addr) (o : Obj) (pm cd doc : Value) (a : Addr) (vs : List Value) (ns : List Int),
      Ground q loose [] XP w s₀ mg mb s₁.heap → YP w s₁.heap →
      s₁.heap.get? fa = some o → o.data = .func (docDef d.name d.params d.body d.scope pm cd doc) → s₁.heap.CodeRec cd d.name → mg d.name = some (.ref fa) →
      s₁.heap.get? a = some { cls := .type "list", data := .seq vs.toArray } → IntsAre vs ns → ns.length ≤ n → s₁.gens = #[] →
      codeAny (model l.prog w) callerA (.call (.ref fa) ⟨[.ref a], []⟩) (fun r s' => r = .ok (.ret (.bool true)) ∧ OldK s₁.heap s'.heap ∧ s'.os = s₁.os ∧ AllBare s'.gens) s₁) :
    WalkO q loose XP YP l.row.toRowW d [] (fun f vs => PySem.call f vs) := by
  intro w s₀ s₁ mg mb G Y fa o pm cd doc dV kV ho hd hcd hD hmg hg args vals as hpre hlay hrd hwl hlo
  obtain rfl : dV = .none := Dflts.none hD hdf
  obtain rfl : kV = .none := Dflts.noKw hD
  obtain ⟨a, vs, ns, rfl, rfl, hobj, hints, hlen⟩ := script_of hn hpre hwl
  refine enter_call (codeAny_mono (call w s₀ s₁ mg mb fa o pm cd doc a vs ns G Y ho (fd_plain hd) hcd hmg hobj hints hlen hg) fun r s' hq => ?_)
  obtain ⟨rfl, h2, h3, h4⟩ := hq
  exact ⟨.inl ⟨.bool true, .bool true, [], rfl, fun _ => rfl, .bool true, post_true l _, fun _ => ⟨List.Pairwise.nil, fun _ hm => (nomatch hm)⟩⟩, h2, h3, h4⟩

/-! ### rules over ANY heap (no ledger) from facts about the written part K: the library's own take a ledger (News) for what they write -/
section
variable {prog : Program} {w : World} {A : Around} {E : Value → Shared → Prop} {s : Shared} {K : Frag}

/-! the whole heap as the ledger: makes every rule that writes through a ledger a rule over any heap -/
def noObjs (h : Heap) : Heap := { h with objs := #[] }
def ledger (h : Heap) (L d : Addr) : List (Addr × Obj) := (List.range h.objs.size).filterMap fun a => if a = L ∨ a = d then none else (h.get? a).map fun o => (a, o)
end
end Att

namespace L2
open PySem PySem.Spec PyProof.Rows

theorem vals_ints : ∀ {vs : List Value} {ns : List Int}, IntsAre vs ns → Vals (ns.map V.int) vs
  | _, _, .nil => .nil
  | _, _, .cons n t h => .cons ⟨t, rfl⟩ (vals_ints h)

/-- nothing is tracked but the script, known to the object (or it is an object of the module) -/
def Only (H : Hp) : Prop := ∀ b, H b = none ∨ ∃ o xs, H b = some (.frz o (.lst xs))

/-- THE HEAD: the law's promise, at the heap behind the top. F, the promise of the law's def, may use that base is part of the heap (so K.In base, base.Ns mainGlobals mg stand in Mod) -/
theorem law_call {P : Program} {w : World} {K : PySem.W.Frag} {mg mb : Str → Option Value} {CX : CXT} {k : Nat} {fa a : Addr} {fd : FuncData} {x : Str} {sp : Sp} {s₁ : Shared} {vs : List Value} {ns : List Int}
    (KX : K.In s₁.heap) (hns : s₁.heap.Ns mainGlobals mg) (hb : s₁.heap.Ns builtinsNs mb) (hbb : ∀ x : Str, x ≠ "__name__" → mb x = bootBuiltins x) (hlim : s₁.heap.NoLimit) (hg : s₁.gens = #[])
    (ha : s₁.heap.get? a = some { cls := .type "list", data := .seq vs.toArray }) (hi : IntsAre vs ns) (hl : ns.length ≤ sizeLine) (hr : Room k callerA)
    (F : ∀ base : Heap, K.In base → base.Ns mainGlobals mg → FnOk P w K mg base CX k fa fd [x] sp) (hbind : ∀ (s : Shared) (u : Value), BindsTo s fd ⟨[u], []⟩ [(x, u)])
    (hsp : ∀ H : Hp, Only H → SqL K H a (ns.map V.int) → sp [.ref a] H (fun v _ => v = .bl true) fun _ _ _ => False)
    (hCX : ∀ H e s', CX [] H s₁ (fun _ _ _ => False) e s' → False) :
    codeAny (model P w) callerA (.call (.ref fa) ⟨[.ref a], []⟩) (fun r s' => r = .ok (.ret (.bool true)) ∧ OldK s₁.heap s'.heap ∧ s'.os = s₁.os ∧ AllBare s'.gens) s₁ := by
  have rv := vals_ints hi
  have lenV := hi.length
  -- from an abstract heap in which nothing but the script may be tracked
  have core : ∀ H : Hp, Only H → SqL K H a (ns.map V.int) → HOk P w H s₁.heap → (∀ b, H b ≠ none → b = a) → (H a ≠ none → K.lookup a = none) →
      codeAny (model P w) callerA (.call (.ref fa) ⟨[.ref a], []⟩) (fun r s' => r = .ok (.ret (.bool true)) ∧ OldK s₁.heap s'.heap ∧ s'.os = s₁.os ∧ AllBare s'.gens) s₁ := by
    intro H hO hS hok hA hK
    have base_of : ∀ {b : Addr} {o : Obj}, s₁.heap.get? b = some o → H b = none → (hidT s₁.heap H).get? b = some o := fun e n => hidT_get e n
    have noA : ∀ {b : Addr} {o : Obj} {es : Array DictEntry} {ep : Nat}, s₁.heap.get? b = some o → o.data = .dict es ep → H b = none := fun {b o es ep} e d => by
      cases q : H b with
      | none => rfl
      | some u =>
        have e' : b = a := hA b (by rw [q]; simp)
        subst e'
        rw [ha] at e; cases e
        have d' : Data.seq vs.toArray _ = Data.dict es ep := d
        cases d'
    have nsK : ∀ {b : Addr} {m : Str → Option Value}, s₁.heap.Ns b m → (hidT s₁.heap H).Ns b m := fun {b m} ⟨o, es, ep, e, d, r⟩ => ⟨o, es, ep, base_of e (noA e d), d, r⟩
    have hKb : K.In (hidT s₁.heap H) := fun b o e => base_of (KX b o e) (by
      cases q : H b with
      | none => rfl
      | some u =>
        have e' : b = a := hA b (by rw [q]; simp)
        subst e'
        rw [hK (by rw [q]; simp)] at e; cases e)
    have hM : Mod K mg (hidT s₁.heap H) := ⟨hKb, nsK hns, ⟨mb, nsK hb, hbb⟩, let ⟨mc, h1, h2⟩ := hlim; ⟨mc, nsK h1, h2⟩⟩
    have e0 : Env0 P w K mg (hidT s₁.heap H) callerA [] s₁ H := ⟨rfl, hM, fun b o e => of_hidT e, Nat.le_of_eq (hidT_size _ _), trivial, fun b hb => absurd (show b ∈ ([] : List Addr) from hb) (by simp), hok, .of_eq hg⟩
    refine codeAny_mono ((F _ hKb (nsK hns)).run callerA [] s₁ H ⟨[.ref a], []⟩ [.ref a] [.ref a] _ _ hr e0 (hbind s₁ (.ref a)) (.cons rfl .nil) (hsp H hO hS)) fun r s' h => ?_
    cases r with
    | error e => exact (hCX H e s' h).elim
    | ok fl =>
      cases fl with
      | next => exact False.elim h
      | brk => exact False.elim h
      | cont => exact False.elim h
      | ret u =>
        obtain ⟨v, H', os, bare, un, hok', r', q⟩ := h
        have q' : v = .bl true := q
        subst q'
        obtain rfl : u = Value.bool true := r'
        refine ⟨rfl, OldK.of_keep fun b o e => ?_, os, bare⟩
        cases q : H b with
        | none => exact un.keep b o e q (by intro z; exact absurd (show b ∈ ([] : List Addr) from z) (by simp)) (by simp)
        | some u =>
          rcases hO b with z | ⟨ob, xs, z⟩
          · rw [q] at z; cases z
          · have z2 := un.frzs b ob _ z
            obtain ⟨e1, _⟩ := hok b _ z
            obtain ⟨e2, _⟩ := hok' b _ z2
            rw [e] at e1; cases e1
            exact e2
  cases hk : K.lookup a with
  | some o =>
    -- the script is one of the module's own objects
    have e := KX a o hk
    rw [ha] at e
    cases e
    refine core (fun _ => none) (fun _ => .inl rfl) (.inr ⟨_, vs.toArray, _, hk, rfl, rfl, rfl, by rw [List.size_toArray, lenV]; exact hl, by simpa using rv⟩) (fun b u z => by have z' : (none : Option HO) = some u := z; cases z') (fun b z => absurd rfl z) fun z => absurd rfl z
  | none =>
    refine core (fun b => if b = a then some (.frz { cls := .type "list", data := .seq vs.toArray } (.lst (ns.map V.int))) else none) (fun b => ?_) (.inl (.inr ⟨{ cls := .type "list", data := .seq vs.toArray }, if_pos rfl⟩)) (fun b u z => ?_) (fun b z => ?_) fun _ => hk
    · by_cases hb : b = a
      · exact .inr ⟨_, _, if_pos hb⟩
      · exact .inl (if_neg hb)
    · by_cases hb : b = a
      · have z' := (if_pos hb).symm.trans z
        cases z'
        subst hb
        exact ⟨ha, by rw [List.length_map]; exact hl, vs, _, rv, ha⟩
      · have z' := (if_neg hb).symm.trans z
        cases z'
    · by_cases hb : b = a
      · exact hb
      · exact absurd (if_neg hb) z
end L2

namespace L2
open PySem PySem.Spec PyProof.Rows

abbrev KOf {K : PySem.W.Frag} {h : Heap} (_ : K.In h) : PySem.W.Frag := K

/-- the goal that k_head leaves (case hc), from the law's promise. F gives the function object fd (K's own) once, then the promise over every base -/
theorem walk_of {l : PySem.W.OpenLaw} {n k : Nat} {q : Program} {loose : List Str} {XP : (Str → Option Value) → Heap → Prop} {YP : World → Heap → Prop} {d : DefRec} {K : Params → PySem.W.Frag} {CX : World → CXT} {sp : World → Sp} {x : Str}
    (hn : l.most = some n) (hn2 : n ≤ sizeLine) (hdf : d.params.defaults = []) (hr : Room k callerA)
    (hY : ∀ (w : World) (h : Heap), YP w h → (K w.params).In h)
    (F : ∀ (w : World) (mg : Str → Option Value) (fa : Addr) (h : Heap), (K w.params).In h → h.Ns mainGlobals mg → mg d.name = some (.ref fa) →
      ∃ fd : FuncData, (∀ (s : Shared) (u : Value), BindsTo s fd ⟨[u], []⟩ [(x, u)]) ∧
        ∀ base : Heap, (K w.params).In base → base.Ns mainGlobals mg → FnOk l.prog w (K w.params) mg base (CX w) k fa fd [x] (sp w))
    (hsp : ∀ (w : World) (H : Hp) (a : Addr) (ns : List Int), ns.length ≤ n → Only H → SqL (K w.params) H a (ns.map V.int) → sp w [.ref a] H (fun v _ => v = .bl true) fun _ _ _ => False)
    (hCX : ∀ (w : World) (H : Hp) (s : Shared) (e : Value) (s' : Shared), CX w [] H s (fun _ _ _ => False) e s' → False) :
    PySem.W.WalkO q loose XP YP l.row.toRowW d [] (fun f vs => PySem.call f vs) := by
  refine Att.attach_call hn hdf fun w s₀ s₁ mg mb fa o pm cd doc a vs ns G Y ho hd hcd hmg hobj hints hlen hg => ?_
  have KX := hY w _ Y
  obtain ⟨fd, hb, hF⟩ := F w mg fa _ KX G.T.g hmg
  exact law_call KX G.T.g G.T.b G.T.builtins G.T.nolimit hg hobj hints (Nat.le_trans hlen hn2) hr hF hb (fun H hO hS => hsp w H a ns hlen hO hS) fun H e s' => hCX w H s₁ e s'
end L2

/-! SHORT WORDS over the layer: a def of the text, its body, what a loop and a test want. -/
namespace L2
open PySem PySem.Spec PyProof.Rows

/-! ### the text by places -/
/-- the j-th statement of a class's body -/
def inClass (s : Stmt) (j : Nat) : Stmt := match s with
  | .ClassDef _ _ _ body _ _ _ _ _ _ _ => body.getD j (.Pass ⟨0, 0, 0, 0⟩)
  | _ => .Pass ⟨0, 0, 0, 0⟩
def defArgs (s : Stmt) : Arguments := match s with
  | .FunctionDef _ a _ _ _ _ _ _ _ _ => a
  | _ => { posonlyargs := [], args := [], vararg := none, kwonlyargs := [], kw_defaults := [], kwarg := none, defaults := [] }
def defBody (s : Stmt) : List Stmt := match s with
  | .FunctionDef _ _ b _ _ _ _ _ _ _ => b
  | _ => []
def defScope (s : Stmt) : Scope := match s with
  | .FunctionDef _ _ _ _ _ _ sc _ _ _ => sc
  | _ => { kind := .function, names := [], isGenerator := false, isCoroutine := false }

/-! ### no exception leaves a def -/
abbrev CX0 : CXT := fun _ _ _ _ _ _ => False
abbrev E0 : XK := fun _ _ _ => False
theorem pass0 {X : Cx} : Passes CX0 X E0 := fun _ _ _ _ _ _ _ h => h.elim

/-! ### a def (or method) of the text as it stands behind the top -/
structure Fun (K : PySem.W.Frag) (x qual : Str) (st : Stmt) (f : Addr) (fd : FuncData) : Prop where
  ex : ∃ (oc : Value) (od : Option Addr) (kV doc pm : Value) (an : Option Addr) (cdv ct : Value) (osl : Array (Option Value)),
    fd = PySem.W.fnOf x qual (defArgs st) (defBody st) (defScope st) .none kV doc pm an cdv ct ∧ K.lookup f = some ⟨oc, od, .func fd, osl⟩ ∧ PySem.W.codeIn K cdv qual = true
  kp : PySem.W.keepIn K (.ref f) = true
section
variable {P : Program} {w : World} {K : PySem.W.Frag} {mg : Str → Option Value} {base : Heap}
/-- THE RULE for a def: its body as a term of rules, and the reading of that term -/
theorem Fun.ok {x qual : Str} {st : Stmt} {f : Addr} {fd : FuncData} {N ps : List Str} {k : Nat} {sp : Sp} (F : Fun K x qual st f fd) (S : FnScope N ps (defScope st)) (len : ∀ vs H Q E, sp vs H Q E → vs.length = ps.length)
    (hbody : ∀ (cdv : Value) (A : Around) (outer : List Env) (s : Shared) (H : Hp) (vs : List V) (Q : VK) (E : XK), Room k (A.deeper (envOfC qual (defScope st) s.heap.objs.size f cdv)) → sp vs H Q E →
      ∃ t, PSs (cxOf CX0 P w K mg base N qual (defScope st) f cdv A outer s H E).nox (defBody st) t ∧ t { nx := fun _ H' => Q .non H', rt := Q } (start N vs) H) : FnOk P w K mg base CX0 (k + 1) f fd ps sp := by
  obtain ⟨oc, od, kV, doc, pm, an, cdv, ct, osl, rfl, lk, hcd⟩ := F.ex
  refine fn_of lk hcd S len fun A outer s H vs Q E hr hsp => ?_
  obtain ⟨t, h, q⟩ := hbody cdv A outer s H vs Q E hr hsp
  exact ⟨t, h.nox, q⟩
/-- how its arguments bind (no defaults): h is «fun _ _ _ _ _ _ us hl => match us, hl with | [_, _], _ => rfl», one _ a parameter -/
theorem Fun.binds {x qual : Str} {st : Stmt} {f : Addr} {fd : FuncData} {ps : List Str} (F : Fun K x qual st f fd)
    (h : ∀ (kV doc pm : Value) (an : Option Addr) (cdv ct : Value) (us : List Value), us.length = ps.length → bindArgs (PySem.W.fnOf x qual (defArgs st) (defBody st) (defScope st) .none kV doc pm an cdv ct) ⟨us, []⟩ = pure (ps.zip us)) : Binds K fd ps [] := by
  obtain ⟨oc, od, kV, doc, pm, an, cdv, ct, osl, rfl, lk, hcd⟩ := F.ex
  exact .all (h kV doc pm an cdv ct)
theorem fun_mk {x qual : Str} {st : Stmt} {f : Addr} {oc : Value} {od an : Option Addr} {osl : Array (Option Value)} {kV doc pm cdv ct : Value} (l : K.lookup f = some ⟨oc, od, .func (PySem.W.fnOf x qual (defArgs st) (defBody st) (defScope st) .none kV doc pm an cdv ct), osl⟩)
    (c : PySem.W.codeIn K cdv qual = true) (k : PySem.W.keepIn K (.ref f) = true) : Fun K x qual st f (PySem.W.fnOf x qual (defArgs st) (defBody st) (defScope st) .none kV doc pm an cdv ct) := ⟨⟨oc, od, kV, doc, pm, an, cdv, ct, osl, rfl, l, c⟩, k⟩
end
theorem small1000 {n : Nat} (h : n ≤ 1000) : n < sizeLine := Nat.lt_of_le_of_lt h (by decide)

/-! ### expressions in short: the name that stands in the i-th slot -/
section
variable {X : Cx}
theorem pv (i : Nat) {x : Str} {pos : Pos} (hN : X.N[i]? = some x := by rfl) (hv : Vis X.env.scope x := by first | exact Or.inl rfl | exact Or.inr (Or.inl rfl) | exact Or.inr (Or.inr rfl)) (hd : (x == ("__debug__" : Str)) = false := by decide)
    (hcd : (x == ("__classdict__" : Str)) = false := by decide) : PE X (.Name x pos) (tVar i) := pe_var hN hv hd hcd
end

/-! ### tests -/
theorem iteF {A B : Prop} (h : B) : if false = true then A else B := by
  rw [if_neg Bool.false_ne_true]
  exact h
theorem iteT {A B : Prop} (h : A) : if true = true then A else B := by
  rw [if_pos rfl]
  exact h
theorem ite2 {c A B : Prop} [Decidable c] (h1 : c → A) (h2 : ¬ c → B) : if c then A else B := by
  by_cases h : c
  · rw [if_pos h]
    exact h1 h
  · rw [if_neg h]
    exact h2 h
theorem iteNS {c A B : Prop} [Decidable c] (hc : c) (h : B) : if (!decide c) = true then A else B := by
  rw [decide_eq_true hc]
  exact iteF h

/-! ### heaps -/
/-- all that was tracked is as it was -/
def Same (H H' : Hp) : Prop := ∀ b o, H b = some o → H' b = some o
theorem Same.refl (H : Hp) : Same H H := fun _ _ h => h
theorem Same.trans {H H1 H2 : Hp} (a : Same H H1) (b : Same H1 H2) : Same H H2 := fun c o h => b c o (a c o h)
theorem Same.free {H H' : Hp} (e : Same H H') {l : Addr} (h : H' l = Option.none) : H l = Option.none := by
  cases q : H l with
  | none => rfl
  | some o =>
    rw [e l o q] at h
    cases h
theorem Same.seq {K : PySem.W.Frag} {H H' : Hp} {a : Addr} {xs : List V} (e : Same H H') (h : SqL K H a xs) : SqL K H' a xs := by
  rcases h with (h | ⟨o, h⟩) | h
  · exact .inl (.inl (e _ _ h))
  · exact .inl (.inr ⟨o, e _ _ h⟩)
  · exact .inr h

end L2

set_option maxHeartbeats 4000000
/-! Own rules over the hand layer: comprehensions. -/
namespace L2
open PySem PySem.Spec PyProof.Rows

/-- the cells that a comprehension's block takes over -/
def closOf (cells : List (Str × Addr)) : List (Str × NameKind) → List (Str × Addr) → List (Str × Addr)
  | [], cs => cs
  | (n, k) :: r, cs => closOf cells r (if k == .free then (n, (cells.lookup n).getD 0) :: cs else cs)
theorem closureFor_eq {scope : Scope} {env : Env} (h : ∀ y ∈ scope.names, y.2 = .free → ∃ c, env.cells.lookup y.1 = some c) : closureFor scope env = pure (closOf env.cells scope.names []) := by
  have key : ∀ (l : List (Str × NameKind)) (cs : List (Str × Addr)), (∀ y ∈ l, y.2 = .free → ∃ c, env.cells.lookup y.1 = some c) →
      (forIn l cs fun (x : Str × NameKind) (r : List (Str × Addr)) => if (x.2 == NameKind.free) = true then do let a ← cellOf env x.1; pure (ForInStep.yield ((x.1, a) :: r)) else pure (ForInStep.yield r) : Sem (List (Str × Addr))) = pure (closOf env.cells l cs) := by
    intro l
    induction l with
    | nil => intro cs _; rfl
    | cons y r ih =>
      intro cs hl
      obtain ⟨n, k⟩ := y
      rw [List.forIn_cons]
      by_cases hk : k = .free
      · subst hk
        obtain ⟨c, hc⟩ := hl (n, .free) List.mem_cons_self rfl
        have hc' : env.cells.lookup n = some c := hc
        have e1 : cellOf env n = pure c := by unfold cellOf; rw [hc']
        simp only [beq_self_eq_true, if_true, e1, pure_bind]
        rw [ih _ fun z hz => hl z (List.mem_cons_of_mem _ hz)]
        show _ = pure (closOf env.cells r (if (NameKind.free == NameKind.free) = true then (n, (env.cells.lookup n).getD 0) :: cs else cs))
        rw [hc']
        rfl
      · have hb : (k == NameKind.free) = false := by simpa using hk
        simp only [hb, Bool.false_eq_true, if_false, pure_bind]
        rw [ih _ fun z hz => hl z (List.mem_cons_of_mem _ hz)]
        show _ = pure (closOf env.cells r (if (k == NameKind.free) = true then (n, (env.cells.lookup n).getD 0) :: cs else cs))
        rw [hb]
        rfl
  have k2 := key scope.names [] h
  have e : closureFor scope env = ((forIn scope.names [] fun (x : Str × NameKind) (r : List (Str × Addr)) => if (x.2 == NameKind.free) = true then do let a ← cellOf env x.1; pure (ForInStep.yield ((x.1, a) :: r)) else pure (ForInStep.yield r) : Sem (List (Str × Addr))) >>= fun cs => pure cs) := rfl
  rw [e, k2]
  rfl
theorem closOf_sub {cells : List (Str × Addr)} : ∀ {l : List (Str × NameKind)} {cs : List (Str × Addr)}, (∀ y ∈ l, y.2 = .free → ∃ c, cells.lookup y.1 = some c) → (∀ x c, cs.lookup x = some c → cells.lookup x = some c) →
    ∀ x c, (closOf cells l cs).lookup x = some c → cells.lookup x = some c
  | [], _, _, h, x, c, e => h x c e
  | (n, k) :: r, cs, hl, h, x, c, e => by
    unfold closOf at e
    refine closOf_sub (l := r) (fun z hz => hl z (List.mem_cons_of_mem _ hz)) (fun y d q => ?_) x c e
    split at q
    · rename_i hk
      obtain ⟨c0, hc0⟩ := hl (n, k) List.mem_cons_self (by simpa using hk)
      have hc0' : cells.lookup n = some c0 := hc0
      rw [hc0'] at q
      rw [List.lookup_cons] at q
      split at q
      · rename_i hb
        have := eq_of_beq hb
        subst this
        rw [hc0']
        exact q
      · exact h y d q
    · exact h y d q
theorem closOf_keeps {cells : List (Str × Addr)} {x : Str} : ∀ {l : List (Str × NameKind)} {cs : List (Str × Addr)}, (∃ c, cs.lookup x = some c) → ∃ c, (closOf cells l cs).lookup x = some c
  | [], _, h => h
  | (n, k) :: r, cs, h => by
    unfold closOf
    refine closOf_keeps (l := r) ?_
    split
    · rw [List.lookup_cons]
      split
      · exact ⟨_, rfl⟩
      · exact h
    · exact h
theorem closOf_has {cells : List (Str × Addr)} {x : Str} : ∀ {l : List (Str × NameKind)} {cs : List (Str × Addr)}, (x, NameKind.free) ∈ l → ∃ c, (closOf cells l cs).lookup x = some c
  | (n, k) :: r, cs, h => by
    unfold closOf
    rcases List.mem_cons.mp h with e | h
    · injection e with e1 e2
      subst e1 e2
      refine closOf_keeps (l := r) ?_
      simp only [beq_self_eq_true, if_true]
      rw [List.lookup_cons]
      simp
    · exact closOf_has (l := r) h

/-- where a comprehension's block runs: the state and heap at its entry, its namespace, what its iterator is made of -/
structure CA where
  s : Shared
  H : Hp
  C : Addr
  fp : List Addr
/-- the context of a comprehension's block -/
abbrev cxComp (X : Cx) (scope : Scope) (N' : List Str) (a : CA) : Cx where
  prog := X.prog
  w := X.w
  K := X.K
  mg := X.mg
  base := X.base
  A := X.A
  N := N'
  s₀ := a.s
  H₀ := a.H
  env := compEnvC scope (closOf X.env.cells scope.names []) a.C X.env
  outer := X.stack
  stack := X.stack
  ex := a.fp
  fn := fun _ => false
  calm := X.calm
  pn := []
  xe := fun _ _ => False

/-- what is asked of the block's names -/
structure CompSc (N N' : List Str) (osc scope : Scope) (j : Nat) (x : Str) : Prop where
  nd : N'.Nodup
  at_ : N'[j]? = some x
  sub : ∀ (i : Nat) y, i ≠ j → N'[i]? = some y → N[i]? = some y
  len : N'.length ≤ N.length + 1
  kind : scope.kind = .function
  cell : ∀ y ∈ scope.names, y.2 ≠ .cell
  names : ∀ y ∈ scope.names, y.2 = .local → scope.names.lookup y.1 = some .local
  only : ∀ y ∈ scope.names, y.2 = .local → y.1 = x ∨ y.1 ∉ N'
  loc : scope.names.lookup x = some .local
  okind : osc.kind = .function
  free : ∀ y ∈ scope.names, y.2 = .free → osc.names.lookup y.1 = some .cell

/-- all of it at one look, for a name that the def has not -/
def compOk (N : List Str) (osc scope : Scope) (x : Str) : Bool :=
  decide (N ++ [x]).Nodup && decide (scope.kind = .function) && decide (osc.kind = .function) && (scope.names.lookup x == some .local) &&
    scope.names.all fun y => match y.2 with
      | .cell => false
      | .local => scope.names.lookup y.1 == some .local && (y.1 == x || !((N ++ [x]).contains y.1))
      | .free => osc.names.lookup y.1 == some .cell
      | _ => true
theorem CompSc.new {N : List Str} {osc scope : Scope} {x : Str} (h : compOk N osc scope x = true) : CompSc N (N ++ [x]) osc scope N.length x := by
  unfold compOk at h
  simp only [Bool.and_eq_true, decide_eq_true_eq, List.all_eq_true, beq_iff_eq] at h
  obtain ⟨⟨⟨⟨h1, h2⟩, h3⟩, h4⟩, h5⟩ := h
  refine ⟨h1, by simp, fun i y ne e => ?_, by simp, h2, fun y hy e => ?_, fun y hy e => ?_, fun y hy e => ?_, h4, h3, fun y hy e => ?_⟩
  · by_cases hi : i < N.length
    · rw [List.getElem?_append_left hi] at e; exact e
    · rw [List.getElem?_append_right (by omega)] at e
      cases q : i - N.length with
      | zero => exact absurd (by omega) ne
      | succ k => rw [q] at e; simp at e
  · have := h5 y hy; rw [e] at this; cases this
  · have := h5 y hy
    rw [e] at this
    simp only [Bool.and_eq_true, beq_iff_eq] at this
    exact this.1
  · have := h5 y hy
    rw [e] at this
    simp only [Bool.and_eq_true, Bool.or_eq_true, beq_iff_eq, Bool.not_eq_true', List.contains_eq_mem, decide_eq_false_iff_not] at this
    exact this.2
  · have := h5 y hy
    rw [e] at this
    simp only [beq_iff_eq] at this
    exact this

def padS (n j : Nat) (σ : St) : St := ((σ ++ [none]).take n).set j none
theorem padS_get {n j i : Nat} {σ : St} {v : V} (h : (padS n j σ)[i]? = some (some v)) : i ≠ j ∧ σ[i]? = some (some v) := by
  unfold padS at h
  by_cases e : i = j
  · subst e
    rw [List.getElem?_set] at h
    simp only [if_true] at h
    split at h <;> cases h
  · refine ⟨e, ?_⟩
    rw [List.getElem?_set_ne (Ne.symm e)] at h
    have h2 : (σ ++ [none])[i]? = some (some v) := by
      by_cases hi : i < n
      · rw [List.getElem?_take_of_lt hi] at h; exact h
      · rw [List.getElem?_eq_none (by rw [List.length_take]; omega)] at h; cases h
    by_cases hi : i < σ.length
    · rw [List.getElem?_append_left hi] at h2; exact h2
    · rw [List.getElem?_append_right (by omega)] at h2
      cases q : i - σ.length with
      | zero => rw [q] at h2; cases h2
      | succ k => rw [q] at h2; cases h2
theorem padS_len {n j : Nat} {σ : St} (h : n ≤ σ.length + 1) : (padS n j σ).length = n := by
  unfold padS
  rw [List.length_set, List.length_take, List.length_append]
  simp; omega

theorem lookup_relabel_free {env : Env} : ∀ {names : List (Str × NameKind)} {x : Str}, ((names.map fun (n, k) => if (k == NameKind.free && env.scope.kind == .function && env.kindOf n == some .cell) then (n, NameKind.cell) else (n, k)).lookup x = some .cell ∨
    (names.map fun (n, k) => if (k == NameKind.free && env.scope.kind == .function && env.kindOf n == some .cell) then (n, NameKind.cell) else (n, k)).lookup x = some .free) → (∀ y ∈ names, y.2 ≠ .cell) → (x, NameKind.free) ∈ names
  | [], _, h, _ => by rcases h with h | h <;> cases h
  | (n, k) :: r, x, h, hc => by
    rw [List.map_cons] at h
    dsimp only at h
    by_cases hk : (k == NameKind.free && env.scope.kind == .function && env.kindOf n == some .cell) = true
    · rw [if_pos hk] at h
      simp only [List.lookup_cons] at h
      cases hx : x == n with
      | true =>
        have e := eq_of_beq hx
        subst e
        have k' : k = .free := by
          rw [Bool.and_eq_true, Bool.and_eq_true] at hk
          simpa using hk.1.1
        subst k'
        exact List.mem_cons_self
      | false =>
        simp only [hx] at h
        exact List.mem_cons_of_mem _ (lookup_relabel_free h fun y hy => hc y (List.mem_cons_of_mem _ hy))
    · rw [if_neg hk] at h
      simp only [List.lookup_cons] at h
      cases hx : x == n with
      | true =>
        have e := eq_of_beq hx
        subst e
        simp only [hx] at h
        rcases h with h | h
        · exact absurd (Option.some.inj h) (hc (x, k) List.mem_cons_self)
        · have := Option.some.inj h
          subst this
          exact List.mem_cons_self
      | false =>
        simp only [hx] at h
        exact List.mem_cons_of_mem _ (lookup_relabel_free h fun y hy => hc y (List.mem_cons_of_mem _ hy))
theorem lookup_relabel_loc {env : Env} : ∀ {names : List (Str × NameKind)} {x : Str}, (names.map fun (n, k) => if (k == NameKind.free && env.scope.kind == .function && env.kindOf n == some .cell) then (n, NameKind.cell) else (n, k)).lookup x = some .local → (x, NameKind.local) ∈ names
  | [], _, h => by cases h
  | (n, k) :: r, x, h => by
    rw [List.map_cons] at h
    dsimp only at h
    by_cases hk : (k == NameKind.free && env.scope.kind == .function && env.kindOf n == some .cell) = true
    · rw [if_pos hk] at h
      simp only [List.lookup_cons] at h
      cases hx : x == n with
      | true => simp only [hx] at h; cases h
      | false =>
        simp only [hx] at h
        exact List.mem_cons_of_mem _ (lookup_relabel_loc h)
    · rw [if_neg hk] at h
      simp only [List.lookup_cons] at h
      cases hx : x == n with
      | true =>
        have e := eq_of_beq hx
        subst e
        simp only [hx] at h
        have := Option.some.inj h
        subst this
        exact List.mem_cons_self
      | false =>
        simp only [hx] at h
        exact List.mem_cons_of_mem _ (lookup_relabel_loc h)

section
variable {X : Cx} {pins : List (Addr × Obj)} {σ : St} {H : Hp} {s : Shared}
/-- an address that is nobody's: what may turn -/
structure Own (X : Cx) (pins : List (Addr × Obj)) (H : Hp) (C : Addr) : Prop where
  no : H C = none
  ne : C ≠ X.env.locals
  ab : X.s₀.heap.objs.size ≤ C
  ce : ∀ x c, X.env.cells.lookup x = some c → c ≠ C
  pi : ∀ p ∈ X.pn ++ pins, p.1 ≠ C
theorem Inv.own {C : Addr} {H' : Hp} (I : Inv X pins σ H s) (h : s.heap.objs.size ≤ C) (hn : H' C = none) : Own X pins H' C := by
  refine ⟨hn, Nat.ne_of_gt (Nat.lt_of_lt_of_le I.lt h), Nat.le_trans I.sz h, fun x c e z => ?_, fun p hp z => ?_⟩
  · obtain ⟨v, q⟩ := I.cell x c e
    exact absurd (Nat.lt_of_lt_of_le q.lt (by rw [z]; exact h)) (Nat.lt_irrefl _)
  · exact absurd (Nat.lt_of_lt_of_le (Heap.lt_size (I.pin p hp).1) (by rw [z]; exact h)) (Nat.lt_irrefl _)
theorem Inv.own_turn {C : Addr} {h' : Heap} (I : Inv X pins σ H s) (o : Own X pins H C) (hs : Heap.SameBut C s.heap h') : Inv X pins σ H { s with heap := h' } :=
  I.turned (t' := s.toks) (fun b ob hb e => (hs.2 b hb).trans e) o.no o.ne (.inr o.ab) o.ce o.pi
/-- an untracked list of ours is tracked from now on -/
theorem Inv.track {D : Addr} {ys : List V} {its : List Value} {n : Nat} (I : Inv X pins σ H s) (o : Own X pins H D) (e : s.heap.get? D = some { cls := .type "list", data := .seq its.toArray n }) (r : Vals ys its) (hz : ys.length ≤ sizeLine) :
    Inv X pins σ (upd H D (.lst ys)) s := by
  have nD : ∀ b u, H b = some u → b ≠ D := fun b u q z => by rw [z, o.no] at q; cases q
  have hok : HOk X.prog X.w (upd H D (.lst ys)) s.heap := fun b u q => by
    by_cases hb : b = D
    · subst hb
      rw [upd_same] at q
      cases q
      exact ⟨hz, its, n, r, e⟩
    · rw [upd_ne hb] at q
      exact (I.hok b u q).stay (fun _ _ _ z => z) (fun c z => by rw [upd_ne (nD c _ z)]; exact z) fun c xs z => by rw [upd_ne (nD c _ z)]; exact z
  have := I.step (H' := upd H D (.lst ys)) (h' := s.heap) (g' := s.gens) (t' := s.toks) (d' := s.drawn) (ch := [D]) (fun b hb => by
      have e' : b = D := by simpa using hb
      subst e'
      exact ⟨.inr o.ab, o.ne, o.ce, o.pi⟩) (fun b ob _ _ _ q _ => q) (fun b ob _ _ _ q _ => ⟨ob.slots, q⟩) (fun b ob hc q z => by rw [upd_ne (by simpa using hc)]; exact z) (fun b ob _ q => ⟨ob, q⟩)
    (fun b xs q => by rw [upd_ne (nD b _ q)]; exact q) (fun b ob u q => by rw [upd_ne (nD b _ q)]; exact q) (fun b ps q => ⟨#[], by rw [upd_ne (nD b _ q), q]; simp⟩) (fun m z => z) hok I.bare
  exact this
end
end L2
namespace L2
open PySem PySem.Spec PyProof.Rows
section
variable {prog : Program} {w : World} {A : Around} {R : Result → Shared → Prop} {s : Shared}
/-- the loop of a comprehension, the step ahead of the store told -/
theorem compLoop_go {elt target iter : Expr} {ifs : List Expr} {scope : Scope} {pos : Pos} {it acc : Value} {env : Env} (I : Nat → Shared → Prop)
    (turn : ∀ n s, I n s → ∀ E : Value → Shared → Prop, wpAny (model prog w) A (pyNext it) (fun r s₁ => match r with
      | none => R (.ok .next) s₁
      | some v => wpAny (model prog w) A (letOwnedTupleGo target it v) (fun _ s₁' => wpAny (model prog w) A (assign target env v) (fun _ s₂ =>
          wpAny (model prog w) A (forIn ifs true fun c r => if r = true then do let ok ← isTrue c env (eval c env); pure (ForInStep.yield ok) else pure (ForInStep.yield r)) (fun ok s₃ =>
            if ok = true then wpAny (model prog w) A (eval elt env) (fun x s₄ =>
              wpAny (model prog w) A (call (.builtin "list.append") [acc, x]) (fun _ s₅ => ∃ m, m < n ∧ I m s₅) E s₄) E s₃
            else ∃ m, m < n ∧ I m s₃) E s₂) E s₁') E s₁) E s)
    (n : Nat) (h : I n s) :
    codeAny (model prog w) A (.compLoop (.ListComp elt [⟨target, iter, ifs, 0⟩] scope pos) 0 it acc env) R s := by
  refine codeAny_loop rfl I (fun n s hI => ?_) n h
  show wpAny _ A ((compTurn (.ListComp elt [⟨target, iter, ifs, 0⟩] scope pos) 0 it acc env).onRaise (fun x => do noteFrame x env; theTreesLotGoes x)) _ _ s
  refine wpAny_noted ?_
  rw [compTurn_list]
  refine wpAny_bind (wpAny_standAt (wpAny_bind (wpAny_mono (turn n s hI _) (fun r s₁ h₁ => ?_) fun _ _ h' => h')))
  cases r with
  | none => exact wpAny_pure h₁
  | some v =>
    refine wpAny_bind (wpAny_mono h₁ (fun _ s₁' h₁' => ?_) fun _ _ h' => h')
    refine wpAny_bind (wpAny_mono h₁' (fun _ s₂ h₂ => wpAny_bind (wpAny_mono h₂ (fun ok s₃ h₃ => ?_) fun _ _ h' => h')) fun _ _ h' => h')
    cases ok with
    | false => exact wpAny_pure ⟨rfl, h₃⟩
    | true =>
      exact wpAny_bind (wpAny_bind (wpAny_mono h₃ (fun x s₄ h₄ => wpAny_bind (wpAny_mono h₄ (fun _ s₅ h₅ => wpAny_pure (wpAny_pure ⟨rfl, h₅⟩)) fun _ _ h' => h')) fun _ _ h' => h'))
end

/-- the tests of a comprehension, as one reading -/
def PTs (X : Cx) (ifs : List Expr) (t : TT) : Prop :=
  ∀ (pins : List (Addr × Obj)) (s : Shared) (σ : St) (H : Hp) (Q : Bool → Hp → Prop), Inv X pins σ H s → t σ H Q →
    wpAny (model X.prog X.w) X.A (forIn ifs true fun c r => if r = true then do let ok ← isTrue c X.env (eval c X.env); pure (ForInStep.yield ok) else pure (ForInStep.yield r)) (TP X pins σ Q) X.xe s
def tTrue : TT := fun _ H Q => Q true H
theorem pts_nil {X : Cx} : PTs X [] tTrue := fun _ _ _ H _ I h => wpAny_tests_nil ⟨H, I, h⟩
theorem pts_one {X : Cx} {c : Expr} {t : TT} (h : PT X c t) : PTs X [c] t := fun pins s σ H Q I q => wpAny_tests_one (h pins s σ H Q I q)

/-- the reading behind the iterator: W the invariant by the turn, a measure, the items so far and the heap -/
def RComp (σ : St) (n j : Nat) (tt : CA → TT) (te : CA → TE) (J : It) (H1 : Hp) (Q : List V → Hp → Prop) : Prop :=
  ∃ W : Nat → Nat → List V → Hp → Prop, (∃ m, W 0 m [] H1) ∧ ∀ i m ys H, W i m ys H → ys.length ≤ sizeLine ∧
    ((J.stop i H ∧ Q ys H) ∨ (J.go i H ∧ ∃ N : List V → Hp → Prop, (∀ ys' H', N ys' H' → ∃ m', m' < m ∧ W (i + 1) m' ys' H') ∧
      ∀ x H', J.yld i H x H' → ∀ a : CA, tt a ((padS n j σ).set j (some x)) H' fun b H2 => if b = true then te a ((padS n j σ).set j (some x)) H2 fun y H3 => N (ys ++ [y]) H3 else N ys H2))
def tComp (wi : TI) (n j : Nat) (tt : CA → TT) (te : CA → TE) : TE := fun σ H Q => wi σ H fun J H1 => RComp σ n j tt te J H1 fun ys H2 => ∀ p, H2 p = none → Q (.ref p) (upd H2 p (.lst ys))

section
variable {X : Cx} {pins : List (Addr × Obj)} {σ : St} {H : Hp} {s : Shared}
theorem comp_core {elt iter : Expr} {x : Str} {px pos : Pos} {ifs : List Expr} {scope : Scope} {N' : List Str} {j : Nat} {tt : CA → TT} {te : CA → TE} {it : Addr} {fp : List Addr} {tn : Nat → Heap → Prop} {J : It} {Q : List V → Hp → Prop}
    {RR : Value → Addr → Result → Shared → Prop} {E : Value → Shared → Prop}
    (S : CompSc X.N N' X.env.scope scope j x) (hc : X.calm = true)
    (ht : ∀ a : CA, PTs (cxComp X scope N' a) ifs (tt a)) (he : ∀ a : CA, PE (cxComp X scope N' a) elt (te a))
    (I : Inv X pins σ H s) (T : Turn X.prog X.w X.K (.Name x px) J fp it tn) (st : tn 0 s.heap) (f2 : ∀ b ∈ fp, FpOk X pins H b) (h : RComp σ N'.length j tt te J H Q)
    (hRR : ∀ (D C : Addr) (ys : List V) (H' : Hp) (s' : Shared) (m : Str → Option Value), s'.heap.Ns C m → Own X pins (upd H' D (.lst ys)) C → Inv X pins σ (upd H' D (.lst ys)) s' → H' D = none → Q ys H' → RR (.ref D) C (.ok .next) s') :
    wpAny (model X.prog X.w) X.A (newList []) (fun acc s₃ => wpAny (model X.prog X.w) X.A (newFunctionEnv scope X.env.globals (closOf X.env.cells scope.names []) [] X.env.qual none .none (some X.env)) (fun cenv s₄ =>
      codeAny (model X.prog X.w) X.A (.compStart (.ListComp elt [⟨.Name x px, iter, ifs, 0⟩] scope pos) 0 (.ref it) acc { cenv with scope := relabel scope X.env }) (RR acc cenv.locals) s₄) E s₃) E s := by
  refine wpAny_newObj_type (wpAny_newFunctionEnv S.cell (by intro y hy; simp at hy) (fun h₁ hns₁ hsb₁ => ?_) S.kind)
  dsimp only at hns₁ hsb₁ ⊢
  generalize hH2 : s.heap.push { cls := .type "list", dict := none, data := .seq ([] : List Value).toArray } = H2 at hns₁ hsb₁ ⊢
  have hC : H2.objs.size = s.heap.objs.size + 1 := by rw [← hH2, Heap.size_push]
  have hDC : s.heap.objs.size ≠ H2.objs.size := by rw [hC]; exact Nat.ne_of_lt (Nat.lt_succ_self _)
  have hCle : s.heap.objs.size ≤ H2.objs.size := by rw [hC]; exact Nat.le_succ _
  have below : ∀ b, b < s.heap.objs.size → b ≠ H2.objs.size ∧ b ≠ s.heap.objs.size := fun b hb => ⟨by rw [hC]; exact Nat.ne_of_lt (Nat.lt_succ_of_lt hb), Nat.ne_of_lt hb⟩
  have old : ∀ b o, s.heap.get? b = some o → h₁.get? b = some o := fun b o e => hsb₁.extBut b o (below b (Heap.lt_size e)).1 (Heap.get?_push_of_some _ (hH2 ▸ Heap.get?_push_of_some _ e))
  have hacc : h₁.get? s.heap.objs.size = some { cls := .type "list", data := .seq ([] : List Value).toArray } := hsb₁.extBut _ _ hDC (Heap.get?_push_of_some _ (hH2 ▸ Heap.get?_push_size _ rfl))
  have fplt : ∀ b ∈ fp, b < s.heap.objs.size := fun b hb => let ⟨_, e, _⟩ := T.obj 0 _ st b hb; Heap.lt_size e
  -- names
  have hcells : ∀ y ∈ scope.names, y.2 = .free → ∃ c, X.env.cells.lookup y.1 = some c := fun y hy e => I.ok.has y.1 (.inl (S.free y hy e))
  have sub : ∀ y c, (closOf X.env.cells scope.names []).lookup y = some c → X.env.cells.lookup y = some c := closOf_sub hcells (fun y c e => by cases e)
  -- the context
  let a : CA := ⟨s, H, H2.objs.size, fp⟩
  have ok : (cxComp X scope N' a).Ok := by
    refine ⟨I.ok.mod, S.kind, I.ok.glob, I.ok.blt, hCle, fun y z c e1 e2 => I.ok.inj y z c (sub y c e1) (sub z c e2), fun y hy => ?_, fun y c z => ?_, I.ok.hd, I.ok.frames, .inl rfl, fun b hb => ⟨(below b (fplt b hb)).1, fun y c e => (f2 b hb).2.2.2.2.1 y c (sub y c e)⟩, I.bs,
      Nat.le_trans I.ok.bsz I.sz, fun b o e hb => ?_, fun b hb z => ?_, I.stack, I.stkFree⟩
    · exact closOf_has (lookup_relabel_free hy S.cell)
    · cases z
    · rcases (f2 b hb).2.2.2.1 with z | z
      · exact I.ok.noex b o e z
      · exact absurd (Nat.lt_of_lt_of_le (Heap.lt_size (I.ok.bs b o e).1) z) (Nat.lt_irrefl _)
    · rcases List.mem_cons.mp (I.stkSub b z) with e | e
      · exact (f2 b hb).2.1 e
      · exact (f2 b hb).2.2.1 e
  -- the captured names, at any heap that keeps the cells
  have look : ∀ (h' : Heap) (m' : Str → Option Value), (∀ y c, X.env.cells.lookup y = some c → ∀ v, s.heap.IsCell c v → h'.IsCell c v) → ∀ (i : Nat) (y : Str) (v : V), N'[i]? = some y → (padS N'.length j σ)[i]? = some (some v) →
      Vis (relabel scope X.env) y → ∃ u, RelV v u ∧ Look (compEnvC scope (closOf X.env.cells scope.names []) H2.objs.size X.env) h' m' y u := by
    intro h' m' kc i y v e1 e2 e3
    obtain ⟨ne, e4⟩ := padS_get e2
    have e5 := S.sub i y ne e1
    have hy : (y, NameKind.free) ∈ scope.names := by
      rcases e3 with e3 | e3 | e3
      · rcases S.only _ (lookup_relabel_loc e3) rfl with z | z
        · exact absurd (nodup_ix S.nd e1 (by rw [S.at_]; exact congrArg some z.symm)) ne
        · exact absurd (List.mem_of_getElem? e1) z
      · exact lookup_relabel_free (.inl e3) S.cell
      · exact lookup_relabel_free (.inr e3) S.cell
    have kcell : X.env.scope.names.lookup y = some .cell := S.free _ hy rfl
    obtain ⟨m0, hn0, hl0⟩ := I.loc
    obtain ⟨u, r, l⟩ := hl0 i y v e5 e4 (.inr (.inl kcell))
    refine ⟨u, r, .inr ⟨?_, ?_⟩⟩
    · rcases e3 with e3 | e3 | e3
      · rcases S.only _ (lookup_relabel_loc e3) rfl with z | z
        · exact absurd (nodup_ix S.nd e1 (by rw [S.at_]; exact congrArg some z.symm)) ne
        · exact absurd (List.mem_of_getElem? e1) z
      · exact .inl e3
      · exact .inr e3
    · rcases l with ⟨k, _⟩ | ⟨k, c, e, z⟩
      · have k' : X.env.scope.names.lookup y = some .local := k
        rw [kcell] at k'; cases k'
      · obtain ⟨c', e'⟩ := closOf_has (cells := X.env.cells) (cs := []) hy
        have e'' := sub y c' e'
        rw [e] at e''
        cases e''
        exact ⟨c, e', kc y c e _ z⟩
  have cellOld : ∀ y c, X.env.cells.lookup y = some c → ∀ v, s.heap.IsCell c v → h₁.IsCell c v := fun y c _ v ⟨o, ho, hd⟩ => ⟨o, old c o ho, hd⟩
  have fr0 : ∀ b, s.heap.objs.size ≤ b → H b = none := fun b hb => I.hok.fresh hb
  have noPn : ∀ p, p ∉ (cxComp X scope N' a).pn ++ ([] : List (Addr × Obj)) := fun p hp => by simp at hp
  -- the entry
  have I0 : Inv (cxComp X scope N' a) [] (padS N'.length j σ) H { s with heap := h₁, toks := s.toks + ([] : List (Str × Value)).length } := by
    refine ⟨ok, rfl, I.bare, Un.kept old, ⟨_, hns₁, look h₁ _ cellOld⟩, fun y c e => ?_, fr0 _ hCle, fun y c e => I.freeC y c (sub y c e), fun p hp => absurd hp (noPn p), I.hok.kept old, padS_len (by rw [I.len]; exact S.len)⟩
    obtain ⟨v, z⟩ := I.cell y c (sub y c e)
    exact ⟨v, cellOld y c (sub y c e) v z⟩
  obtain ⟨W, ⟨m0, w0⟩, turn⟩ := h
  have loop : ∀ s₃ : Shared, s₃ = { s with heap := h₁, toks := s.toks + ([] : List (Str × Value)).length } →
      codeAny (model X.prog X.w) X.A (.compLoop (.ListComp elt [⟨.Name x px, iter, ifs, 0⟩] scope pos) 0 (.ref it) (.ref s.heap.objs.size) (compEnvC scope (closOf X.env.cells scope.names []) H2.objs.size X.env)) (RR (.ref s.heap.objs.size) H2.objs.size) s₃ := by
    rintro s₃ rfl
    refine compLoop_go (fun k s' => ∃ (i : Nat) (ys : List V) (its : List Value) (n : Nat) (H' : Hp), Inv (cxComp X scope N' a) [] (padS N'.length j σ) H' s' ∧ s'.heap.get? s.heap.objs.size = some { cls := .type "list", data := .seq its.toArray n } ∧ Vals ys its ∧
      H' s.heap.objs.size = none ∧ tn i s'.heap ∧ (∀ b ∈ fp, H' b = none) ∧ W i k ys H') ?_ m0
      ⟨0, [], [], 0, H, I0, hacc, .nil, fr0 _ (Nat.le_refl _), T.keep _ _ _ st fun b hb o e => old b o e, fun b hb => (f2 b hb).1, w0⟩
    rintro k s' ⟨i, ys, its, n, H', I', hD, rv, nD', st', fr', w'⟩ E'
    obtain ⟨hz, hw⟩ := turn i k ys H' w'
    have ownD : Own (cxComp X scope N' a) [] H' s.heap.objs.size := ⟨nD', hDC, Nat.le_refl _, fun y c e z => by
      obtain ⟨v, q⟩ := I.cell y c (sub y c e)
      exact absurd q.lt (by rw [z]; exact Nat.lt_irrefl _), fun p hp => absurd hp (noPn p)⟩
    have fpok : ∀ (pl : List (Addr × Obj)) (H'' : Hp), (∀ b ∈ fp, H'' b = none) → (∀ p ∈ pl, p.1 ∉ fp) → ∀ b ∈ fp, FpOk (cxComp X scope N' a) pl H'' b := fun pl H'' hn hpl b hb =>
      ⟨hn b hb, (below b (fplt b hb)).1, fun z => by
        rcases List.mem_cons.mp (I.stkSub b z) with e | e
        · exact (f2 b hb).2.1 e
        · exact (f2 b hb).2.2.1 e, .inl hb, fun y c e => (f2 b hb).2.2.2.2.1 y c (sub y c e), fun p hp z => by
        have hp' : p ∈ pl := by simpa using hp
        exact hpl p hp' (z ▸ hb)⟩
    have nDfp : s.heap.objs.size ∉ fp := fun z => absurd (fplt _ z) (Nat.lt_irrefl _)
    -- D is pinned through a turn
    have pinD : ∀ p ∈ ([(s.heap.objs.size, { cls := .type "list", data := .seq its.toArray n })] : List (Addr × Obj)), s'.heap.get? p.1 = some p.2 ∧ H' p.1 = none ∧ p.1 ≠ (cxComp X scope N' a).env.locals ∧ p.1 ∉ (cxComp X scope N' a).fs ∧ ∀ v, p.2.data ≠ .cell v := fun p hp => by
      have e : p = (s.heap.objs.size, { cls := .type "list", data := .seq its.toArray n }) := by simpa using hp
      subst e
      refine ⟨hD, nD', hDC, fun z => ?_, fun v z => by cases z⟩
      rcases List.mem_cons.mp (I.stkSub _ z) with e | e
      · exact absurd I.lt (by rw [← e]; exact Nat.lt_irrefl _)
      · exact I.nofs (Nat.le_refl _) e
    have Ip := I'.pins_of pinD
    have hpl : ∀ p ∈ ([(s.heap.objs.size, { cls := .type "list", data := .seq its.toArray n })] : List (Addr × Obj)), p.1 ∉ fp := fun p hp => by
      have e : p = (s.heap.objs.size, { cls := .type "list", data := .seq its.toArray n }) := by simpa using hp
      subst e
      exact nDfp
    rcases hw with ⟨stop, q⟩ | ⟨go, N, hN, step⟩
    · refine thn (T.done (cxComp X scope N' a) rfl rfl rfl hc i _ s' _ H' E' Ip (fpok _ H' fr' hpl) st' stop) fun r s4 ⟨hr, I4⟩ => ?_
      subst hr
      have hD4 := (I4.pin (s.heap.objs.size, { cls := .type "list", data := .seq its.toArray n }) (by simp)).1
      have J4 : Inv X pins σ H' s4 := I.call' (ch := fp) I4.os I4.base I4.hok I4.bare fun b hb => ⟨(f2 b hb).2.2.2.1, (f2 b hb).2.1, (f2 b hb).2.2.2.2.1, (f2 b hb).2.2.2.2.2⟩
      obtain ⟨m4, hn4, _⟩ := I4.loc
      have hC4 : H' H2.objs.size = none := I4.free
      exact hRR _ _ ys H' s4 m4 hn4 (I.own hCle (by rw [upd_ne (Ne.symm hDC)]; exact hC4)) (J4.track (I.own (Nat.le_refl _) nD') hD4 rv hz) nD' q
    · refine thn (T.item (cxComp X scope N' a) rfl rfl rfl hc i _ s' _ H' E' Ip (fpok _ H' fr' hpl) st' go) fun r s5 ⟨u, hr, h5⟩ => ?_
      subst hr
      refine thn h5 fun _ s6 ⟨xv, H6, I6, r6, y6, st6, fr6⟩ => ?_
      have I6' := I6.pinned (fpok _ H6 fr6 hpl) (T.obj _ _ st6)
      refine wpAny_assign_Name (store_ok I6' S.nd S.at_ (.inl (lookup_relabel_local S.loc)) r6 (fun s7 I7 => ?_) (.inr (lookup_relabel_local S.loc)))
      have wk : ∀ (i : Nat) v, (padS N'.length j σ)[i]? = some (some v) → ((padS N'.length j σ).set j (some xv))[i]? = some (some v) := fun i v e => by
        rw [List.getElem?_set_ne (Ne.symm (padS_get e).1)]; exact e
      refine wpAny_mono (ht a _ s7 _ H6 _ I7 (step xv H6 y6 a)) (fun ok s8 ⟨H8, I8, q8⟩ => ?_) fun _ _ z => z.elim
      have tnk : ∀ {H9 : Hp} {s9 : Shared} {σ9 : St}, Inv (cxComp X scope N' a) ([(s.heap.objs.size, { cls := .type "list", data := .seq its.toArray n })] ++ pinsAt fp s6.heap) σ9 H9 s9 → tn (i + 1) s9.heap ∧ (∀ b ∈ fp, H9 b = none) ∧ s9.heap.get? s.heap.objs.size = some { cls := .type "list", data := .seq its.toArray n } ∧ H9 s.heap.objs.size = none := fun {H9 s9 σ9} I9 => by
        refine ⟨T.keep _ _ _ st6 fun b hb o e => (I9.pin (b, o) (List.mem_append_right _ (List.mem_append_right _ (mem_pinsAt hb e)))).1, fun b hb => ?_, ?_⟩
        · obtain ⟨o, e, d⟩ := T.obj _ _ st6 b hb
          exact (I9.pin (b, o) (List.mem_append_right _ (List.mem_append_right _ (mem_pinsAt hb e)))).2.1
        · have z := I9.pin (s.heap.objs.size, { cls := .type "list", data := .seq its.toArray n }) (List.mem_append_right _ (List.mem_append_left _ (by simp)))
          exact ⟨z.1, z.2.1⟩
      cases ok with
      | false =>
        obtain ⟨m', hm, w8⟩ : ∃ m', m' < k ∧ W (i + 1) m' ys H8 := hN _ _ (by simpa using q8)
        obtain ⟨t1, t2, t3, t4⟩ := tnk I8
        exact ⟨m', hm, i + 1, ys, its, n, H8, (I8.pins_of (pins' := []) fun p hp => nomatch hp).weak (by rw [List.length_set]) wk, t3, rv, t4, t1, t2, w8⟩
      | true =>
        have q8' := q8
        simp only [if_true] at q8'
        refine wpAny_mono (he a _ s8 _ H8 _ I8 q8') (fun u9 s9 ⟨v9, H9, I9, r9, q9⟩ => ?_) fun _ _ z => z.elim
        obtain ⟨m', hm, w9⟩ := hN _ _ q9
        obtain ⟨t1, t2, t3, t4⟩ := tnk I9
        have hl := rv.length
        refine append_at (hsz := by show its.toArray.size ≤ sizeLine; rw [List.size_toArray, ← hl]; exact hz) t3 fun h' hs' hD' => ?_
        have J9 := ((I9.pins_of (pins' := []) fun p hp => nomatch hp).weak (σ' := padS N'.length j σ) (by rw [List.length_set]) wk).own_turn (C := s.heap.objs.size) ⟨t4, ownD.ne, ownD.ab, ownD.ce, ownD.pi⟩ hs'
        refine ⟨m', hm, i + 1, ys ++ [v9], its ++ [u9], n + 1, H9, J9, ?_, Vals.append rv (.cons r9 .nil), t4, T.keep _ _ _ t1 fun b hb o e => (hs'.2 b fun z => nDfp (z ▸ hb)).trans e, t2, w9⟩
        rw [List.push_toArray] at hD'
        exact hD'
  exact codeAny_compStart_list (loop _ rfl) (T.self _ 0 _ _ _ (T.keep _ _ _ st fun b hb o e => old b o e) (loop _ rfl))

/-- [elt for x in iter], [elt for x in iter if c] -/
theorem pe_comp {elt iter : Expr} {x : Str} {px pos : Pos} {ifs : List Expr} {scope : Scope} {N' : List Str} {j : Nat} {wi : TI} {tt : CA → TT} {te : CA → TE} {osc : Scope} {N : List Str}
    (S : CompSc N N' osc scope j x) (hc : X.calm = true) (hi : PI X (.Name x px) iter wi) (ht : ∀ a : CA, PTs (cxComp X scope N' a) ifs (tt a)) (he : ∀ a : CA, PE (cxComp X scope N' a) elt (te a))
    (ho : X.env.scope = osc := by rfl) (hN : X.N = N := by rfl) (hs : ∀ x, foldedSetIterable iter X.env x = pure x := by intro _; rfl) : PE X (.ListComp elt [⟨.Name x px, iter, ifs, 0⟩] scope pos) (tComp wi N'.length j tt te) := by
  subst ho hN
  intro pins s σ H Q I h
  rw [eval_ListComp]
  have hcells : ∀ y ∈ scope.names, y.2 = .free → ∃ c, X.env.cells.lookup y.1 = some c := fun y hy e => I.ok.has y.1 (.inl (S.free y hy e))
  refine wpAny_comprehension_free (use := none) rfl hs (closureFor_eq hcells) S.kind S.names (wpAny_mono (hi pins s σ H _ I h) (fun xv s₁ h₁ => wpAny_mono h₁ (fun itv s₂ h₂ => ?_) fun _ _ e => e) fun _ _ e => e)
  obtain ⟨it, fp, tn, J, H2, rfl, I2, T, st2, f2, q2⟩ := h₂
  refine comp_core (RR := fun acc C => compPost (model X.prog X.w) X.A X.xe none (EP X pins σ Q) acc C) S hc ht he I2 T st2 f2 q2 ?_
  intro D C ys H' s' m hn own I' hD q
  refine ⟨m, hn, fun h' hs' => ⟨.ref D, _, I'.own_turn own hs', rfl, q D hD⟩⟩

/-- y = [elt for x in iter] on one row: the name is stored ahead of the block's end -/
theorem ps_setC {elt iter : Expr} {x y : Str} {px pos py spos : Pos} {ifs : List Expr} {scope : Scope} {N' : List Str} {j i : Nat} {wi : TI} {tt : CA → TT} {te : CA → TE} {osc : Scope} {N : List Str}
    (nd : X.N.Nodup) (hi' : X.N[i]? = some y) (hy : Loc X.env.scope y)
    (S : CompSc N N' osc scope j x) (hc : X.calm = true) (hi : PI X (.Name x px) iter wi) (ht : ∀ a : CA, PTs (cxComp X scope N' a) ifs (tt a)) (he : ∀ a : CA, PE (cxComp X scope N' a) elt (te a))
    (hsw : swapsWith (.ListComp elt [⟨.Name x px, iter, ifs, 0⟩] scope pos) (some (.Name y py)) spos.line X.env = pure true := by rfl)
    (hf : X.fn y = true ∨ X.env.scope.names.lookup y = some .local := by first | exact .inl rfl | exact .inr rfl | assumption)
    (ho : X.env.scope = osc := by rfl) (hN : X.N = N := by rfl) (hs : ∀ x, foldedSetIterable iter X.env x = pure x := by intro _; rfl) :
    PS X (.Assign [.Name y py] (.ListComp elt [⟨.Name x px, iter, ifs, 0⟩] scope pos) spos) (fun D σ H => tComp wi N'.length j tt te σ H fun v H1 => D.nx (σ.set i (some v)) H1) := by
  subst ho hN
  intro pins s σ H D I h
  have hcells : ∀ y ∈ scope.names, y.2 = .free → ∃ c, X.env.cells.lookup y.1 = some c := fun y hy e => I.ok.has y.1 (.inl (S.free y hy e))
  rw [exec_Assign_Name_used _ _ _ _ hsw]
  refine wpAny_bind (wpAny_standAt (wpAny_bind ?_))
  show wpAny _ X.A (do let _ ← comprehension (.ListComp elt [⟨.Name x px, iter, ifs, 0⟩] scope pos) scope X.env _ (newList []) false (eval iter X.env) (some (assign (.Name y py) X.env))) _ _ s
  refine wpAny_bind (wpAny_mono (wpAny_comprehension_free (use := some (assign (.Name y py) X.env)) (Q := fun _ s' => SP X pins D .next s') rfl hs (closureFor_eq hcells) S.kind S.names
    (wpAny_mono (hi pins s σ H _ I h) (fun xv s₁ h₁ => wpAny_mono h₁ (fun itv s₂ h₂ => ?_) fun _ _ e => e) fun _ _ e => e)) (fun _ s' hq => wpAny_pure (wpAny_pure hq)) fun _ _ e => e)
  obtain ⟨it, fp, tn, J, H2, rfl, I2, T, st2, f2, q2⟩ := h₂
  refine comp_core (RR := fun acc C => compPost (model X.prog X.w) X.A X.xe (some (assign (.Name y py) X.env)) (fun _ s' => SP X pins D .next s') acc C) S hc ht he I2 T st2 f2 q2 ?_
  intro Da C ys H' s' m hn own I' hD q
  show wpAny _ X.A (assign (.Name y py) X.env (.ref Da)) _ _ _
  refine wpAny_assign_Name (store_ok2 (v := V.ref Da) I' nd hi' hy rfl (fun s2 I2' hsb => ?_) hf)
  obtain ⟨b, hs2, hb⟩ := hsb
  have hCb : C ≠ b := by
    rcases hb with rfl | hb
    · exact own.ne
    · exact fun z => own.ce _ _ hb z.symm
  refine ⟨m, hn.sameBut hs2 hCb, fun h' hs' => ⟨_, _, I2'.own_turn own hs', q Da hD⟩⟩
end
end L2
namespace L2
open PySem PySem.Spec PyProof.Rows
/-- a comprehension over a range -/
theorem comp_range {lo : Int} {n nn j : Nat} {σ : St} {tt : CA → TT} {te : CA → TE} {H1 : Hp} {Q : List V → Hp → Prop} (Pv : Nat → List V → Hp → Prop) (hz : n < sizeLine) (h0 : Pv 0 [] H1) (hl : ∀ i ys H, i ≤ n → Pv i ys H → ys.length ≤ i)
    (hs : ∀ i ys H, i < n → Pv i ys H → ∀ a : CA, tt a ((padS nn j σ).set j (some (.int (lo + i)))) H fun b H2 => if b = true then te a ((padS nn j σ).set j (some (.int (lo + i)))) H2 fun y H3 => Pv (i + 1) (ys ++ [y]) H3 else Pv (i + 1) ys H2)
    (hd : ∀ ys H, Pv n ys H → Q ys H) : RComp σ nn j tt te (Itr lo n) H1 Q := by
  refine ⟨fun i m ys H => m = n - i ∧ i ≤ n ∧ Pv i ys H, ⟨n, by simp, Nat.zero_le _, h0⟩, ?_⟩
  rintro i m ys H ⟨rfl, hi, p⟩
  have hy := hl i ys H hi p
  refine ⟨by omega, ?_⟩
  by_cases hlt : i < n
  · refine .inr ⟨hlt, Pv (i + 1), fun ys' H' p' => ⟨n - (i + 1), by omega, rfl, hlt, p'⟩, fun x H' y => ?_⟩
    obtain ⟨e, e2⟩ := y
    subst e e2
    exact hs i ys _ hlt p
  · have e : i = n := by omega
    subst e
    exact .inl ⟨Nat.le_refl _, hd ys H p⟩
/-- .. over a list that stays as it is -/
theorem comp_list {K : PySem.W.Frag} {a0 : Addr} {xs : List V} {nn j : Nat} {σ : St} {tt : CA → TT} {te : CA → TE} {H1 : Hp} {Q : List V → Hp → Prop} (Pv : Nat → List V → Hp → Prop) (hz : xs.length < sizeLine) (h0 : Pv 0 [] H1)
    (hl : ∀ i ys H, i ≤ xs.length → Pv i ys H → ys.length ≤ i ∧ SqL K H a0 xs)
    (hs : ∀ i x ys H, xs[i]? = some x → Pv i ys H → ∀ a : CA, tt a ((padS nn j σ).set j (some x)) H fun b H2 => if b = true then te a ((padS nn j σ).set j (some x)) H2 fun y H3 => Pv (i + 1) (ys ++ [y]) H3 else Pv (i + 1) ys H2)
    (hd : ∀ ys H, Pv xs.length ys H → Q ys H) : RComp σ nn j tt te (Itl K a0) H1 Q := by
  refine ⟨fun i m ys H => m = xs.length - i ∧ i ≤ xs.length ∧ Pv i ys H, ⟨xs.length, by simp, Nat.zero_le _, h0⟩, ?_⟩
  rintro i m ys H ⟨rfl, hi, p⟩
  obtain ⟨hy, q⟩ := hl i ys H hi p
  refine ⟨by omega, ?_⟩
  by_cases hlt : i < xs.length
  · refine .inr ⟨⟨xs, xs[i], q, by simp [hlt]⟩, Pv (i + 1), fun ys' H' p' => ⟨xs.length - (i + 1), by omega, rfl, hlt, p'⟩, fun x H' y => ?_⟩
    obtain ⟨e, y⟩ := y
    subst e
    exact hs i x ys _ (y xs q) p
  · have e : i = xs.length := by omega
    subst e
    exact .inl ⟨⟨xs, q, Nat.le_refl _⟩, hd ys H p⟩
end L2
/-! Own rules over the hand layer: built-ins, comparisons of data. -/
namespace L2
open PySem PySem.Spec PyProof.Rows
section
variable {X : Cx}
/-- // by any positive number of at most 300 bits -/
def CDivB (_ j : Int) : Prop := 0 < j ∧ j < 100000000000000000000000000000000000000000000000000000000000000
theorem op_fdivB : OpR X (binaryOp .FloorDiv) (rI CDivB fun i j => .int (i / j)) := opI fun i j _ _ _ _ _ hc q => by
  have h1 : (0 : Int) < j := hc.1
  have h2 : j < 2 ^ 250 := Int.lt_trans hc.2 (by decide)
  refine floordiv_int (by omega) (by rw [Int.fdiv_eq_ediv_of_nonneg i (by omega)]; exact q) (.inl (PyProof.noPylong_of_log2 ?_))
  have h3 : j.natAbs < 2 ^ 250 := by
    have : ((j.natAbs : Nat) : Int) < ((2 ^ 250 : Nat) : Int) := by
      rw [Int.natAbs_of_nonneg (Int.le_of_lt h1)]
      exact h2
    exact Int.ofNat_lt.mp this
  have h4 : j.natAbs ≠ 0 := by omega
  exact Nat.lt_trans ((Nat.log2_lt h4).mpr h3) (by decide)
/-- sum(xs) of a list of ints -/
theorem call_sum (hc : X.calm = true) : CallR X (.builtin "sum") (fun xs H Q => ∃ (p : Addr) (ns : List Int), xs = [.ref p] ∧ SqL X.K H p (ns.map V.int) ∧ Q (.int ns.sum) H) := by
  intro pins s σ H xs us Q I r h
  obtain ⟨p, ns, rfl, hq, q⟩ := h
  obtain ⟨u, rfl, rx⟩ := vals1 r
  cases rx
  obtain ⟨its, rv, pl, hz⟩ := I.list hq
  have hi := intsAre_of rv
  obtain ⟨xs, hx⟩ := hi.allInts.items
  have hl' : s.heap.IsList p (intItems xs) := hx ▸ pl.isList
  refine sum_intListG (I.ok.hd hc) hl' fun h' tk t' hk => ?_
  have e1 : ns = xs.toList.map (·.1) := by
    rw [← nums_intItems, ← hx]
    exact (show numsOf its.toArray.toList = ns from hi.numsOf).symm
  have e2 : preSum (numAt xs) xs.size = ns.sum := by
    rw [preSum_eq, List.take_of_length_le (by simp), e1]
  rw [e2]
  exact ⟨.int _, H, I.kept (t' := tk) hk, ⟨t', rfl⟩, q⟩
/-- isinstance(x, c) -/
theorem call_isinst : CallR X (.builtin "isinstance") (fun xs H Q => ∃ x cv c t b, xs = [x, cv] ∧ RelV cv c ∧ TyOf X.K H x t ∧ PySem.W.kitOne X.K t c = some b ∧ Q (.bl b) H) := by
  intro pins s σ H xs us Q I r h
  obtain ⟨x, cv, c, t, b, rfl, rc, ty, k, q⟩ := h
  obtain ⟨u, w', rfl, r1, r2⟩ := vals2 r
  have e : w' = c := by
    cases cv with
    | non => exact r2.trans rc.symm
    | bl y => exact r2.trans rc.symm
    | ref y => exact r2.trans rc.symm
    | ty y => exact r2.trans rc.symm
    | int y =>
      obtain ⟨t1, rfl⟩ := rc
      exfalso
      unfold PySem.W.kitOne PySem.W.kitCls at k
      cases ty <;> simp at k
    | str y =>
      obtain ⟨t1, rfl⟩ := rc
      exfalso
      unfold PySem.W.kitOne PySem.W.kitCls at k
      cases ty <;> simp at k
    | byt y =>
      obtain ⟨t1, rfl⟩ := rc
      exfalso
      unfold PySem.W.kitOne PySem.W.kitCls at k
      cases ty <;> simp at k
    | flt y =>
      obtain ⟨t1, rfl⟩ := rc
      exfalso
      unfold PySem.W.kitOne PySem.W.kitCls at k
      cases ty <;> simp at k
  subst e
  exact isinst_ok I r1 ty k fun tk => ⟨.bl b, H, I.tok tk, rfl, q⟩
end

/-! ### data -/
mutual
inductive DatV (K : PySem.W.Frag) (H : Hp) : V → PyData → Prop
  | non : DatV K H .non .none
  | bl (b) : DatV K H (.bl b) (.bool b)
  | int (i) : DatV K H (.int i) (.int i)
  | str (x) : DatV K H (.str x) (.str x)
  | lst {a xs ds} : SqL K H a xs → DatVs K H xs ds → DatV K H (.ref a) (.list ds)
  | tup {a xs ds} : SqT K H a xs → DatVs K H xs ds → DatV K H (.ref a) (.tuple ds)
inductive DatVs (K : PySem.W.Frag) (H : Hp) : List V → List PyData → Prop
  | nil : DatVs K H [] []
  | cons {x xs d ds} : DatV K H x d → DatVs K H xs ds → DatVs K H (x :: xs) (d :: ds)
end
section
variable {X : Cx} {pins : List (Addr × Obj)} {σ : St} {H : Hp} {s : Shared}
mutual
theorem DatV.reads (I : Inv X pins σ H s) : ∀ {x : V} {d : PyData} {u : Value}, DatV X.K H x d → RelV x u → ∃ as, Reads s.heap u d as
  | _, _, _, .non, r => by cases r; exact ⟨_, .none⟩
  | _, _, _, .bl b, r => by cases r; exact ⟨_, .bool b⟩
  | _, _, _, .int i, r => by obtain ⟨t, rfl⟩ := r; exact ⟨_, .int i t⟩
  | _, _, _, .str x, r => by obtain ⟨t, rfl⟩ := r; exact ⟨_, .str x t⟩
  | _, _, _, .lst hq hs, r => by
    cases r
    obtain ⟨its, rv, pl, hz⟩ := I.list hq
    obtain ⟨as, ra⟩ := DatVs.reads I hs rv
    obtain ⟨o, e, c, n, d⟩ := pl.isList
    exact ⟨_, .list e c d (by simpa using ra)⟩
  | _, _, _, .tup hq hs, r => by
    cases r
    obtain ⟨its, rv, pl, hz⟩ := I.tuple hq
    obtain ⟨as, ra⟩ := DatVs.reads I hs rv
    obtain ⟨o, e, c, n, d⟩ := pl
    exact ⟨_, .tuple e c d (by simpa using ra)⟩
theorem DatVs.reads (I : Inv X pins σ H s) : ∀ {xs : List V} {ds : List PyData} {us : List Value}, DatVs X.K H xs ds → Vals xs us → ∃ as, ReadsAll s.heap us ds as
  | _, _, _, .nil, .nil => ⟨_, .nil⟩
  | _, _, _, .cons h t, .cons r rs => by
    obtain ⟨as, ra⟩ := DatV.reads I h r
    obtain ⟨bs, rb⟩ := DatVs.reads I t rs
    exact ⟨_, .cons ra rb⟩
end
end
section
variable {X : Cx}
/-- two things of plain data compared -/
def rEqD (K : PySem.W.Frag) (neg : Bool) : R2 := fun x y H Q => ∃ da db, DatV K H x da ∧ DatV K H y db ∧ da.canLay0 = true ∧ db.canLay0 = true ∧ min da.depth db.depth ≤ 64 ∧ Q (.bl (if neg then !PyData.eqv da db else PyData.eqv da db)) H
theorem op_eqD (hu : X.A.units + 64 < cLine) : OpR X (compareOp .Eq) (rEqD X.K false) := by
  intro pins s σ H x y v u Q I rx ry h
  obtain ⟨da, db, d1, d2, c1, c2, hd, q⟩ := h
  obtain ⟨as, ra⟩ := d1.reads I rx
  obtain ⟨bs, rb⟩ := d2.reads I ry
  exact SeqAt.compareEq_reads ra rb c1 c2 (by omega) ⟨.bl _, H, I, rfl, q⟩
theorem op_neD (hu : X.A.units + 64 < cLine) : OpR X (compareOp .NotEq) (rEqD X.K true) := by
  intro pins s σ H x y v u Q I rx ry h
  obtain ⟨da, db, d1, d2, c1, c2, hd, q⟩ := h
  obtain ⟨as, ra⟩ := d1.reads I rx
  obtain ⟨bs, rb⟩ := d2.reads I ry
  exact SeqAt.compareNe_reads ra rb c1 c2 (by omega) ⟨.bl _, H, I, rfl, q⟩
end
theorem datVs_ints {K : PySem.W.Frag} {H : Hp} : ∀ ns : List Int, DatVs K H (ns.map V.int) (ns.map PyData.int)
  | [] => .nil
  | n :: ns => .cons (.int n) (datVs_ints ns)
theorem lay_ints : ∀ ns : List Int, PyData.canLayAll0 (ns.map PyData.int) = true
  | [] => rfl
  | n :: ns => by
    show (PyData.canLay0 (.int n) && PyData.canLayAll0 (ns.map PyData.int)) = true
    rw [lay_ints ns]; rfl
theorem depth_ints : ∀ ns : List Int, PyData.depthAll (ns.map PyData.int) = 0
  | [] => rfl
  | n :: ns => by
    show max (PyData.depth (.int n)) (PyData.depthAll (ns.map PyData.int)) = 0
    rw [depth_ints ns]; rfl
theorem eqv_ints : ∀ ns ms : List Int, PyData.eqvAll (ns.map PyData.int) (ms.map PyData.int) = decide (ns = ms)
  | [], [] => rfl
  | [], _ :: _ => rfl
  | _ :: _, [] => rfl
  | n :: ns, m :: ms => by
    rw [List.map_cons, List.map_cons, PyData.eqvAll, eqv_ints ns ms, PyData.eqv]
    by_cases h : n = m
    · subst h; simp
    · simp [h]
end L2
namespace L2
open PySem PySem.Spec PyProof.Rows
section
variable {X : Cx}
/-- xs[i] ahead of xs[i] += .. -/
theorem get_list : PGet X (fun o i H Q => ∃ p xs j v, o = .ref p ∧ i = .int j ∧ 0 ≤ j ∧ SqL X.K H p xs ∧ atI xs j = some v ∧ Q v H) := by
  intro pins s σ H o i ov iv Q I r1 r2 h
  obtain ⟨p, xs, j, v, rfl, rfl, h0, hq, he, q⟩ := h
  cases r1
  obtain ⟨t, rfl⟩ := r2
  obtain ⟨its, r, pl, hz⟩ := I.list hq
  obtain ⟨k, h1, h2, h3, h4, h5⟩ := atI_get he
  obtain ⟨w, ew, rw'⟩ := r.get h2
  have hl := r.length
  have hn := line63
  have hj : j.toNat = k := by
    rw [seqIndex_of h0 h5] at h1
    exact Option.some.inj h1
  exact wpAny_getItem_list pl.isList h0 (by omega) (by rw [hj]; simpa using ew) ⟨v, H, I, rw', q⟩
/-- a statement, with a word of what holds behind it -/
theorem ps_mid {st : Stmt} {t : TS} (h : PS X st t) : PS X st (fun D σ H => ∃ M : St → Hp → Prop, t { D with nx := M } σ H ∧ ∀ σ' H', M σ' H' → D.nx σ' H') := by
  intro pins s σ H D I q
  obtain ⟨M, q1, q2⟩ := q
  refine thn (h pins s σ H _ I q1) fun f s' z => ?_
  cases f with
  | next => obtain ⟨σ', H', I', m⟩ := z; exact ⟨σ', H', I', q2 _ _ m⟩
  | brk => exact z
  | cont => exact z
  | ret v => exact z
end
end L2
namespace L2
open PySem PySem.Spec PyProof.Rows
theorem bt_list : bootBuiltins "list" = some (.type "list") := by decide +kernel
theorem bt_abs : bootBuiltins "abs" = some (.builtin "abs") := by decide +kernel
theorem bt_min : bootBuiltins "min" = some (.builtin "min") := by decide +kernel
theorem bt_max : bootBuiltins "max" = some (.builtin "max") := by decide +kernel
theorem bt_isinstance : bootBuiltins "isinstance" = some (.builtin "isinstance") := by decide +kernel
theorem bt_int : bootBuiltins "int" = some (.type "int") := by decide +kernel
theorem bt_bool : bootBuiltins "bool" = some (.type "bool") := by decide +kernel
theorem bt_sum : bootBuiltins "sum" = some (.builtin "sum") := by decide +kernel
theorem bt_tuple : bootBuiltins "tuple" = some (.type "tuple") := by decide +kernel
theorem bt_len : bootBuiltins "len" = some (.builtin "len") := by decide +kernel
theorem bt_enumerate : bootBuiltins "enumerate" = some (.type "enumerate") := by decide +kernel
theorem tTrue_in {σ : St} {H : Hp} {A B : Hp → Prop} (h : A H) : tTrue σ H (fun b H2 => if b = true then A H2 else B H2) := by
  show (if true = true then A H else B H)
  rw [if_pos rfl]
  exact h
end L2
namespace L2
open PySem PySem.Spec PyProof.Rows
section
variable {es : List Expr} {env : Env}
theorem se_Constant {c j p} : starEach (.Constant c j p :: es) env = (false, eval (.Constant c j p) env) :: starEach es env := by rfl
theorem se_Name {c p} : starEach (.Name c p :: es) env = (false, eval (.Name c p) env) :: starEach es env := by rfl
theorem se_BinOp {a o b p} : starEach (.BinOp a o b p :: es) env = (false, eval (.BinOp a o b p) env) :: starEach es env := by rfl
theorem se_UnaryOp {o b p} : starEach (.UnaryOp o b p :: es) env = (false, eval (.UnaryOp o b p) env) :: starEach es env := by rfl
theorem se_Compare {a o b p} : starEach (.Compare a o b p :: es) env = (false, eval (.Compare a o b p) env) :: starEach es env := by rfl
theorem se_Call {a o b p} : starEach (.Call a o b p :: es) env = (false, eval (.Call a o b p) env) :: starEach es env := by rfl
theorem se_Subscript {a o p} : starEach (.Subscript a o p :: es) env = (false, eval (.Subscript a o p) env) :: starEach es env := by rfl
theorem se_Tuple {a k p} : starEach (.Tuple a k p :: es) env = (false, eval (.Tuple a k p) env) :: starEach es env := by rfl
theorem se_ListComp {a b c p} : starEach (.ListComp a b c p :: es) env = (false, eval (.ListComp a b c p) env) :: starEach es env := by rfl
theorem np_nil {pos : Pos} : (backTo pos (starEach [] env)).any (·.1) = false := by rfl
theorem np_cons {pos : Pos} {e : Expr} (hs : starEach (e :: es) env = (false, eval e env) :: starEach es env) (h : (backTo pos (starEach es env)).any (·.1) = false) : (backTo pos (starEach (e :: es) env)).any (·.1) = false := by
  rw [hs]
  exact h
end
end L2
/-! Own rules over the hand layer: three names at once, range as a value. -/
namespace L2
open PySem PySem.Spec PyProof.Rows
section
variable {X : Cx} {pos : Pos}
/-- a, b, c = x, y, z with plain local names -/
def tPar3 (i j k : Nat) (ta : TA) : TS := fun D σ H => ta σ H fun vs H1 => ∃ v w z, vs = [v, w, z] ∧ D.nx (((σ.set i (some v)).set j (some w)).set k (some z)) H1
/-- the items of list(range(n)) -/
def rngV (n : Nat) : List V := (List.range n).map fun i => V.int ((i : Nat) : Int)
end
end L2
/-! Own rules over the hand layer: list.insert. -/
namespace L2
open PySem PySem.Spec PyProof.Rows
section
variable {X : Cx}
def rInsert : V → List V → Hp → VK → Prop := fun x vs H Q => ∃ l xs i y, x = .ref l ∧ vs = [.int ((i : Nat) : Int), y] ∧ H l = some (.lst xs) ∧ i ≤ xs.length ∧ xs.length < 100000 ∧ Q .non (upd H l (.lst (xs.take i ++ [y] ++ xs.drop i)))
end
end L2
/-! Own rules over the hand layer: sorted. -/
namespace L2
open PySem PySem.Spec PyProof.Rows
section
variable {X : Cx}
end
end L2
/-! Own rules over the hand layer: x in a list of plain data, xs[::-1]. -/
namespace L2
open PySem PySem.Spec PyProof.Rows
section
variable {X : Cx}
/-- x in xs, both plain data, xs a list -/
def rInD (K : PySem.W.Frag) : R2 := fun x y H Q => ∃ ds d, DatV K H y (.list ds) ∧ DatV K H x d ∧ PyData.canLayAll0 ds = true ∧ d.canLay0 = true ∧ d.depth ≤ 60 ∧ Q (.bl (ds.any fun z => PyData.eqv z d)) H
def tRev (K : PySem.W.Frag) (te : TE) (ts : TO) : TE := fun σ H Q => te σ H fun x H1 => ts σ H1 fun st H2 => st = some (-1) ∧ ∃ a xs, x = .ref a ∧ SqL K H2 a xs ∧ ∀ p, H2 p = none → Q (.ref p) (upd H2 p (.lst xs.reverse))
theorem Vals.rev : ∀ {xs : List V} {us : List Value}, Vals xs us → Vals xs.reverse us.reverse
  | _, _, .nil => .nil
  | _ :: xs, _ :: us, .cons r t => by
    rw [List.reverse_cons, List.reverse_cons]
    exact (Vals.rev t).append (.cons r .nil)
theorem pe_rev {e st : Expr} {te : TE} {ts : TO} {pos p2 : Pos} (he : PE X e te) (hs : PO X (some st) ts) : PE X (.Subscript e (.Slice none none (some st) p2) pos) (tRev X.K te ts) := by
  intro pins s σ H Q I h
  refine Subscript_ (thn (he pins s σ H _ I h) fun v s1 ⟨x, H1, I1, r1, q1⟩ => ?_)
  refine wpAny_Slice ?_
  rw [evalPart_none]
  refine wpAny_pure ?_
  refine wpAny_pure ?_
  refine thn (hs pins s1 σ H1 _ I1 q1) fun vs s3 ⟨k, H3, I3, pk, q3⟩ => ?_
  obtain ⟨rfl, a, xs, rfl, hx, q⟩ := q3
  cases r1
  have I4 : Inv X pins σ H3 { s3 with heap := s3.heap.push { cls := .type "slice", data := .fields #[.none, .none, vs] } } := I3.kept (t' := s3.toks) fun b ob q => Heap.get?_push_of_some _ q
  obtain ⟨its, r, ht, hz⟩ := I4.list hx
  have hlen := r.length
  show wpAny (model X.prog X.w) X.A (subscriptTail e (.Slice none none (some st) p2) (.ref a) (.ref s3.heap.objs.size)) (EP X pins σ Q) X.xe { s3 with heap := s3.heap.push { cls := .type "slice", data := .fields #[.none, .none, vs] } }
  refine tail_any (T := "list") (ops := [.ref a, .ref s3.heap.objs.size]) ht.isList.typeIs slot_list_getitem.lookup ?_ (by with_unfolding_all rfl)
  refine wpAny_getItem_list_slice ht.isList (Heap.IsSliceOf.new ..) .none .none pk (by decide) ?_ (by rw [List.size_toArray] <;> omega)
  rw [PySem.W.krv_pick]
  refine ⟨.ref _, _, I4.laid (t' := s3.toks) (o := .lst xs.reverse) (fun b ob q => Heap.get?_push_of_some _ q) (Nat.le_refl _) ?_, rfl, q _ (I4.hok.fresh (Nat.le_refl _))⟩
  exact ⟨by rw [List.length_reverse]; omega, _, 0, r.rev, Heap.get?_push_size _ rfl⟩
end
end L2
/-! Own rules over the hand layer: is not True. -/
namespace L2
open PySem PySem.Spec PyProof.Rows
section
variable {X : Cx}
end
end L2
/-! Own rules over the hand layer: for i, x in enumerate(xs); a statement that is never come to. -/
namespace L2
open PySem PySem.Spec PyProof.Rows
section
variable {X : Cx} {pins : List (Addr × Obj)} {σ : St} {H : Hp} {s : Shared} {h' : Heap}
theorem Inv.turned2 {t' : Nat} {e it : Addr} (I : Inv X pins σ H s) (k : ∀ b o, b ≠ e → b ≠ it → s.heap.get? b = some o → h'.get? b = some o) (fe : FpOk X pins H e) (fi : FpOk X pins H it) : Inv X pins σ H { s with heap := h', toks := t' } := by
  obtain ⟨e0, e1, e2, e3, e4, e5⟩ := fe
  obtain ⟨f0, f1, f2, f3, f4, f5⟩ := fi
  have nit : ∀ b u, H b = some u → b ≠ it := fun b u e z => by rw [z, f0] at e; cases e
  have nie : ∀ b u, H b = some u → b ≠ e := fun b u q z => by rw [z, e0] at q; cases q
  have kc : ∀ b o, b ∉ [e, it] → s.heap.get? b = some o → h'.get? b = some o := fun b o hc q => k b o (fun z => hc (by simp [z])) (fun z => hc (by simp [z])) q
  refine I.step (g' := s.gens) (d' := s.drawn) (ch := [e, it]) (fun b hb => ?_) (fun b o _ _ hc e _ => kc b o hc e) (fun b o _ _ hc e _ => ⟨o.slots, kc b o hc e⟩) (fun _ _ _ _ n => n)
    (fun b o hc e => ⟨o, kc b o hc e⟩) (fun _ _ e => e) (fun _ _ _ e => e) (fun b ps e => ⟨#[], by rw [e]; simp⟩) (fun m hm => ?_) (fun b u q => ?_) I.bare
  · rcases List.mem_cons.mp hb with z | z
    · subst z; exact ⟨e3, e1, e4, e5⟩
    · have z' : b = it := by simpa using z
      subst z'
      exact ⟨f3, f1, f4, f5⟩
  · obtain ⟨o, es, ep, ho, r⟩ := hm
    exact ⟨o, es, ep, k _ o (Ne.symm e1) (Ne.symm f1) ho, r⟩
  · refine (I.hok b u q).stay (fun c v hc z => k c v ?_ ?_ z) (fun _ z => z) fun _ _ z => z
    · rcases hc with z | z
      · rw [z]; exact nie b u q
      · exact nie c _ z
    · rcases hc with z | z
      · rw [z]; exact nit b u q
      · exact nit c _ z
end
/-- i, x of the list at a: a new tuple at each turn -/
def Ite (K : PySem.W.Frag) (a : Addr) : It :=
  ⟨fun i H => ∃ xs x, SqL K H a xs ∧ xs[i]? = some x, fun i H x H' => ∃ p v, x = .ref p ∧ H p = none ∧ H' = upd H p (.tup [.int ((i : Nat) : Int), v]) ∧ ∀ xs, SqL K H a xs → xs[i]? = some v, fun i H => ∃ xs, SqL K H a xs ∧ xs.length ≤ i⟩
theorem turn_enum {P : Program} {w : World} {K : PySem.W.Frag} {elts : List Expr} {x1} {tpos : Pos} (a e it : Addr) (hne : e ≠ it) : Turn P w K (.Tuple elts x1 tpos) (Ite K a) [e, it] e (fun i h => (∃ old, IsEnum h e it ((i : Nat) : Int) old) ∧ h.IsListIter it a i) where
  mem := by simp
  obj := fun i h st b hb => by
    obtain ⟨⟨old, h1⟩, h2⟩ := st
    rcases List.mem_cons.mp hb with z | z
    · subst z
      exact ⟨_, h1, fun v z => by
        have z' : Data.fields _ = Data.cell v := z
        cases z'⟩
    · have z' : b = it := by simpa using z
      subst z'
      obtain ⟨o, e, c, d⟩ := h2
      exact ⟨o, e, fun v z => by rw [d] at z; cases z⟩
  keep := fun i h h' st k => by
    obtain ⟨⟨old, h1⟩, h2⟩ := st
    exact ⟨⟨old, k e (by simp) _ h1⟩, h2.at fun o q => k it (by simp) o q⟩
  item := by
    intro X hP hw hK hc i pins s σ H E I hf st hg
    subst hP hw hK
    obtain ⟨⟨old, st1⟩, st2⟩ := st
    obtain ⟨xs, x, hq, hx⟩ := hg
    obtain ⟨its, rv, p, hz⟩ := I.list hq
    obtain ⟨u, hu, ru⟩ := rv.get hx
    have fe := hf e (by simp)
    have fi := hf it (by simp)
    have le : e < s.heap.objs.size := Heap.lt_size st1
    have li : it < s.heap.objs.size := by obtain ⟨_, q, _⟩ := id st2; exact Heap.lt_size q
    refine wpAny_pyNext_enum_item st1 st2 p.isList (x := u) (by simpa using hu) hne fun h' ho hit' hT hsz hk => ?_
    refine ⟨_, rfl, wpAny_letOwnedTupleGo_enum ho fun h2 he2 hs2 => ?_⟩
    replace hs2 : Heap.SameBut e h' h2 := hs2
    have hn : H s.heap.objs.size = none := I.hok.fresh (Nat.le_refl _)
    have I1 : Inv X pins σ (upd H s.heap.objs.size (.tup [.int ((i : Nat) : Int), x])) { s with heap := s.heap.push { cls := .type "tuple", data := .seq #[.int i s.toks, u] }, toks := s.toks } :=
      I.laid (fun b o q => Heap.get?_push_of_some _ q) (Nat.le_refl _) ⟨by show 2 ≤ sizeLine; decide, [.int i s.toks, u], .cons ⟨_, rfl⟩ (.cons ru .nil), ⟨_, Heap.get?_push_size _ rfl, rfl, _, rfl⟩⟩
    have ge : ∀ b, b < s.heap.objs.size → FpOk X pins H b → FpOk X pins (upd H s.heap.objs.size (.tup [.int ((i : Nat) : Int), x])) b := fun b hb f => ⟨by rw [upd_ne (Nat.ne_of_lt hb)]; exact f.1, f.2⟩
    have I2 := I1.turned2 (h' := h2) (t' := s.toks + 1) (e := e) (it := it) (fun b o n1 n2 q => by
      rw [hs2.2 b n1]
      rcases Heap.get?_push_cases q with ⟨z, z2⟩ | q
      · subst z z2
        exact hT
      · exact hk b o n1 n2 q) (ge e le fe) (ge it li fi)
    refine ⟨.ref s.heap.objs.size, _, I2, rfl, ⟨_, x, rfl, hn, rfl, fun ys hy => by rw [I.list_inj hy hq]; exact hx⟩, ⟨⟨u, he2⟩, hit'.at fun o q => (hs2.2 it hne.symm).trans q⟩, fun b hb => ?_⟩
    rcases List.mem_cons.mp hb with z | z
    · subst z; exact (ge b le fe).1
    · have z' : b = it := by simpa using z
      subst z'
      exact (ge b li fi).1
  done := by
    intro X hP hw hK hc i pins s σ H E I hf st hg
    subst hP hw hK
    obtain ⟨⟨old, st1⟩, st2⟩ := st
    obtain ⟨xs, hq, hx⟩ := hg
    obtain ⟨its, rv, p, hz⟩ := I.list hq
    have hl := rv.length
    exact wpAny_pyNext_enum_end (I.ok.hd hc) st1 st2 p.isList (by simp; omega) fun h' eb => ⟨rfl, I.turned2 (t' := s.toks) (fun b o n1 n2 q => eb b o n2 q) (hf e (by simp)) (hf it (by simp))⟩
  self := fun _ _ _ _ _ st h => by
    obtain ⟨⟨old, st1⟩, _⟩ := st
    exact wpAny_pyIter_enum st1 h
section
variable {X : Cx}
def iEnum (K : PySem.W.Frag) (ta : TA) : TI := fun σ H R => ta σ H fun vs H1 => ∃ a, vs = [.ref a] ∧ (∃ xs, SqL K H1 a xs) ∧ R (Ite K a) H1
theorem pi_enum {elts : List Expr} {x1} {tpos : Pos} {a : Expr} {ta : TA} {p pos : Pos} (hg : Gl X "enumerate") (hm : X.mg "enumerate" = none) (ha : PA X [a] ta) (hs : starEach [a] X.env = [(false, eval a X.env)] := by rfl) : PI X (.Tuple elts x1 tpos) (.Call (.Name "enumerate" p) [a] [] pos) (iEnum X.K ta) := by
  intro pins s σ H R I h
  refine Call_ (ld_blt I hg hm bt_enumerate (PyProof.Rows.callWith_type1 (thn (ha pos pins s σ H _ I h) fun us s1 ⟨vs, H1, I1, r1, q1⟩ => ?_) hs rfl))
  obtain ⟨a', e, ⟨xs, hq⟩, q⟩ := q1
  subst e
  obtain ⟨u, rfl, rx⟩ := vals1 r1
  cases rx
  obtain ⟨its, rv, pl, hz⟩ := I1.list hq
  refine call_enumerate_list pl.isList fun h' he hit hsz hk => ?_
  refine wpAny_pyIter_enum (s := { s1 with heap := h' }) he ?_
  have I2 : Inv X pins σ H1 { s1 with heap := h' } := I1.kept (t' := s1.toks) hk
  refine ⟨_, [s1.heap.objs.size + 1, s1.heap.objs.size], _, _, H1, rfl, I2, turn_enum a' _ _ (Nat.ne_of_gt (Nat.lt_succ_self _)), ⟨⟨.none, he⟩, hit⟩, fun b hb => ?_, q⟩
  rcases List.mem_cons.mp hb with z | z
  · subst z; exact I1.fpOk (Nat.le_succ _) (I1.hok.fresh (Nat.le_succ _))
  · have z' : b = s1.heap.objs.size := by simpa using z
    subst z'
    exact I1.fpOk (Nat.le_refl _) (I1.hok.fresh (Nat.le_refl _))
/-- never come to -/
theorem ps_no {st : Stmt} : PS X st (fun _ _ _ => False) := fun _ _ _ _ _ _ h => h.elim
end
theorem for_enum {K : PySem.W.Frag} {a : Addr} {xs : List V} {g : TG} {tb : TS} {D : Ends} {σ : St} {H : Hp} (Pv : Nat → St → Hp → Prop) (h0 : Pv 0 σ H) (hl : ∀ i σ H, i ≤ xs.length → Pv i σ H → SqL K H a xs)
    (hs : ∀ i x σ H, xs[i]? = some x → Pv i σ H → ∀ p, H p = none → g (.ref p) σ (upd H p (.tup [.int ((i : Nat) : Int), x])) fun σ2 H2 => tb { D with nx := Pv (i + 1), ct := Pv (i + 1), bk := D.nx } σ2 H2) (hd : ∀ σ H, Pv xs.length σ H → D.nx σ H) :
    ∃ W : Nat → Nat → St → Hp → Prop, (∃ m, W 0 m σ H) ∧ ∀ i m σ H, W i m σ H →
      ((Ite K a).stop i H ∧ D.nx σ H) ∨ ((Ite K a).go i H ∧ ∃ N : St → Hp → Prop, (∀ σ' H', N σ' H' → ∃ m', m' < m ∧ W (i + 1) m' σ' H') ∧ ∀ x H', (Ite K a).yld i H x H' → g x σ H' fun σ2 H2 => tb { D with nx := N, ct := N, bk := D.nx } σ2 H2) := by
  refine ⟨fun i m σ H => m = xs.length - i ∧ i ≤ xs.length ∧ Pv i σ H, ⟨xs.length, by simp, Nat.zero_le _, h0⟩, ?_⟩
  rintro i m σ H ⟨rfl, hi, p⟩
  have q := hl i σ H hi p
  by_cases hlt : i < xs.length
  · refine .inr ⟨⟨xs, xs[i], q, by simp [hlt]⟩, Pv (i + 1), fun σ' H' p' => ⟨xs.length - (i + 1), by omega, rfl, hlt, p'⟩, fun x H' y => ?_⟩
    obtain ⟨b, v, rfl, hb, rfl, y⟩ := y
    exact hs i v σ _ (y xs q) p b hb
  · have e : i = xs.length := by omega
    subst e
    exact .inl ⟨⟨xs, q, Nat.le_refl _⟩, hd σ H p⟩
end L2
/-! Own rules over the hand layer: a comprehension with a pair as its target. -/
namespace L2
open PySem PySem.Spec PyProof.Rows
/-- what is asked of the block's names -/
structure CompSc2 (N N' : List Str) (osc scope : Scope) (x y : Str) : Prop where
  eqN : N' = N ++ [x, y]
  nd : N'.Nodup
  kind : scope.kind = .function
  cell : ∀ z ∈ scope.names, z.2 ≠ .cell
  names : ∀ z ∈ scope.names, z.2 = .local → scope.names.lookup z.1 = some .local
  only : ∀ z ∈ scope.names, z.2 = .local → z.1 = x ∨ z.1 = y ∨ z.1 ∉ N'
  locx : scope.names.lookup x = some .local
  locy : scope.names.lookup y = some .local
  free : ∀ z ∈ scope.names, z.2 = .free → osc.names.lookup z.1 = some .cell
def compOk2 (N : List Str) (osc scope : Scope) (x y : Str) : Bool :=
  decide (N ++ [x, y]).Nodup && decide (scope.kind = .function) && (scope.names.lookup x == some .local) && (scope.names.lookup y == some .local) &&
    scope.names.all fun z => match z.2 with
      | .cell => false
      | .local => scope.names.lookup z.1 == some .local && (z.1 == x || (z.1 == y || !((N ++ [x, y]).contains z.1)))
      | .free => osc.names.lookup z.1 == some .cell
      | _ => true
theorem CompSc2.new {N : List Str} {osc scope : Scope} {x y : Str} (h : compOk2 N osc scope x y = true) : CompSc2 N (N ++ [x, y]) osc scope x y := by
  unfold compOk2 at h
  simp only [Bool.and_eq_true, decide_eq_true_eq, List.all_eq_true, beq_iff_eq] at h
  obtain ⟨⟨⟨⟨h1, h2⟩, h3⟩, h4⟩, h5⟩ := h
  refine ⟨rfl, h1, h2, fun y hy e => ?_, fun y hy e => ?_, fun y hy e => ?_, h3, h4, fun y hy e => ?_⟩
  · have := h5 y hy; rw [e] at this; cases this
  · have := h5 y hy
    rw [e] at this
    simp only [Bool.and_eq_true, beq_iff_eq] at this
    exact this.1
  · have := h5 y hy
    rw [e] at this
    simp only [Bool.and_eq_true, Bool.or_eq_true, beq_iff_eq, Bool.not_eq_true', List.contains_eq_mem, decide_eq_false_iff_not] at this
    exact this.2
  · have := h5 y hy
    rw [e] at this
    simp only [beq_iff_eq] at this
    exact this
def pad2 (σ : St) : St := σ ++ [none, none]
/-- the reading behind the iterator -/
def RComp2 (K : PySem.W.Frag) (σ : St) (tt : CA → TT) (te : CA → TE) (J : It) (H1 : Hp) (Q : List V → Hp → Prop) : Prop :=
  ∃ W : Nat → Nat → List V → Hp → Prop, (∃ m, W 0 m [] H1) ∧ ∀ i m ys H, W i m ys H → ys.length ≤ sizeLine ∧
    ((J.stop i H ∧ Q ys H) ∨ (J.go i H ∧ ∃ N : List V → Hp → Prop, (∀ ys' H', N ys' H' → ∃ m', m' < m ∧ W (i + 1) m' ys' H') ∧
      ∀ x H', J.yld i H x H' → ∀ a : CA, ∃ p v1 v2, x = .ref p ∧ SqT K H' p [v1, v2] ∧ tt a (σ ++ [some v1, some v2]) H' fun b H2 => if b = true then te a (σ ++ [some v1, some v2]) H2 fun y H3 => N (ys ++ [y]) H3 else N ys H2))
def tComp2 (K : PySem.W.Frag) (wi : TI) (tt : CA → TT) (te : CA → TE) : TE := fun σ H Q => wi σ H fun J H1 => RComp2 K σ tt te J H1 fun ys H2 => ∀ p, H2 p = none → Q (.ref p) (upd H2 p (.lst ys))
section
variable {X : Cx} {pins : List (Addr × Obj)} {σ : St} {H : Hp} {s : Shared}
end
end L2
/-! Own rules over the hand layer: reversed. -/
namespace L2
open PySem PySem.Spec PyProof.Rows
theorem lri_nolen : typeLookup (.type "list_reverseiterator") "__len__" = pure none := by
  rw [typeLookup_type, builtinLookup_eq_fast]; kernel_rfl
theorem lri_hint : typeLookup (.type "list_reverseiterator") "__length_hint__" = pure (some (.builtin "list_reverseiterator.__length_hint__")) := by
  rw [typeLookup_type, builtinLookup_eq_fast]; kernel_rfl
section
variable {prog : Program} {w : World} {A : Around} {E : Value → Shared → Prop} {s : Shared}
theorem hint_lri {r l : Addr} {i : Int} {Q : Bool → Shared → Prop} (hr : s.heap.IsRevIter r l i) (h : ∀ tk, Q false { s with toks := tk }) : wpAny (model prog w) A (Builtin.List.listLengthHint (.ref r)) Q E s := by
  have hT := hr.typeIs
  unfold Builtin.List.listLengthHint
  refine wpAny_bind (wpAny_specialOf hT lri_nolen ?_)
  show wpAny _ A (specialOf (Value.ref r) (Str.ofString "__length_hint__") >>= _) _ _ _
  refine wpAny_bind (wpAny_specialOf hT lri_hint ?_)
  generalize hid : ("list_reverseiterator.__length_hint__" : String) = id0
  wp_delta
  rw [show splitId id0 = some ("list_reverseiterator", "__length_hint__") from by subst hid; decide +kernel]
  subst hid
  refine wpAny_bind (wpAny_isInstance (b := true) hT (by rw [isSubtype_type]; kernel_rfl) ?_)
  exact wpAny_pure (h s.toks)
/-- list(r), r a reversed list: the iterator alone is changed -/
theorem call_list_lri {r l : Addr} {items : Array Value} {Q : Value → Shared → Prop} (hh : A.handled = none) (hr : s.heap.IsRevIter r l ((items.size : Int) - 1)) (hl : s.heap.IsList l items) (hne : l ≠ r) (hz : items.size ≤ sizeLine)
    (hQ : ∀ (h' : Heap) (tk : Nat) (acc : Array Value) (c : Nat), (∀ b o, b ≠ r → s.heap.get? b = some o → h'.get? b = some o) → h'.get? s.heap.objs.size = some { cls := .type "list", dict := none, data := .seq acc c, slots := #[] } →
      ItemsOf (fun i v => items[items.size - 1 - i]? = some v) acc items.size → Q (.ref s.heap.objs.size) { s with heap := h', toks := tk }) : wpAny (model prog w) A (call (.type "list") [.ref r]) Q E s := by
  have rlt : r < s.heap.objs.size := by obtain ⟨_, q, _⟩ := hr; exact Heap.lt_size q
  have llt : l < s.heap.objs.size := by obtain ⟨_, q, _⟩ := hl; exact Heap.lt_size q
  refine callType_codes (Q₁ := fun obj t => obj = .ref s.heap.objs.size ∧ t = { s with heap := s.heap.push { cls := .type "list", data := .seq #[] } }) F.called_list (F.typeCall_list_1 _) F.entry_list_init (code_list_new _ ⟨rfl, rfl⟩) fun obj t ht => ?_
  obtain ⟨rfl, rfl⟩ := ht
  have hS : (s.heap.push { cls := .type "list", data := .seq #[] }).get? s.heap.objs.size = some { cls := .type "list", data := .seq #[] } := Heap.get?_push_size _ rfl
  refine ⟨⟨_, hS, rfl⟩, F.args_list_init_2 _ _, ?_⟩
  generalize hh2 : s.heap.push { cls := .type "list", data := .seq #[] } = h2 at hS
  have old : ∀ b o, s.heap.get? b = some o → h2.get? b = some o := fun b o e => hh2 ▸ Heap.get?_push_of_some _ e
  have hSr : s.heap.objs.size ≠ r := Nat.ne_of_gt rlt
  have hSl : s.heap.objs.size ≠ l := Nat.ne_of_gt llt
  show wpAny _ _ (do let was ← Builtin.List.listItems (.ref s.heap.objs.size); Builtin.List.listUpdate (.ref s.heap.objs.size) (fun _ => #[]); letGo was.toList.reverse; Builtin.List.listExtendWith (.ref s.heap.objs.size) (.ref r) .none) _ _ _
  refine wpAny_bind ?_
  unfold Builtin.List.listItems
  refine wpAny_bind (wpAny_seqItems hS rfl (wpAny_pure ?_))
  show wpAny _ _ (updateSeq s.heap.objs.size (fun _ => #[]) >>= fun _ => letGo (#[] : Array Value).toList.reverse >>= fun _ => Builtin.List.listExtendWith (.ref s.heap.objs.size) (.ref r) .none) _ _ _
  refine wpAny_bind (wpAny_updateSeq hS rfl ?_)
  have hS3 := Heap.get?_update_self (Obj.mapSeq (fun _ => (#[] : Array Value))) hS rfl
  refine wpAny_bind (wpAny_letGo ?_)
  have oth : ∀ b o, b ≠ s.heap.objs.size → h2.get? b = some o → (h2.update s.heap.objs.size (Obj.mapSeq (fun _ => (#[] : Array Value)))).get? b = some o := fun b o n e => (Heap.get?_update_other _ _ (Ne.symm n)).trans e
  generalize h2.update s.heap.objs.size (Obj.mapSeq (fun _ => (#[] : Array Value))) = h3 at hS3 oth
  have old3 : ∀ b o, s.heap.get? b = some o → h3.get? b = some o := fun b o e => oth b o (Nat.ne_of_lt (Heap.lt_size e)) (old b o e)
  have hr3 : h3.IsRevIter r l ((items.size : Int) - 1) := hr.at fun o e => old3 r o e
  have hl3 : h3.IsList l items := hl.at fun o e => old3 l o e
  have W := (Walks.listRev (prog := prog) (w := w) (A := A.in1.in1) hh r l hne items).toS
  unfold Builtin.List.listExtendWith
  refine wpAny_bind (wpAny_typeOf (T := "list_reverseiterator") (s := { s with heap := h3 }) hr3.typeIs ?_)
  have z1 : Builtin.List.listSameRef (.ref s.heap.objs.size) (.ref r) = false := by simp [Builtin.List.listSameRef, hSr]
  rw [if_neg (by rw [z1]; decide)]
  refine wpAny_bind (wpAny_pyIter_revIter (s := { s with heap := h3 }) hr3 ?_)
  refine wpAny_bind (wpAny_holding (hint_lri (s := { s with heap := h3 }) hr3 fun tk => ?_))
  rw [if_neg (by decide)]
  have nf : s.heap.objs.size ∉ [r, l] := fun q => by
    rcases List.mem_cons.mp q with e | e
    · exact hSr e
    · exact hSl (by simpa using e)
  have st0 : 0 ≤ items.size ∧ h3.IsRevIter r l ((items.size : Int) - 1 - ((0 : Nat) : Int)) ∧ h3.IsList l items := ⟨Nat.zero_le _, by simpa using hr3, hl3⟩
  refine wpAny_pure ⟨plainId_quiet F.plain_extend_loop _, codeAny_extend_loopS W hz _ nf _ items.size 0 _ _ _ rfl (Nat.zero_le _) st0 hS3 (ItemsOf.nil _) fun s' acc c hm hS' hacc => ?_⟩
  rw [Moved.eq_with hm]
  refine ⟨rfl, hQ s'.heap s'.toks acc c (fun b o n e => hm.heap b o (fun q => ?_) (old3 b o e)) hS' hacc⟩
  rcases List.mem_cons.mp q with z | z
  · exact Nat.ne_of_lt (Heap.lt_size e) z
  · exact n (by simpa using z)
end
theorem bt_reversed2 : bootBuiltins "reversed" = some (.type "reversed") := by decide +kernel
theorem items_rev {items : Array Value} {acc : Array Value} (h : ItemsOf (fun i v => items[items.size - 1 - i]? = some v) acc items.size) : acc.toList = items.toList.reverse := by
  have hl : acc.size = items.size := h.1
  apply List.ext_getElem?
  intro i
  by_cases c : i < items.size
  · have ha : i < acc.size := by omega
    have e := h.2 i acc[i] (Array.getElem?_eq_getElem ha)
    rw [List.getElem?_reverse (by rw [Array.length_toList]; exact c), Array.length_toList, Array.getElem?_toList, Array.getElem?_toList, Array.getElem?_eq_getElem ha]
    exact e.symm
  · rw [List.getElem?_eq_none (by rw [Array.length_toList]; omega), List.getElem?_eq_none (by rw [List.length_reverse, Array.length_toList]; omega)]
section
variable {X : Cx}
/-- list(reversed(e)) -/
theorem pe_lrev {e : Expr} {te : TA} {p1 p2 p3 p4 : Pos} (hg1 : Gl X "list") (hm1 : X.mg "list" = none) (hg2 : Gl X "reversed") (hm2 : X.mg "reversed" = none) (hc : X.calm = true) (he : PA X [e] te) (hs : starEach [e] X.env = [(false, eval e X.env)] := by rfl)
    (hs2 : starEach [.Call (.Name "reversed" p2) [e] [] p3] X.env = [(false, eval (.Call (.Name "reversed" p2) [e] [] p3) X.env)] := by rfl) : PE X (.Call (.Name "list" p1) [.Call (.Name "reversed" p2) [e] [] p3] [] p4)
      (fun σ H Q => te σ H fun vs H1 => ∃ a xs, vs = [.ref a] ∧ SqL X.K H1 a xs ∧ ∀ p, H1 p = none → Q (.ref p) (upd H1 p (.lst xs.reverse))) := by
  intro pins s σ H Q I h
  refine Call_ (ld_blt I hg1 hm1 bt_list (PyProof.Rows.callWith_type1 ?_ hs2 rfl))
  rw [hs2]
  show wpAny _ _ (spliced [(false, eval (.Call (.Name "reversed" p2) [e] [] p3) X.env)]) _ _ s
  refine Calls.spliced_cons ?_
  refine Call_ (ld_blt I hg2 hm2 bt_reversed2 (PyProof.Rows.callWith_type1 (thn (he p3 pins s σ H _ I h) fun us s1 ⟨vs, H1, I1, r1, q1⟩ => ?_) hs rfl))
  obtain ⟨a, xs, rfl, hq, q⟩ := q1
  obtain ⟨u, rfl, rx⟩ := vals1 r1
  cases rx
  obtain ⟨its, rv, pl, hz⟩ := I1.list hq
  have alt : a < s1.heap.objs.size := by obtain ⟨_, z, _⟩ := pl.isList; exact Heap.lt_size z
  refine call_reversed_list pl.isList (Calls.spliced_nil ?_)
  have hr : (s1.heap.push (revObj a ((its.toArray.size : Int) - 1))).IsRevIter s1.heap.objs.size a ((its.toArray.size : Int) - 1) := ⟨_, Heap.get?_push_size _ rfl, rfl, rfl⟩
  have hl2 : (s1.heap.push (revObj a ((its.toArray.size : Int) - 1))).IsList a its.toArray := pl.isList.push _
  have hsz : (s1.heap.push (revObj a ((its.toArray.size : Int) - 1))).objs.size = s1.heap.objs.size + 1 := Heap.size_push ..
  refine call_list_lri (s := { s1 with heap := s1.heap.push (revObj a ((its.toArray.size : Int) - 1)) }) (I1.ok.hd hc) hr hl2 (Nat.ne_of_lt alt) (by rw [List.size_toArray, ← rv.length]; exact hz) fun h' tk acc c hk hS hacc => ?_
  have eq := items_rev hacc
  refine ⟨.ref _, _, I1.laid (t' := tk) (o := .lst xs.reverse) (fun b o z => hk b o (Nat.ne_of_lt (Heap.lt_size z)) (Heap.get?_push_of_some _ z)) (by show s1.heap.objs.size ≤ _; rw [hsz]; exact Nat.le_succ _) (show ObjOk X.prog X.w _ h' _ (.lst xs.reverse) from ⟨by rw [List.length_reverse]; exact hz, acc.toList, c, ?_, by simpa using hS⟩), rfl, q _ (I1.hok.fresh (by show s1.heap.objs.size ≤ _; rw [hsz]; exact Nat.le_succ _))⟩
  rw [eq]
  exact Vals.rev rv
/-- the list at a, n long, from its end -/
def Itv (K : PySem.W.Frag) (a : Addr) (n : Nat) : It :=
  ⟨fun i H => ∃ xs x, SqL K H a xs ∧ xs.length = n ∧ xs.reverse[i]? = some x, fun i H x H' => H' = H ∧ ∀ xs, SqL K H a xs → xs.reverse[i]? = some x, fun i _ => n ≤ i⟩
theorem turn_rev {P : Program} {w : World} {K : PySem.W.Frag} {tg : Expr} (a it : Addr) (n : Nat) : Turn P w K tg (Itv K a n) [it] it (fun i h => i ≤ n ∧ h.IsRevIter it a ((n : Int) - 1 - ((i : Nat) : Int))) where
  mem := by simp
  obj := fun i h st b hb => by
    have e : b = it := by simpa using hb
    subst e
    obtain ⟨_, o, e, c, d⟩ := st
    exact ⟨o, e, fun v z => by rw [d] at z; cases z⟩
  keep := fun i h h' st k => ⟨st.1, st.2.at fun o e => k it (by simp) o e⟩
  item := by
    intro X hP hw hK hc i pins s σ H E I hf st hg
    subst hP hw hK
    obtain ⟨xs, x, hq, hn, hx⟩ := hg
    obtain ⟨its, rv, p, hz⟩ := I.list hq
    have hil : i < n := by
      have := (List.getElem?_eq_some_iff.mp hx).1
      rw [List.length_reverse, hn] at this
      exact this
    have hx' : xs[n - 1 - i]? = some x := by rw [List.getElem?_reverse (by omega), hn] at hx; exact hx
    obtain ⟨u, hu, ru⟩ := rv.get hx'
    obtain ⟨f0, f1, f2, f3, f4, f5⟩ := hf it (by simp)
    have ei : (n : Int) - 1 - ((i : Nat) : Int) = ((n - 1 - i : Nat) : Int) := by omega
    refine wpAny_pyNext_rev_item (i := n - 1 - i) (by rw [← ei]; exact st.2) p.isList (x := u) (by simpa using hu) fun h' st' sb => ?_
    have I1 : Inv X pins σ H { s with heap := h' } := I.turned (t' := s.toks) (fun b o hb e => (sb.2 b hb).trans e) f0 f1 f3 f4 f5
    obtain ⟨o, e, c, d⟩ := id st'
    have ej : ((n - 1 - i : Nat) : Int) - 1 = (n : Int) - 1 - ((i + 1 : Nat) : Int) := by omega
    exact ⟨u, rfl, go_of (s := { s with heap := h' }) e c d (by decide) ⟨x, H, I1, ru, ⟨rfl, fun ys hy => by rw [I.list_inj hy hq]; exact hx⟩, ⟨hil, by rw [← ej]; exact st'⟩, fun b hb => (hf b hb).1⟩⟩
  done := by
    intro X hP hw hK hc i pins s σ H E I hf st hg
    subst hP hw hK
    obtain ⟨f0, f1, f2, f3, f4, f5⟩ := hf it (by simp)
    have e : i = n := Nat.le_antisymm st.1 hg
    have em : (n : Int) - 1 - ((i : Nat) : Int) = -1 := by omega
    exact wpAny_pyNext_rev_end (I.ok.hd hc) (by rw [← em]; exact st.2) fun h' eb => ⟨rfl, I.turned (t' := s.toks) (fun b o hb e => eb b o hb e) f0 f1 f3 f4 f5⟩
  self := fun _ _ _ _ _ st h => wpAny_pyIter_revIter st.2 h
def iRev (K : PySem.W.Frag) (ta : TA) : TI := fun σ H R => ta σ H fun vs H1 => ∃ a xs, vs = [.ref a] ∧ SqL K H1 a xs ∧ R (Itv K a xs.length) H1
theorem pi_rev {tg a : Expr} {ta : TA} {p pos : Pos} (hg : Gl X "reversed") (hm : X.mg "reversed" = none) (ha : PA X [a] ta) (hs : starEach [a] X.env = [(false, eval a X.env)] := by rfl) : PI X tg (.Call (.Name "reversed" p) [a] [] pos) (iRev X.K ta) := by
  intro pins s σ H R I h
  refine Call_ (ld_blt I hg hm bt_reversed2 (PyProof.Rows.callWith_type1 (thn (ha pos pins s σ H _ I h) fun us s1 ⟨vs, H1, I1, r1, q1⟩ => ?_) hs rfl))
  obtain ⟨a', xs, rfl, hq, q⟩ := q1
  obtain ⟨u, rfl, rx⟩ := vals1 r1
  cases rx
  obtain ⟨its, rv, pl, hz⟩ := I1.list hq
  have en : ((its.toArray.size : Nat) : Int) - 1 = ((xs.length : Nat) : Int) - 1 := by rw [List.size_toArray, ← rv.length]
  refine call_reversed_list pl.isList ?_
  rw [en]
  have hr : (s1.heap.push (revObj a' ((xs.length : Int) - 1))).IsRevIter s1.heap.objs.size a' ((xs.length : Int) - 1) := ⟨_, Heap.get?_push_size _ rfl, rfl, rfl⟩
  refine wpAny_pyIter_revIter (s := { s1 with heap := s1.heap.push (revObj a' ((xs.length : Int) - 1)) }) hr ?_
  refine ⟨_, [s1.heap.objs.size], _, _, H1, rfl, I1.kept (t' := s1.toks) fun b o e => Heap.get?_push_of_some _ e, turn_rev a' _ xs.length, ⟨Nat.zero_le _, by simpa using hr⟩, fun b hb => ?_, q⟩
  have e : b = s1.heap.objs.size := by simpa using hb
  subst e
  exact I1.fpOk (Nat.le_refl _) (I1.hok.fresh (Nat.le_refl _))
end
theorem comp_rev {K : PySem.W.Frag} {a0 : Addr} {xs : List V} {nn j : Nat} {σ : St} {tt : CA → TT} {te : CA → TE} {H1 : Hp} {Q : List V → Hp → Prop} (Pv : Nat → List V → Hp → Prop) (hz : xs.length < sizeLine) (h0 : Pv 0 [] H1)
    (hl : ∀ i ys H, i ≤ xs.length → Pv i ys H → ys.length ≤ i ∧ SqL K H a0 xs)
    (hs : ∀ i x ys H, xs.reverse[i]? = some x → Pv i ys H → ∀ a : CA, tt a ((padS nn j σ).set j (some x)) H fun b H2 => if b = true then te a ((padS nn j σ).set j (some x)) H2 fun y H3 => Pv (i + 1) (ys ++ [y]) H3 else Pv (i + 1) ys H2)
    (hd : ∀ ys H, Pv xs.length ys H → Q ys H) : RComp σ nn j tt te (Itv K a0 xs.length) H1 Q := by
  refine ⟨fun i m ys H => m = xs.length - i ∧ i ≤ xs.length ∧ Pv i ys H, ⟨xs.length, by simp, Nat.zero_le _, h0⟩, ?_⟩
  rintro i m ys H ⟨rfl, hi, p⟩
  obtain ⟨hy, q⟩ := hl i ys H hi p
  refine ⟨by omega, ?_⟩
  by_cases hlt : i < xs.length
  · refine .inr ⟨⟨xs, xs.reverse[i]'(by rw [List.length_reverse]; exact hlt), q, rfl, List.getElem?_eq_getElem _⟩, Pv (i + 1), fun ys' H' p' => ⟨xs.length - (i + 1), by omega, rfl, hlt, p'⟩, fun x H' y => ?_⟩
    obtain ⟨e, y⟩ := y
    subst e
    exact hs i x ys _ (y xs q) p
  · have e : i = xs.length := by omega
    subst e
    exact .inl ⟨Nat.le_refl _, hd ys H p⟩
end L2
/-! Own rules over the hand layer: a comprehension with a pair as its target, of names that the def has too. -/
namespace L2
open PySem PySem.Spec PyProof.Rows
structure CompSc3 (N : List Str) (osc scope : Scope) (j1 j2 : Nat) (x y : Str) : Prop where
  nd : N.Nodup
  at1 : N[j1]? = some x
  at2 : N[j2]? = some y
  kind : scope.kind = .function
  cell : ∀ z ∈ scope.names, z.2 ≠ .cell
  names : ∀ z ∈ scope.names, z.2 = .local → scope.names.lookup z.1 = some .local
  only : ∀ z ∈ scope.names, z.2 = .local → z.1 = x ∨ z.1 = y ∨ z.1 ∉ N
  locx : scope.names.lookup x = some .local
  locy : scope.names.lookup y = some .local
  free : ∀ z ∈ scope.names, z.2 = .free → osc.names.lookup z.1 = some .cell
def compOk3 (N : List Str) (osc scope : Scope) (j1 j2 : Nat) (x y : Str) : Bool :=
  decide N.Nodup && (N[j1]? == some x) && (N[j2]? == some y) && decide (scope.kind = .function) && (scope.names.lookup x == some .local) && (scope.names.lookup y == some .local) &&
    scope.names.all fun z => match z.2 with
      | .cell => false
      | .local => scope.names.lookup z.1 == some .local && (z.1 == x || (z.1 == y || !(N.contains z.1)))
      | .free => osc.names.lookup z.1 == some .cell
      | _ => true
theorem CompSc3.new {N : List Str} {osc scope : Scope} {j1 j2 : Nat} {x y : Str} (h : compOk3 N osc scope j1 j2 x y = true) : CompSc3 N osc scope j1 j2 x y := by
  unfold compOk3 at h
  simp only [Bool.and_eq_true, decide_eq_true_eq, List.all_eq_true, beq_iff_eq] at h
  obtain ⟨⟨⟨⟨⟨⟨h1, ha⟩, hb⟩, h2⟩, h3⟩, h4⟩, h5⟩ := h
  refine ⟨h1, ha, hb, h2, fun y hy e => ?_, fun y hy e => ?_, fun y hy e => ?_, h3, h4, fun y hy e => ?_⟩
  · have := h5 y hy; rw [e] at this; cases this
  · have := h5 y hy
    rw [e] at this
    simp only [Bool.and_eq_true, beq_iff_eq] at this
    exact this.1
  · have := h5 y hy
    rw [e] at this
    simp only [Bool.and_eq_true, Bool.or_eq_true, beq_iff_eq, Bool.not_eq_true', List.contains_eq_mem, decide_eq_false_iff_not] at this
    exact this.2
  · have := h5 y hy
    rw [e] at this
    simp only [beq_iff_eq] at this
    exact this
def pad3 (j1 j2 : Nat) (σ : St) : St := (σ.set j1 none).set j2 none
theorem pad3_get {i j1 j2 : Nat} {σ : St} {v : V} (h : (pad3 j1 j2 σ)[i]? = some (some v)) : i ≠ j1 ∧ i ≠ j2 ∧ σ[i]? = some (some v) := by
  unfold pad3 at h
  by_cases c2 : i = j2
  · subst c2
    rw [List.getElem?_set] at h
    simp only [if_true] at h
    split at h <;> cases h
  · rw [List.getElem?_set_ne (Ne.symm c2)] at h
    by_cases c1 : i = j1
    · subst c1
      rw [List.getElem?_set] at h
      simp only [if_true] at h
      split at h <;> cases h
    · rw [List.getElem?_set_ne (Ne.symm c1)] at h
      exact ⟨c1, c2, h⟩
def RComp3 (K : PySem.W.Frag) (j1 j2 : Nat) (σ : St) (tt : CA → TT) (te : CA → TE) (J : It) (H1 : Hp) (Q : List V → Hp → Prop) : Prop :=
  ∃ W : Nat → Nat → List V → Hp → Prop, (∃ m, W 0 m [] H1) ∧ ∀ i m ys H, W i m ys H → ys.length ≤ sizeLine ∧
    ((J.stop i H ∧ Q ys H) ∨ (J.go i H ∧ ∃ N : List V → Hp → Prop, (∀ ys' H', N ys' H' → ∃ m', m' < m ∧ W (i + 1) m' ys' H') ∧
      ∀ x H', J.yld i H x H' → ∀ a : CA, ∃ p v1 v2, x = .ref p ∧ SqT K H' p [v1, v2] ∧ tt a (((pad3 j1 j2 σ).set j1 (some v1)).set j2 (some v2)) H' fun b H2 => if b = true then te a (((pad3 j1 j2 σ).set j1 (some v1)).set j2 (some v2)) H2 fun y H3 => N (ys ++ [y]) H3 else N ys H2))
def tComp3 (K : PySem.W.Frag) (j1 j2 : Nat) (wi : TI) (tt : CA → TT) (te : CA → TE) : TE := fun σ H Q => wi σ H fun J H1 => RComp3 K j1 j2 σ tt te J H1 fun ys H2 => ∀ p, H2 p = none → Q (.ref p) (upd H2 p (.lst ys))
section
variable {X : Cx} {pins : List (Addr × Obj)} {σ : St} {H : Hp} {s : Shared}
theorem pg_two3 {scope : Scope} {j1 j2 : Nat} {x y : Str} {px py pt : Pos} {kt} (S : CompSc3 X.N X.env.scope scope j1 j2 x y) (hc : X.calm = true) (a : CA) :
    PG (cxComp X scope X.N a) (.Tuple [.Name x px, .Name y py] kt pt) (gTup X.K 2 (gCons (gName j1) (gCons (gName j2) gNil))) :=
  pg_tup (X := cxComp X scope X.N a) (n := 2) hc (pgs_cons (pg_name S.nd S.at1 (.inl (lookup_relabel_local S.locx)) (.inr (lookup_relabel_local S.locx))) (pgs_cons (pg_name S.nd S.at2 (.inl (lookup_relabel_local S.locy)) (.inr (lookup_relabel_local S.locy))) pgs_nil))
theorem comp_core3 {elt iter : Expr} {x y2 : Str} {px py pt pos : Pos} {kt} {ifs : List Expr} {scope : Scope} {j1 j2 : Nat} {tt : CA → TT} {te : CA → TE} {it : Addr} {fp : List Addr} {tn : Nat → Heap → Prop} {J : It} {Q : List V → Hp → Prop}
    {RR : Value → Addr → Result → Shared → Prop} {E : Value → Shared → Prop}
    (S : CompSc3 X.N X.env.scope scope j1 j2 x y2) (hc : X.calm = true)
    (ht : ∀ a : CA, PTs (cxComp X scope X.N a) ifs (tt a)) (he : ∀ a : CA, PE (cxComp X scope X.N a) elt (te a))
    (I : Inv X pins σ H s) (T : Turn X.prog X.w X.K (.Tuple [.Name x px, .Name y2 py] kt pt) J fp it tn) (st : tn 0 s.heap) (f2 : ∀ b ∈ fp, FpOk X pins H b) (h : RComp3 X.K j1 j2 σ tt te J H Q)
    (hRR : ∀ (D C : Addr) (ys : List V) (H' : Hp) (s' : Shared) (m : Str → Option Value), s'.heap.Ns C m → Own X pins (upd H' D (.lst ys)) C → Inv X pins σ (upd H' D (.lst ys)) s' → H' D = none → Q ys H' → RR (.ref D) C (.ok .next) s') :
    wpAny (model X.prog X.w) X.A (newList []) (fun acc s₃ => wpAny (model X.prog X.w) X.A (newFunctionEnv scope X.env.globals (closOf X.env.cells scope.names []) [] X.env.qual none .none (some X.env)) (fun cenv s₄ =>
      codeAny (model X.prog X.w) X.A (.compStart (.ListComp elt [⟨.Tuple [.Name x px, .Name y2 py] kt pt, iter, ifs, 0⟩] scope pos) 0 (.ref it) acc { cenv with scope := relabel scope X.env }) (RR acc cenv.locals) s₄) E s₃) E s := by
  refine wpAny_newObj_type (wpAny_newFunctionEnv S.cell (by intro y hy; simp at hy) (fun h₁ hns₁ hsb₁ => ?_) S.kind)
  dsimp only at hns₁ hsb₁ ⊢
  generalize hH2 : s.heap.push { cls := .type "list", dict := none, data := .seq ([] : List Value).toArray } = H2 at hns₁ hsb₁ ⊢
  have hC : H2.objs.size = s.heap.objs.size + 1 := by rw [← hH2, Heap.size_push]
  have hDC : s.heap.objs.size ≠ H2.objs.size := by rw [hC]; exact Nat.ne_of_lt (Nat.lt_succ_self _)
  have hCle : s.heap.objs.size ≤ H2.objs.size := by rw [hC]; exact Nat.le_succ _
  have below : ∀ b, b < s.heap.objs.size → b ≠ H2.objs.size ∧ b ≠ s.heap.objs.size := fun b hb => ⟨by rw [hC]; exact Nat.ne_of_lt (Nat.lt_succ_of_lt hb), Nat.ne_of_lt hb⟩
  have old : ∀ b o, s.heap.get? b = some o → h₁.get? b = some o := fun b o e => hsb₁.extBut b o (below b (Heap.lt_size e)).1 (Heap.get?_push_of_some _ (hH2 ▸ Heap.get?_push_of_some _ e))
  have hacc : h₁.get? s.heap.objs.size = some { cls := .type "list", data := .seq ([] : List Value).toArray } := hsb₁.extBut _ _ hDC (Heap.get?_push_of_some _ (hH2 ▸ Heap.get?_push_size _ rfl))
  have fplt : ∀ b ∈ fp, b < s.heap.objs.size := fun b hb => let ⟨_, e, _⟩ := T.obj 0 _ st b hb; Heap.lt_size e
  -- names
  have hcells : ∀ y ∈ scope.names, y.2 = .free → ∃ c, X.env.cells.lookup y.1 = some c := fun y hy e => I.ok.has y.1 (.inl (S.free y hy e))
  have sub : ∀ y c, (closOf X.env.cells scope.names []).lookup y = some c → X.env.cells.lookup y = some c := closOf_sub hcells (fun y c e => by cases e)
  -- the context
  let a : CA := ⟨s, H, H2.objs.size, fp⟩
  have ok : (cxComp X scope X.N a).Ok := by
    refine ⟨I.ok.mod, S.kind, I.ok.glob, I.ok.blt, hCle, fun y z c e1 e2 => I.ok.inj y z c (sub y c e1) (sub z c e2), fun y hy => ?_, fun y c z => ?_, I.ok.hd, I.ok.frames, .inl rfl, fun b hb => ⟨(below b (fplt b hb)).1, fun y c e => (f2 b hb).2.2.2.2.1 y c (sub y c e)⟩, I.bs,
      Nat.le_trans I.ok.bsz I.sz, fun b o e hb => ?_, fun b hb z => ?_, I.stack, I.stkFree⟩
    · exact closOf_has (lookup_relabel_free hy S.cell)
    · cases z
    · rcases (f2 b hb).2.2.2.1 with z | z
      · exact I.ok.noex b o e z
      · exact absurd (Nat.lt_of_lt_of_le (Heap.lt_size (I.ok.bs b o e).1) z) (Nat.lt_irrefl _)
    · rcases List.mem_cons.mp (I.stkSub b z) with e | e
      · exact (f2 b hb).2.1 e
      · exact (f2 b hb).2.2.1 e
  -- the captured names, at any heap that keeps the cells
  have look : ∀ (h' : Heap) (m' : Str → Option Value), (∀ y c, X.env.cells.lookup y = some c → ∀ v, s.heap.IsCell c v → h'.IsCell c v) → ∀ (i : Nat) (y : Str) (v : V), X.N[i]? = some y → (pad3 j1 j2 σ)[i]? = some (some v) →
      Vis (relabel scope X.env) y → ∃ u, RelV v u ∧ Look (compEnvC scope (closOf X.env.cells scope.names []) H2.objs.size X.env) h' m' y u := by
    intro h' m' kc i y v e1 e2 e3
    obtain ⟨n1, n2, e4⟩ := pad3_get e2
    have e5 : X.N[i]? = some y := e1
    have nx : y ≠ x := fun z => n1 (nodup_ix S.nd e1 (by rw [z]; exact S.at1))
    have ny : y ≠ y2 := fun z => n2 (nodup_ix S.nd e1 (by rw [z]; exact S.at2))
    have hy : (y, NameKind.free) ∈ scope.names := by
      rcases e3 with e3 | e3 | e3
      · rcases S.only _ (lookup_relabel_loc e3) rfl with z | z | z
        · exact absurd z nx
        · exact absurd z ny
        · exact absurd (List.mem_of_getElem? e1) z
      · exact lookup_relabel_free (.inl e3) S.cell
      · exact lookup_relabel_free (.inr e3) S.cell
    have kcell : X.env.scope.names.lookup y = some .cell := S.free _ hy rfl
    obtain ⟨m0, hn0, hl0⟩ := I.loc
    obtain ⟨u, r, l⟩ := hl0 i y v e5 e4 (.inr (.inl kcell))
    refine ⟨u, r, .inr ⟨?_, ?_⟩⟩
    · rcases e3 with e3 | e3 | e3
      · rcases S.only _ (lookup_relabel_loc e3) rfl with z | z | z
        · exact absurd z nx
        · exact absurd z ny
        · exact absurd (List.mem_of_getElem? e1) z
      · exact .inl e3
      · exact .inr e3
    · rcases l with ⟨k, _⟩ | ⟨k, c, e, z⟩
      · have k' : X.env.scope.names.lookup y = some .local := k
        rw [kcell] at k'; cases k'
      · obtain ⟨c', e'⟩ := closOf_has (cells := X.env.cells) (cs := []) hy
        have e'' := sub y c' e'
        rw [e] at e''
        cases e''
        exact ⟨c, e', kc y c e _ z⟩
  have cellOld : ∀ y c, X.env.cells.lookup y = some c → ∀ v, s.heap.IsCell c v → h₁.IsCell c v := fun y c _ v ⟨o, ho, hd⟩ => ⟨o, old c o ho, hd⟩
  have fr0 : ∀ b, s.heap.objs.size ≤ b → H b = none := fun b hb => I.hok.fresh hb
  have noPn : ∀ p, p ∉ (cxComp X scope X.N a).pn ++ ([] : List (Addr × Obj)) := fun p hp => by simp at hp
  -- the entry
  have I0 : Inv (cxComp X scope X.N a) [] (pad3 j1 j2 σ) H { s with heap := h₁, toks := s.toks + ([] : List (Str × Value)).length } := by
    refine ⟨ok, rfl, I.bare, Un.kept old, ⟨_, hns₁, look h₁ _ cellOld⟩, fun y c e => ?_, fr0 _ hCle, fun y c e => I.freeC y c (sub y c e), fun p hp => absurd hp (noPn p), I.hok.kept old, by unfold pad3; rw [List.length_set, List.length_set, I.len]⟩
    obtain ⟨v, z⟩ := I.cell y c (sub y c e)
    exact ⟨v, cellOld y c (sub y c e) v z⟩
  obtain ⟨W, ⟨m0, w0⟩, turn⟩ := h
  have loop : ∀ s₃ : Shared, s₃ = { s with heap := h₁, toks := s.toks + ([] : List (Str × Value)).length } →
      codeAny (model X.prog X.w) X.A (.compLoop (.ListComp elt [⟨.Tuple [.Name x px, .Name y2 py] kt pt, iter, ifs, 0⟩] scope pos) 0 (.ref it) (.ref s.heap.objs.size) (compEnvC scope (closOf X.env.cells scope.names []) H2.objs.size X.env)) (RR (.ref s.heap.objs.size) H2.objs.size) s₃ := by
    rintro s₃ rfl
    refine compLoop_go (fun k s' => ∃ (i : Nat) (ys : List V) (its : List Value) (n : Nat) (H' : Hp), Inv (cxComp X scope X.N a) [] (pad3 j1 j2 σ) H' s' ∧ s'.heap.get? s.heap.objs.size = some { cls := .type "list", data := .seq its.toArray n } ∧ Vals ys its ∧
      H' s.heap.objs.size = none ∧ tn i s'.heap ∧ (∀ b ∈ fp, H' b = none) ∧ W i k ys H') ?_ m0
      ⟨0, [], [], 0, H, I0, hacc, .nil, fr0 _ (Nat.le_refl _), T.keep _ _ _ st fun b hb o e => old b o e, fun b hb => (f2 b hb).1, w0⟩
    rintro k s' ⟨i, ys, its, n, H', I', hD, rv, nD', st', fr', w'⟩ E'
    obtain ⟨hz, hw⟩ := turn i k ys H' w'
    have ownD : Own (cxComp X scope X.N a) [] H' s.heap.objs.size := ⟨nD', hDC, Nat.le_refl _, fun y c e z => by
      obtain ⟨v, q⟩ := I.cell y c (sub y c e)
      exact absurd q.lt (by rw [z]; exact Nat.lt_irrefl _), fun p hp => absurd hp (noPn p)⟩
    have fpok : ∀ (pl : List (Addr × Obj)) (H'' : Hp), (∀ b ∈ fp, H'' b = none) → (∀ p ∈ pl, p.1 ∉ fp) → ∀ b ∈ fp, FpOk (cxComp X scope X.N a) pl H'' b := fun pl H'' hn hpl b hb =>
      ⟨hn b hb, (below b (fplt b hb)).1, fun z => by
        rcases List.mem_cons.mp (I.stkSub b z) with e | e
        · exact (f2 b hb).2.1 e
        · exact (f2 b hb).2.2.1 e, .inl hb, fun y c e => (f2 b hb).2.2.2.2.1 y c (sub y c e), fun p hp z => by
        have hp' : p ∈ pl := by simpa using hp
        exact hpl p hp' (z ▸ hb)⟩
    have nDfp : s.heap.objs.size ∉ fp := fun z => absurd (fplt _ z) (Nat.lt_irrefl _)
    -- D is pinned through a turn
    have pinD : ∀ p ∈ ([(s.heap.objs.size, { cls := .type "list", data := .seq its.toArray n })] : List (Addr × Obj)), s'.heap.get? p.1 = some p.2 ∧ H' p.1 = none ∧ p.1 ≠ (cxComp X scope X.N a).env.locals ∧ p.1 ∉ (cxComp X scope X.N a).fs ∧ ∀ v, p.2.data ≠ .cell v := fun p hp => by
      have e : p = (s.heap.objs.size, { cls := .type "list", data := .seq its.toArray n }) := by simpa using hp
      subst e
      refine ⟨hD, nD', hDC, fun z => ?_, fun v z => by cases z⟩
      rcases List.mem_cons.mp (I.stkSub _ z) with e | e
      · exact absurd I.lt (by rw [← e]; exact Nat.lt_irrefl _)
      · exact I.nofs (Nat.le_refl _) e
    have Ip := I'.pins_of pinD
    have hpl : ∀ p ∈ ([(s.heap.objs.size, { cls := .type "list", data := .seq its.toArray n })] : List (Addr × Obj)), p.1 ∉ fp := fun p hp => by
      have e : p = (s.heap.objs.size, { cls := .type "list", data := .seq its.toArray n }) := by simpa using hp
      subst e
      exact nDfp
    rcases hw with ⟨stop, q⟩ | ⟨go, N, hN, step⟩
    · refine thn (T.done (cxComp X scope X.N a) rfl rfl rfl hc i _ s' _ H' E' Ip (fpok _ H' fr' hpl) st' stop) fun r s4 ⟨hr, I4⟩ => ?_
      subst hr
      have hD4 := (I4.pin (s.heap.objs.size, { cls := .type "list", data := .seq its.toArray n }) (by simp)).1
      have J4 : Inv X pins σ H' s4 := I.call' (ch := fp) I4.os I4.base I4.hok I4.bare fun b hb => ⟨(f2 b hb).2.2.2.1, (f2 b hb).2.1, (f2 b hb).2.2.2.2.1, (f2 b hb).2.2.2.2.2⟩
      obtain ⟨m4, hn4, _⟩ := I4.loc
      have hC4 : H' H2.objs.size = none := I4.free
      exact hRR _ _ ys H' s4 m4 hn4 (I.own hCle (by rw [upd_ne (Ne.symm hDC)]; exact hC4)) (J4.track (I.own (Nat.le_refl _) nD') hD4 rv hz) nD' q
    · refine thn (T.item (cxComp X scope X.N a) rfl rfl rfl hc i _ s' _ H' E' Ip (fpok _ H' fr' hpl) st' go) fun r s5 ⟨u, hr, h5⟩ => ?_
      subst hr
      refine thn h5 fun _ s6 ⟨xv, H6, I6, r6, y6, st6, fr6⟩ => ?_
      have I6' := I6.pinned (fpok _ H6 fr6 hpl) (T.obj _ _ st6)
      obtain ⟨pa, v1, v2, exv, hsq, step6⟩ := step xv H6 y6 a
      have hgt : gTup X.K 2 (gCons (gName j1) (gCons (gName j2) gNil)) xv (pad3 j1 j2 σ) H6 (fun σ7 H7 => σ7 = ((pad3 j1 j2 σ).set j1 (some v1)).set j2 (some v2) ∧ H6 = H7) := ⟨pa, [v1, v2], exv, hsq, rfl, v1, [v2], rfl, v2, [], rfl, rfl, rfl, rfl⟩
      refine wpAny_mono (pg_two3 S hc a _ s6 _ H6 xv u _ I6' r6 hgt) (fun _ s7 ⟨σ7, H7, I7, e7, e7'⟩ => ?_) fun _ _ z => z.elim
      subst e7 e7'
      have wk : ∀ (i : Nat) v, (pad3 j1 j2 σ)[i]? = some (some v) → (((pad3 j1 j2 σ).set j1 (some v1)).set j2 (some v2))[i]? = some (some v) := fun i v e => by
        obtain ⟨n1, n2, _⟩ := pad3_get e
        rw [List.getElem?_set_ne (Ne.symm n2), List.getElem?_set_ne (Ne.symm n1)]; exact e
      refine wpAny_mono (ht a _ s7 _ H6 _ I7 step6) (fun ok s8 ⟨H8, I8, q8⟩ => ?_) fun _ _ z => z.elim
      have tnk : ∀ {H9 : Hp} {s9 : Shared} {σ9 : St}, Inv (cxComp X scope X.N a) ([(s.heap.objs.size, { cls := .type "list", data := .seq its.toArray n })] ++ pinsAt fp s6.heap) σ9 H9 s9 → tn (i + 1) s9.heap ∧ (∀ b ∈ fp, H9 b = none) ∧ s9.heap.get? s.heap.objs.size = some { cls := .type "list", data := .seq its.toArray n } ∧ H9 s.heap.objs.size = none := fun {H9 s9 σ9} I9 => by
        refine ⟨T.keep _ _ _ st6 fun b hb o e => (I9.pin (b, o) (List.mem_append_right _ (List.mem_append_right _ (mem_pinsAt hb e)))).1, fun b hb => ?_, ?_⟩
        · obtain ⟨o, e, d⟩ := T.obj _ _ st6 b hb
          exact (I9.pin (b, o) (List.mem_append_right _ (List.mem_append_right _ (mem_pinsAt hb e)))).2.1
        · have z := I9.pin (s.heap.objs.size, { cls := .type "list", data := .seq its.toArray n }) (List.mem_append_right _ (List.mem_append_left _ (by simp)))
          exact ⟨z.1, z.2.1⟩
      cases ok with
      | false =>
        obtain ⟨m', hm, w8⟩ : ∃ m', m' < k ∧ W (i + 1) m' ys H8 := hN _ _ (by simpa using q8)
        obtain ⟨t1, t2, t3, t4⟩ := tnk I8
        exact ⟨m', hm, i + 1, ys, its, n, H8, (I8.pins_of (pins' := []) fun p hp => nomatch hp).weak (by rw [List.length_set, List.length_set]) wk, t3, rv, t4, t1, t2, w8⟩
      | true =>
        have q8' := q8
        simp only [if_true] at q8'
        refine wpAny_mono (he a _ s8 _ H8 _ I8 q8') (fun u9 s9 ⟨v9, H9, I9, r9, q9⟩ => ?_) fun _ _ z => z.elim
        obtain ⟨m', hm, w9⟩ := hN _ _ q9
        obtain ⟨t1, t2, t3, t4⟩ := tnk I9
        have hl := rv.length
        refine append_at (hsz := by show its.toArray.size ≤ sizeLine; rw [List.size_toArray, ← hl]; exact hz) t3 fun h' hs' hD' => ?_
        have J9 := ((I9.pins_of (pins' := []) fun p hp => nomatch hp).weak (σ' := pad3 j1 j2 σ) (by rw [List.length_set, List.length_set]) wk).own_turn (C := s.heap.objs.size) ⟨t4, ownD.ne, ownD.ab, ownD.ce, ownD.pi⟩ hs'
        refine ⟨m', hm, i + 1, ys ++ [v9], its ++ [u9], n + 1, H9, J9, ?_, Vals.append rv (.cons r9 .nil), t4, T.keep _ _ _ t1 fun b hb o e => (hs'.2 b fun z => nDfp (z ▸ hb)).trans e, t2, w9⟩
        rw [List.push_toArray] at hD'
        exact hD'
  exact codeAny_compStart_list (loop _ rfl) (T.self _ 0 _ _ _ (T.keep _ _ _ st fun b hb o e => old b o e) (loop _ rfl))


theorem ps_setC3 {elt iter : Expr} {x x2 y : Str} {px px2 ppt pos py spos : Pos} {kt} {ifs : List Expr} {scope : Scope} {j1 j2 i : Nat} {wi : TI} {tt : CA → TT} {te : CA → TE} {osc : Scope} {N : List Str}
    (nd : X.N.Nodup) (hi' : X.N[i]? = some y) (hy : Loc X.env.scope y)
    (S : CompSc3 N osc scope j1 j2 x x2) (hc : X.calm = true) (hi : PI X (.Tuple [.Name x px, .Name x2 px2] kt ppt) iter wi) (ht : ∀ a : CA, PTs (cxComp X scope N a) ifs (tt a)) (he : ∀ a : CA, PE (cxComp X scope N a) elt (te a))
    (hsw : swapsWith (.ListComp elt [⟨.Tuple [.Name x px, .Name x2 px2] kt ppt, iter, ifs, 0⟩] scope pos) (some (.Name y py)) spos.line X.env = pure true := by rfl)
    (hf : X.fn y = true ∨ X.env.scope.names.lookup y = some .local := by first | exact .inl rfl | exact .inr rfl | assumption)
    (ho : X.env.scope = osc := by rfl) (hN : X.N = N := by rfl) (hs : ∀ x, foldedSetIterable iter X.env x = pure x := by intro _; rfl) :
    PS X (.Assign [.Name y py] (.ListComp elt [⟨.Tuple [.Name x px, .Name x2 px2] kt ppt, iter, ifs, 0⟩] scope pos) spos) (fun D σ H => tComp3 X.K j1 j2 wi tt te σ H fun v H1 => D.nx (σ.set i (some v)) H1) := by
  subst ho hN
  intro pins s σ H D I h
  have hcells : ∀ y ∈ scope.names, y.2 = .free → ∃ c, X.env.cells.lookup y.1 = some c := fun y hy e => I.ok.has y.1 (.inl (S.free y hy e))
  rw [exec_Assign_Name_used _ _ _ _ hsw]
  refine wpAny_bind (wpAny_standAt (wpAny_bind ?_))
  show wpAny _ X.A (do let _ ← comprehension (.ListComp elt [⟨.Tuple [.Name x px, .Name x2 px2] kt ppt, iter, ifs, 0⟩] scope pos) scope X.env _ (newList []) false (eval iter X.env) (some (assign (.Name y py) X.env))) _ _ s
  refine wpAny_bind (wpAny_mono (wpAny_comprehension_free (use := some (assign (.Name y py) X.env)) (Q := fun _ s' => SP X pins D .next s') rfl hs (closureFor_eq hcells) S.kind S.names
    (wpAny_mono (hi pins s σ H _ I h) (fun xv s₁ h₁ => wpAny_mono h₁ (fun itv s₂ h₂ => ?_) fun _ _ e => e) fun _ _ e => e)) (fun _ s' hq => wpAny_pure (wpAny_pure hq)) fun _ _ e => e)
  obtain ⟨it, fp, tn, J, H2, rfl, I2, T, st2, f2, q2⟩ := h₂
  refine comp_core3 (RR := fun acc C => compPost (model X.prog X.w) X.A X.xe (some (assign (.Name y py) X.env)) (fun _ s' => SP X pins D .next s') acc C) S hc ht he I2 T st2 f2 q2 ?_
  intro Da C ys H' s' m hn own I' hD q
  show wpAny _ X.A (assign (.Name y py) X.env (.ref Da)) _ _ _
  refine wpAny_assign_Name (store_ok2 (v := V.ref Da) I' nd hi' hy rfl (fun s2 I2' hsb => ?_) hf)
  obtain ⟨b, hs2, hb⟩ := hsb
  have hCb : C ≠ b := by
    rcases hb with rfl | hb
    · exact own.ne
    · exact fun z => own.ce _ _ hb z.symm
  refine ⟨m, hn.sameBut hs2 hCb, fun h' hs' => ⟨_, _, I2'.own_turn own hs', q Da hD⟩⟩
end
theorem comp_list3 {K : PySem.W.Frag} {a0 : Addr} {xs : List V} {j1 j2 : Nat} {σ : St} {tt : CA → TT} {te : CA → TE} {H1 : Hp} {Q : List V → Hp → Prop} (Pv : Nat → List V → Hp → Prop) (hz : xs.length < sizeLine) (h0 : Pv 0 [] H1)
    (hl : ∀ i ys H, i ≤ xs.length → Pv i ys H → ys.length ≤ i ∧ SqL K H a0 xs)
    (hs : ∀ i x ys H, xs[i]? = some x → Pv i ys H → ∀ a : CA, ∃ p v1 v2, x = .ref p ∧ SqT K H p [v1, v2] ∧ tt a (((pad3 j1 j2 σ).set j1 (some v1)).set j2 (some v2)) H fun b H2 => if b = true then te a (((pad3 j1 j2 σ).set j1 (some v1)).set j2 (some v2)) H2 fun y H3 => Pv (i + 1) (ys ++ [y]) H3 else Pv (i + 1) ys H2)
    (hd : ∀ ys H, Pv xs.length ys H → Q ys H) : RComp3 K j1 j2 σ tt te (Itl K a0) H1 Q := by
  refine ⟨fun i m ys H => m = xs.length - i ∧ i ≤ xs.length ∧ Pv i ys H, ⟨xs.length, by simp, Nat.zero_le _, h0⟩, ?_⟩
  rintro i m ys H ⟨rfl, hi, p⟩
  obtain ⟨hy, q⟩ := hl i ys H hi p
  refine ⟨by omega, ?_⟩
  by_cases hlt : i < xs.length
  · refine .inr ⟨⟨xs, xs[i], q, by simp [hlt]⟩, Pv (i + 1), fun ys' H' p' => ⟨xs.length - (i + 1), by omega, rfl, hlt, p'⟩, fun x H' y => ?_⟩
    obtain ⟨e, y⟩ := y
    subst e
    exact hs i x ys _ (y xs q) p
  · have e : i = xs.length := by omega
    subst e
    exact .inl ⟨⟨xs, q, Nat.le_refl _⟩, hd ys H p⟩
end L2

/-! The law's own text by places, and what its top has written. -/
namespace My
open PySem L2
theorem usl0 {us : List Value} (h : us.length = 0) : us = [] := by
  match us, h with
  | [], _ => exact rfl
theorem usl1 {us : List Value} (h : us.length = 1) : ∃ a0, us = [a0] := by
  match us, h with
  | [a0], _ => exact ⟨a0, rfl⟩
theorem usl2 {us : List Value} (h : us.length = 2) : ∃ a0 a1, us = [a0, a1] := by
  match us, h with
  | [a0, a1], _ => exact ⟨a0, a1, rfl⟩
theorem usl3 {us : List Value} (h : us.length = 3) : ∃ a0 a1 a2, us = [a0, a1, a2] := by
  match us, h with
  | [a0, a1, a2], _ => exact ⟨a0, a1, a2, rfl⟩
theorem usl4 {us : List Value} (h : us.length = 4) : ∃ a0 a1 a2 a3, us = [a0, a1, a2, a3] := by
  match us, h with
  | [a0, a1, a2, a3], _ => exact ⟨a0, a1, a2, a3, rfl⟩
theorem usl5 {us : List Value} (h : us.length = 5) : ∃ a0 a1 a2 a3 a4, us = [a0, a1, a2, a3, a4] := by
  match us, h with
  | [a0, a1, a2, a3, a4], _ => exact ⟨a0, a1, a2, a3, a4, rfl⟩
theorem usl6 {us : List Value} (h : us.length = 6) : ∃ a0 a1 a2 a3 a4 a5, us = [a0, a1, a2, a3, a4, a5] := by
  match us, h with
  | [a0, a1, a2, a3, a4, a5], _ => exact ⟨a0, a1, a2, a3, a4, a5, rfl⟩
theorem usl7 {us : List Value} (h : us.length = 7) : ∃ a0 a1 a2 a3 a4 a5 a6, us = [a0, a1, a2, a3, a4, a5, a6] := by
  match us, h with
  | [a0, a1, a2, a3, a4, a5, a6], _ => exact ⟨a0, a1, a2, a3, a4, a5, a6, rfl⟩
theorem usl8 {us : List Value} (h : us.length = 8) : ∃ a0 a1 a2 a3 a4 a5 a6 a7, us = [a0, a1, a2, a3, a4, a5, a6, a7] := by
  match us, h with
  | [a0, a1, a2, a3, a4, a5, a6, a7], _ => exact ⟨a0, a1, a2, a3, a4, a5, a6, a7, rfl⟩
def top (i : Nat) : Stmt := PySem.Challenge.pw_trudge_k26_whole_backward.main.body.getD i (.Pass ⟨0, 0, 0, 0⟩)
abbrev s_is_whole : Stmt := top 1
abbrev s_effect_of_none : Stmt := top 6
abbrev s_effect_of_one : Stmt := top 7
abbrev s_effect_of : Stmt := top 8
abbrev s_passed : Stmt := top 9
abbrev s_joined : Stmt := top 10
abbrev s_repeated : Stmt := top 11
abbrev s_mirrored : Stmt := top 12
abbrev s_is_place : Stmt := top 22
abbrev s_turned_land : Stmt := top 23
abbrev s_changes_of : Stmt := top 24
abbrev s_behind_ways : Stmt := top 28
abbrev s_behind_part : Stmt := top 29
abbrev s_end_of : Stmt := top 30
abbrev s_length_of : Stmt := top 31
abbrev s_effect_by : Stmt := top 32
abbrev s_arrival : Stmt := top 33
abbrev s_backward : Stmt := top 34
abbrev s_hand : Stmt := top 36
abbrev s_next : Stmt := top 37
abbrev s_take : Stmt := top 38
abbrev s_draw : Stmt := top 39
abbrev s_scale : Stmt := top 40
abbrev s_change : Stmt := top 41
abbrev s_land : Stmt := top 42
abbrev s_store : Stmt := top 43
abbrev s_level : Stmt := top 44
abbrev s_trip : Stmt := top 45
abbrev s_is_trip : Stmt := top 47
abbrev s_comes : Stmt := top 48
abbrev s_levels_right : Stmt := top 49
abbrev s_law : Stmt := top 50
set_option genInjectivity false in
set_option genSizeOf false in
structure Txt (K : PySem.W.Frag) (mg : Str → Option Value) where
  n_abs : mg "abs" = none
  n_bool : mg "bool" = none
  n_enumerate : mg "enumerate" = none
  n_int : mg "int" = none
  n_isinstance : mg "isinstance" = none
  n_len : mg "len" = none
  n_list : mg "list" = none
  n_max : mg "max" = none
  n_min : mg "min" = none
  n_range : mg "range" = none
  n_reversed : mg "reversed" = none
  n_sum : mg "sum" = none
  n_tuple : mg "tuple" = none
  t_LEAST : Tok
  mg_LEAST : mg "LEAST" = some (.int 0 t_LEAST)
  t_GAIN : Tok
  mg_GAIN : mg "GAIN" = some (.int 1 t_GAIN)
  t_TOP : Tok
  mg_TOP : mg "TOP" = some (.int 2 t_TOP)
  t_MANY : Tok
  mg_MANY : mg "MANY" = some (.int 0 t_MANY)
  t_WAYS : Tok
  mg_WAYS : mg "WAYS" = some (.int 1 t_WAYS)
  t_START : Tok
  mg_START : mg "START" = some (.int 0 t_START)
  t_END : Tok
  mg_END : mg "END" = some (.int 1 t_END)
  t_CHANGE : Tok
  mg_CHANGE : mg "CHANGE" = some (.int 2 t_CHANGE)
  t_NUMBERS : Tok
  mg_NUMBERS : mg "NUMBERS" = some (.int 0 t_NUMBERS)
  t_TIMES : Tok
  mg_TIMES : mg "TIMES" = some (.int 1 t_TIMES)
  a_is_whole : Addr
  d_is_whole : FuncData
  F_is_whole : Fun K "is_whole" "is_whole" s_is_whole a_is_whole d_is_whole
  mg_is_whole : mg "is_whole" = some (.ref a_is_whole)
  kp_is_whole : PySem.W.keepIn K (.ref a_is_whole) = true
  a_effect_of_none : Addr
  d_effect_of_none : FuncData
  F_effect_of_none : Fun K "effect_of_none" "effect_of_none" s_effect_of_none a_effect_of_none d_effect_of_none
  mg_effect_of_none : mg "effect_of_none" = some (.ref a_effect_of_none)
  kp_effect_of_none : PySem.W.keepIn K (.ref a_effect_of_none) = true
  a_effect_of_one : Addr
  d_effect_of_one : FuncData
  F_effect_of_one : Fun K "effect_of_one" "effect_of_one" s_effect_of_one a_effect_of_one d_effect_of_one
  mg_effect_of_one : mg "effect_of_one" = some (.ref a_effect_of_one)
  kp_effect_of_one : PySem.W.keepIn K (.ref a_effect_of_one) = true
  a_effect_of : Addr
  d_effect_of : FuncData
  F_effect_of : Fun K "effect_of" "effect_of" s_effect_of a_effect_of d_effect_of
  mg_effect_of : mg "effect_of" = some (.ref a_effect_of)
  kp_effect_of : PySem.W.keepIn K (.ref a_effect_of) = true
  a_passed : Addr
  d_passed : FuncData
  F_passed : Fun K "passed" "passed" s_passed a_passed d_passed
  mg_passed : mg "passed" = some (.ref a_passed)
  kp_passed : PySem.W.keepIn K (.ref a_passed) = true
  a_joined : Addr
  d_joined : FuncData
  F_joined : Fun K "joined" "joined" s_joined a_joined d_joined
  mg_joined : mg "joined" = some (.ref a_joined)
  kp_joined : PySem.W.keepIn K (.ref a_joined) = true
  a_repeated : Addr
  d_repeated : FuncData
  F_repeated : Fun K "repeated" "repeated" s_repeated a_repeated d_repeated
  mg_repeated : mg "repeated" = some (.ref a_repeated)
  kp_repeated : PySem.W.keepIn K (.ref a_repeated) = true
  a_mirrored : Addr
  d_mirrored : FuncData
  F_mirrored : Fun K "mirrored" "mirrored" s_mirrored a_mirrored d_mirrored
  mg_mirrored : mg "mirrored" = some (.ref a_mirrored)
  kp_mirrored : PySem.W.keepIn K (.ref a_mirrored) = true
  a_is_place : Addr
  d_is_place : FuncData
  F_is_place : Fun K "is_place" "is_place" s_is_place a_is_place d_is_place
  mg_is_place : mg "is_place" = some (.ref a_is_place)
  kp_is_place : PySem.W.keepIn K (.ref a_is_place) = true
  a_turned_land : Addr
  d_turned_land : FuncData
  F_turned_land : Fun K "turned_land" "turned_land" s_turned_land a_turned_land d_turned_land
  mg_turned_land : mg "turned_land" = some (.ref a_turned_land)
  kp_turned_land : PySem.W.keepIn K (.ref a_turned_land) = true
  a_changes_of : Addr
  d_changes_of : FuncData
  F_changes_of : Fun K "changes_of" "changes_of" s_changes_of a_changes_of d_changes_of
  mg_changes_of : mg "changes_of" = some (.ref a_changes_of)
  kp_changes_of : PySem.W.keepIn K (.ref a_changes_of) = true
  a_behind_ways : Addr
  d_behind_ways : FuncData
  F_behind_ways : Fun K "behind_ways" "behind_ways" s_behind_ways a_behind_ways d_behind_ways
  mg_behind_ways : mg "behind_ways" = some (.ref a_behind_ways)
  kp_behind_ways : PySem.W.keepIn K (.ref a_behind_ways) = true
  a_behind_part : Addr
  d_behind_part : FuncData
  F_behind_part : Fun K "behind_part" "behind_part" s_behind_part a_behind_part d_behind_part
  mg_behind_part : mg "behind_part" = some (.ref a_behind_part)
  kp_behind_part : PySem.W.keepIn K (.ref a_behind_part) = true
  a_end_of : Addr
  d_end_of : FuncData
  F_end_of : Fun K "end_of" "end_of" s_end_of a_end_of d_end_of
  mg_end_of : mg "end_of" = some (.ref a_end_of)
  kp_end_of : PySem.W.keepIn K (.ref a_end_of) = true
  a_length_of : Addr
  d_length_of : FuncData
  F_length_of : Fun K "length_of" "length_of" s_length_of a_length_of d_length_of
  mg_length_of : mg "length_of" = some (.ref a_length_of)
  kp_length_of : PySem.W.keepIn K (.ref a_length_of) = true
  a_effect_by : Addr
  d_effect_by : FuncData
  F_effect_by : Fun K "effect_by" "effect_by" s_effect_by a_effect_by d_effect_by
  mg_effect_by : mg "effect_by" = some (.ref a_effect_by)
  kp_effect_by : PySem.W.keepIn K (.ref a_effect_by) = true
  a_arrival : Addr
  d_arrival : FuncData
  F_arrival : Fun K "arrival" "arrival" s_arrival a_arrival d_arrival
  mg_arrival : mg "arrival" = some (.ref a_arrival)
  kp_arrival : PySem.W.keepIn K (.ref a_arrival) = true
  a_backward : Addr
  d_backward : FuncData
  F_backward : Fun K "backward" "backward" s_backward a_backward d_backward
  mg_backward : mg "backward" = some (.ref a_backward)
  kp_backward : PySem.W.keepIn K (.ref a_backward) = true
  a_hand : Addr
  d_hand : FuncData
  F_hand : Fun K "_law_hand" "_law_hand" s_hand a_hand d_hand
  mg_hand : mg "_law_hand" = some (.ref a_hand)
  kp_hand : PySem.W.keepIn K (.ref a_hand) = true
  a_next : Addr
  d_next : FuncData
  F_next : Fun K "_law_next" "_law_next" s_next a_next d_next
  mg_next : mg "_law_next" = some (.ref a_next)
  kp_next : PySem.W.keepIn K (.ref a_next) = true
  a_take : Addr
  d_take : FuncData
  F_take : Fun K "_law_take" "_law_take" s_take a_take d_take
  mg_take : mg "_law_take" = some (.ref a_take)
  kp_take : PySem.W.keepIn K (.ref a_take) = true
  a_draw : Addr
  d_draw : FuncData
  F_draw : Fun K "_law_draw" "_law_draw" s_draw a_draw d_draw
  mg_draw : mg "_law_draw" = some (.ref a_draw)
  kp_draw : PySem.W.keepIn K (.ref a_draw) = true
  a_scale : Addr
  d_scale : FuncData
  F_scale : Fun K "_law_scale" "_law_scale" s_scale a_scale d_scale
  mg_scale : mg "_law_scale" = some (.ref a_scale)
  kp_scale : PySem.W.keepIn K (.ref a_scale) = true
  a_change : Addr
  d_change : FuncData
  F_change : Fun K "_law_change" "_law_change" s_change a_change d_change
  mg_change : mg "_law_change" = some (.ref a_change)
  kp_change : PySem.W.keepIn K (.ref a_change) = true
  a_land : Addr
  d_land : FuncData
  F_land : Fun K "_law_land" "_law_land" s_land a_land d_land
  mg_land : mg "_law_land" = some (.ref a_land)
  kp_land : PySem.W.keepIn K (.ref a_land) = true
  a_store : Addr
  d_store : FuncData
  F_store : Fun K "_law_store" "_law_store" s_store a_store d_store
  mg_store : mg "_law_store" = some (.ref a_store)
  kp_store : PySem.W.keepIn K (.ref a_store) = true
  a_level : Addr
  d_level : FuncData
  F_level : Fun K "_law_level" "_law_level" s_level a_level d_level
  mg_level : mg "_law_level" = some (.ref a_level)
  kp_level : PySem.W.keepIn K (.ref a_level) = true
  a_trip : Addr
  d_trip : FuncData
  F_trip : Fun K "_law_trip" "_law_trip" s_trip a_trip d_trip
  mg_trip : mg "_law_trip" = some (.ref a_trip)
  kp_trip : PySem.W.keepIn K (.ref a_trip) = true
  a_is_trip : Addr
  d_is_trip : FuncData
  F_is_trip : Fun K "_law_is_trip" "_law_is_trip" s_is_trip a_is_trip d_is_trip
  mg_is_trip : mg "_law_is_trip" = some (.ref a_is_trip)
  kp_is_trip : PySem.W.keepIn K (.ref a_is_trip) = true
  a_comes : Addr
  d_comes : FuncData
  F_comes : Fun K "_law_comes" "_law_comes" s_comes a_comes d_comes
  mg_comes : mg "_law_comes" = some (.ref a_comes)
  kp_comes : PySem.W.keepIn K (.ref a_comes) = true
  a_levels_right : Addr
  d_levels_right : FuncData
  F_levels_right : Fun K "_law_levels_right" "_law_levels_right" s_levels_right a_levels_right d_levels_right
  mg_levels_right : mg "_law_levels_right" = some (.ref a_levels_right)
  kp_levels_right : PySem.W.keepIn K (.ref a_levels_right) = true
  a_law : Addr
  d_law : FuncData
  F_law : Fun K "law" "law" s_law a_law d_law
  mg_law : mg "law" = some (.ref a_law)
  kp_law : PySem.W.keepIn K (.ref a_law) = true
theorem sc_is_whole : FnScope ["thing"] ["thing"] (defScope s_is_whole) := ⟨rfl, rfl, rfl, by decide +kernel, rfl, by decide +kernel, by decide +kernel⟩
theorem sc_effect_of_none : FnScope ["store"] ["store"] (defScope s_effect_of_none) := ⟨rfl, rfl, rfl, by decide +kernel, rfl, by decide +kernel, by decide +kernel⟩
theorem sc_effect_of_one : FnScope ["store", "change"] ["store", "change"] (defScope s_effect_of_one) := ⟨rfl, rfl, rfl, by decide +kernel, rfl, by decide +kernel, by decide +kernel⟩
theorem sc_effect_of : FnScope ["store", "changes", "whole", "change"] ["store", "changes"] (defScope s_effect_of) := ⟨rfl, rfl, rfl, by decide +kernel, rfl, by decide +kernel, by decide +kernel⟩
theorem sc_passed : FnScope ["effect", "level"] ["effect", "level"] (defScope s_passed) := ⟨rfl, rfl, rfl, by decide +kernel, rfl, by decide +kernel, by decide +kernel⟩
theorem sc_joined : FnScope ["one", "other", "least"] ["one", "other"] (defScope s_joined) := ⟨rfl, rfl, rfl, by decide +kernel, rfl, by decide +kernel, by decide +kernel⟩
theorem sc_repeated : FnScope ["store", "effect", "times", "whole", "power", "left"] ["store", "effect", "times"] (defScope s_repeated) := ⟨rfl, rfl, rfl, by decide +kernel, rfl, by decide +kernel, by decide +kernel⟩
theorem sc_mirrored : FnScope ["store", "effect"] ["store", "effect"] (defScope s_mirrored) := ⟨rfl, rfl, rfl, by decide +kernel, rfl, by decide +kernel, by decide +kernel⟩
theorem sc_is_place : FnScope ["many", "thing"] ["many", "thing"] (defScope s_is_place) := ⟨rfl, rfl, rfl, by decide +kernel, rfl, by decide +kernel, by decide +kernel⟩
theorem sc_turned_land : FnScope ["land"] ["land"] (defScope s_turned_land) := ⟨rfl, rfl, rfl, by decide +kernel, rfl, by decide +kernel, by decide +kernel⟩
theorem sc_changes_of : FnScope ["land", "numbers"] ["land", "numbers"] (defScope s_changes_of) := ⟨rfl, rfl, rfl, by decide +kernel, rfl, by decide +kernel, by decide +kernel⟩
theorem sc_behind_ways : FnScope ["land", "place", "numbers", "here", "number"] ["land", "place", "numbers"] (defScope s_behind_ways) := ⟨rfl, rfl, rfl, by decide +kernel, rfl, by decide +kernel, by decide +kernel⟩
theorem sc_behind_part : FnScope ["land", "place", "part", "behind"] ["land", "place", "part"] (defScope s_behind_part) := ⟨rfl, rfl, rfl, by decide +kernel, rfl, by decide +kernel, by decide +kernel⟩
theorem sc_end_of : FnScope ["land", "place", "trip", "here", "at", "part"] ["land", "place", "trip"] (defScope s_end_of) := ⟨rfl, rfl, rfl, by decide +kernel, rfl, by decide +kernel, by decide +kernel⟩
theorem sc_length_of : FnScope ["land", "place", "trip"] ["land", "place", "trip"] (defScope s_length_of) := ⟨rfl, rfl, rfl, by decide +kernel, rfl, by decide +kernel, by decide +kernel⟩
theorem sc_effect_by : FnScope ["land", "store", "place", "trip", "whole", "part", "once"] ["land", "store", "place", "trip"] (defScope s_effect_by) := ⟨rfl, rfl, rfl, by decide +kernel, rfl, by decide +kernel, by decide +kernel⟩
theorem sc_arrival : FnScope ["land", "store", "place", "level", "trip"] ["land", "store", "place", "level", "trip"] (defScope s_arrival) := ⟨rfl, rfl, rfl, by decide +kernel, rfl, by decide +kernel, by decide +kernel⟩
theorem sc_backward : FnScope ["trip"] ["trip"] (defScope s_backward) := ⟨rfl, rfl, rfl, by decide +kernel, rfl, by decide +kernel, by decide +kernel⟩
theorem sc_hand : FnScope ["_law_script"] ["_law_script"] (defScope s_hand) := ⟨rfl, rfl, rfl, by decide +kernel, rfl, by decide +kernel, by decide +kernel⟩
theorem sc_next : FnScope ["_law_hand_here"] ["_law_hand_here"] (defScope s_next) := ⟨rfl, rfl, rfl, by decide +kernel, rfl, by decide +kernel, by decide +kernel⟩
theorem sc_take : FnScope ["_law_hand_here", "_law_cell"] ["_law_hand_here"] (defScope s_take) := ⟨rfl, rfl, rfl, by decide +kernel, rfl, by decide +kernel, by decide +kernel⟩
theorem sc_draw : FnScope ["_law_hand_here", "_law_many", "_law_got", "_law_value", "_law_size"] ["_law_hand_here", "_law_many"] (defScope s_draw) := ⟨rfl, rfl, rfl, by decide +kernel, rfl, by decide +kernel, by decide +kernel⟩
theorem sc_scale : FnScope ["_law_hand_here"] ["_law_hand_here"] (defScope s_scale) := ⟨rfl, rfl, rfl, by decide +kernel, rfl, by decide +kernel, by decide +kernel⟩
theorem sc_change : FnScope ["_law_hand_here", "_law_scale_here"] ["_law_hand_here", "_law_scale_here"] (defScope s_change) := ⟨rfl, rfl, rfl, by decide +kernel, rfl, by decide +kernel, by decide +kernel⟩
theorem sc_land : FnScope ["_law_hand_here", "_law_places", "_law_ways", "_law_scale_here", "_law_many", "_law_rows", "_law_k", "_law_start", "_law_end"] ["_law_hand_here", "_law_places", "_law_ways", "_law_scale_here"] (defScope s_land) := ⟨rfl, rfl, rfl, by decide +kernel, rfl, by decide +kernel, by decide +kernel⟩
theorem sc_store : FnScope ["_law_hand_here", "_law_scale_here", "_law_way"] ["_law_hand_here", "_law_scale_here"] (defScope s_store) := ⟨rfl, rfl, rfl, by decide +kernel, rfl, by decide +kernel, by decide +kernel⟩
theorem sc_level : FnScope ["_law_hand_here", "_law_store_here"] ["_law_hand_here", "_law_store_here"] (defScope s_level) := ⟨rfl, rfl, rfl, by decide +kernel, rfl, by decide +kernel, by decide +kernel⟩
theorem sc_trip : FnScope ["_law_hand_here", "_law_land_here", "_law_place", "_law_parts", "_law_times", "_law_trip_here", "_law_k", "_law_ways", "_law_here", "_law_j", "_law_some", "_law_many"] ["_law_hand_here", "_law_land_here", "_law_place", "_law_parts", "_law_times"] (defScope s_trip) := ⟨rfl, rfl, rfl, by decide +kernel, rfl, by decide +kernel, by decide +kernel⟩
theorem sc_is_trip : FnScope ["_law_found", "_law_due", "_law_part"] ["_law_found", "_law_due"] (defScope s_is_trip) := ⟨rfl, rfl, rfl, by decide +kernel, rfl, by decide +kernel, by decide +kernel⟩
theorem sc_comes : FnScope ["_law_land_here", "_law_store_here", "_law_place", "_law_trip_here", "_law_x", "_law_y", "_law_level_here"] ["_law_land_here", "_law_store_here", "_law_place", "_law_trip_here", "_law_x", "_law_y"] (defScope s_comes) := ⟨rfl, rfl, rfl, by decide +kernel, rfl, by decide +kernel, by decide +kernel⟩
theorem sc_levels_right : FnScope ["_law_hand_here", "_law_land_here", "_law_store_here", "_law_place", "_law_end", "_law_trip_here", "_law_back", "_law_turned", "_law_top", "_law_k", "_law_x", "_law_y"] ["_law_hand_here", "_law_land_here", "_law_store_here", "_law_place", "_law_end", "_law_trip_here", "_law_back"] (defScope s_levels_right) := ⟨rfl, rfl, rfl, by decide +kernel, rfl, by decide +kernel, by decide +kernel⟩
theorem sc_law : FnScope ["_law_script", "_law_hand_here", "_law_scale_here", "_law_great", "_law_land_here", "_law_store_here", "_law_place", "_law_trip_here", "_law_due", "_law_numbers", "_law_times", "_law_kept", "_law_back", "_law_end", "_law_turned", "_law_one", "_law_other"] ["_law_script"] (defScope s_law) := ⟨rfl, rfl, rfl, by decide +kernel, rfl, by decide +kernel, by decide +kernel⟩
theorem bd_is_whole {K : PySem.W.Frag} {mg : Str → Option Value} (T : Txt K mg) : Binds K T.d_is_whole ["thing"] [] := T.F_is_whole.binds fun _ _ _ _ _ _ us hl => by obtain ⟨_, rfl⟩ := usl1 hl; rfl
theorem bd_effect_of_none {K : PySem.W.Frag} {mg : Str → Option Value} (T : Txt K mg) : Binds K T.d_effect_of_none ["store"] [] := T.F_effect_of_none.binds fun _ _ _ _ _ _ us hl => by obtain ⟨_, rfl⟩ := usl1 hl; rfl
theorem bd_effect_of_one {K : PySem.W.Frag} {mg : Str → Option Value} (T : Txt K mg) : Binds K T.d_effect_of_one ["store", "change"] [] := T.F_effect_of_one.binds fun _ _ _ _ _ _ us hl => by obtain ⟨_, _, rfl⟩ := usl2 hl; rfl
theorem bd_effect_of {K : PySem.W.Frag} {mg : Str → Option Value} (T : Txt K mg) : Binds K T.d_effect_of ["store", "changes"] [] := T.F_effect_of.binds fun _ _ _ _ _ _ us hl => by obtain ⟨_, _, rfl⟩ := usl2 hl; rfl
theorem bd_passed {K : PySem.W.Frag} {mg : Str → Option Value} (T : Txt K mg) : Binds K T.d_passed ["effect", "level"] [] := T.F_passed.binds fun _ _ _ _ _ _ us hl => by obtain ⟨_, _, rfl⟩ := usl2 hl; rfl
theorem bd_joined {K : PySem.W.Frag} {mg : Str → Option Value} (T : Txt K mg) : Binds K T.d_joined ["one", "other"] [] := T.F_joined.binds fun _ _ _ _ _ _ us hl => by obtain ⟨_, _, rfl⟩ := usl2 hl; rfl
theorem bd_repeated {K : PySem.W.Frag} {mg : Str → Option Value} (T : Txt K mg) : Binds K T.d_repeated ["store", "effect", "times"] [] := T.F_repeated.binds fun _ _ _ _ _ _ us hl => by obtain ⟨_, _, _, rfl⟩ := usl3 hl; rfl
theorem bd_mirrored {K : PySem.W.Frag} {mg : Str → Option Value} (T : Txt K mg) : Binds K T.d_mirrored ["store", "effect"] [] := T.F_mirrored.binds fun _ _ _ _ _ _ us hl => by obtain ⟨_, _, rfl⟩ := usl2 hl; rfl
theorem bd_is_place {K : PySem.W.Frag} {mg : Str → Option Value} (T : Txt K mg) : Binds K T.d_is_place ["many", "thing"] [] := T.F_is_place.binds fun _ _ _ _ _ _ us hl => by obtain ⟨_, _, rfl⟩ := usl2 hl; rfl
theorem bd_turned_land {K : PySem.W.Frag} {mg : Str → Option Value} (T : Txt K mg) : Binds K T.d_turned_land ["land"] [] := T.F_turned_land.binds fun _ _ _ _ _ _ us hl => by obtain ⟨_, rfl⟩ := usl1 hl; rfl
theorem bd_changes_of {K : PySem.W.Frag} {mg : Str → Option Value} (T : Txt K mg) : Binds K T.d_changes_of ["land", "numbers"] [] := T.F_changes_of.binds fun _ _ _ _ _ _ us hl => by obtain ⟨_, _, rfl⟩ := usl2 hl; rfl
theorem bd_behind_ways {K : PySem.W.Frag} {mg : Str → Option Value} (T : Txt K mg) : Binds K T.d_behind_ways ["land", "place", "numbers"] [] := T.F_behind_ways.binds fun _ _ _ _ _ _ us hl => by obtain ⟨_, _, _, rfl⟩ := usl3 hl; rfl
theorem bd_behind_part {K : PySem.W.Frag} {mg : Str → Option Value} (T : Txt K mg) : Binds K T.d_behind_part ["land", "place", "part"] [] := T.F_behind_part.binds fun _ _ _ _ _ _ us hl => by obtain ⟨_, _, _, rfl⟩ := usl3 hl; rfl
theorem bd_end_of {K : PySem.W.Frag} {mg : Str → Option Value} (T : Txt K mg) : Binds K T.d_end_of ["land", "place", "trip"] [] := T.F_end_of.binds fun _ _ _ _ _ _ us hl => by obtain ⟨_, _, _, rfl⟩ := usl3 hl; rfl
theorem bd_length_of {K : PySem.W.Frag} {mg : Str → Option Value} (T : Txt K mg) : Binds K T.d_length_of ["land", "place", "trip"] [] := T.F_length_of.binds fun _ _ _ _ _ _ us hl => by obtain ⟨_, _, _, rfl⟩ := usl3 hl; rfl
theorem bd_effect_by {K : PySem.W.Frag} {mg : Str → Option Value} (T : Txt K mg) : Binds K T.d_effect_by ["land", "store", "place", "trip"] [] := T.F_effect_by.binds fun _ _ _ _ _ _ us hl => by obtain ⟨_, _, _, _, rfl⟩ := usl4 hl; rfl
theorem bd_arrival {K : PySem.W.Frag} {mg : Str → Option Value} (T : Txt K mg) : Binds K T.d_arrival ["land", "store", "place", "level", "trip"] [] := T.F_arrival.binds fun _ _ _ _ _ _ us hl => by obtain ⟨_, _, _, _, _, rfl⟩ := usl5 hl; rfl
theorem bd_backward {K : PySem.W.Frag} {mg : Str → Option Value} (T : Txt K mg) : Binds K T.d_backward ["trip"] [] := T.F_backward.binds fun _ _ _ _ _ _ us hl => by obtain ⟨_, rfl⟩ := usl1 hl; rfl
theorem bd_hand {K : PySem.W.Frag} {mg : Str → Option Value} (T : Txt K mg) : Binds K T.d_hand ["_law_script"] [] := T.F_hand.binds fun _ _ _ _ _ _ us hl => by obtain ⟨_, rfl⟩ := usl1 hl; rfl
theorem bd_next {K : PySem.W.Frag} {mg : Str → Option Value} (T : Txt K mg) : Binds K T.d_next ["_law_hand_here"] [] := T.F_next.binds fun _ _ _ _ _ _ us hl => by obtain ⟨_, rfl⟩ := usl1 hl; rfl
theorem bd_take {K : PySem.W.Frag} {mg : Str → Option Value} (T : Txt K mg) : Binds K T.d_take ["_law_hand_here"] [] := T.F_take.binds fun _ _ _ _ _ _ us hl => by obtain ⟨_, rfl⟩ := usl1 hl; rfl
theorem bd_draw {K : PySem.W.Frag} {mg : Str → Option Value} (T : Txt K mg) : Binds K T.d_draw ["_law_hand_here", "_law_many"] [] := T.F_draw.binds fun _ _ _ _ _ _ us hl => by obtain ⟨_, _, rfl⟩ := usl2 hl; rfl
theorem bd_scale {K : PySem.W.Frag} {mg : Str → Option Value} (T : Txt K mg) : Binds K T.d_scale ["_law_hand_here"] [] := T.F_scale.binds fun _ _ _ _ _ _ us hl => by obtain ⟨_, rfl⟩ := usl1 hl; rfl
theorem bd_change {K : PySem.W.Frag} {mg : Str → Option Value} (T : Txt K mg) : Binds K T.d_change ["_law_hand_here", "_law_scale_here"] [] := T.F_change.binds fun _ _ _ _ _ _ us hl => by obtain ⟨_, _, rfl⟩ := usl2 hl; rfl
theorem bd_land {K : PySem.W.Frag} {mg : Str → Option Value} (T : Txt K mg) : Binds K T.d_land ["_law_hand_here", "_law_places", "_law_ways", "_law_scale_here"] [] := T.F_land.binds fun _ _ _ _ _ _ us hl => by obtain ⟨_, _, _, _, rfl⟩ := usl4 hl; rfl
theorem bd_store {K : PySem.W.Frag} {mg : Str → Option Value} (T : Txt K mg) : Binds K T.d_store ["_law_hand_here", "_law_scale_here"] [] := T.F_store.binds fun _ _ _ _ _ _ us hl => by obtain ⟨_, _, rfl⟩ := usl2 hl; rfl
theorem bd_level {K : PySem.W.Frag} {mg : Str → Option Value} (T : Txt K mg) : Binds K T.d_level ["_law_hand_here", "_law_store_here"] [] := T.F_level.binds fun _ _ _ _ _ _ us hl => by obtain ⟨_, _, rfl⟩ := usl2 hl; rfl
theorem bd_trip {K : PySem.W.Frag} {mg : Str → Option Value} (T : Txt K mg) : Binds K T.d_trip ["_law_hand_here", "_law_land_here", "_law_place", "_law_parts", "_law_times"] [] := T.F_trip.binds fun _ _ _ _ _ _ us hl => by obtain ⟨_, _, _, _, _, rfl⟩ := usl5 hl; rfl
theorem bd_is_trip {K : PySem.W.Frag} {mg : Str → Option Value} (T : Txt K mg) : Binds K T.d_is_trip ["_law_found", "_law_due"] [] := T.F_is_trip.binds fun _ _ _ _ _ _ us hl => by obtain ⟨_, _, rfl⟩ := usl2 hl; rfl
theorem bd_comes {K : PySem.W.Frag} {mg : Str → Option Value} (T : Txt K mg) : Binds K T.d_comes ["_law_land_here", "_law_store_here", "_law_place", "_law_trip_here", "_law_x", "_law_y"] [] := T.F_comes.binds fun _ _ _ _ _ _ us hl => by obtain ⟨_, _, _, _, _, _, rfl⟩ := usl6 hl; rfl
theorem bd_levels_right {K : PySem.W.Frag} {mg : Str → Option Value} (T : Txt K mg) : Binds K T.d_levels_right ["_law_hand_here", "_law_land_here", "_law_store_here", "_law_place", "_law_end", "_law_trip_here", "_law_back"] [] := T.F_levels_right.binds fun _ _ _ _ _ _ us hl => by obtain ⟨_, _, _, _, _, _, _, rfl⟩ := usl7 hl; rfl
theorem bd_law {K : PySem.W.Frag} {mg : Str → Option Value} (T : Txt K mg) : Binds K T.d_law ["_law_script"] [] := T.F_law.binds fun _ _ _ _ _ _ us hl => by obtain ⟨_, rfl⟩ := usl1 hl; rfl
/-! ### the hand: the draws' own state -/
def Hd (H : Hp) (a l : Addr) : Prop := ∃ (ns : List Int) (p b c u v : Int), H l = some (.lst (ns.map V.int)) ∧ 0 ≤ p ∧ H a = some (.lst [.ref l, .int p, .int b, .int c, .int u, .int v])
/-- all that was tracked is as it was, but what stands at a -/
def Kp (a : Addr) (H H' : Hp) : Prop := ∀ b o, H b = some o → b ≠ a → H' b = some o
theorem Kp.refl (a : Addr) (H : Hp) : Kp a H H := fun _ _ e _ => e
theorem Kp.trans {a : Addr} {H H1 H2 : Hp} (x : Kp a H H1) (y : Kp a H1 H2) : Kp a H H2 := fun b o e n => y b o (x b o e n) n
theorem Kp.lay {a p : Addr} {H H1 : Hp} {o : HO} (x : Kp a H H1) (h : H1 p = none) : Kp a H (upd H1 p o) := fun b u e n => by
  have e1 := x b u e n
  rw [upd_ne (ne_of_none e1 h)]; exact e1
theorem ne_hand {H : Hp} {a l : Addr} {ns : List Int} {xs : List V} (hl : H l = some (.lst (ns.map V.int))) (ha : H a = some (.lst (.ref l :: xs))) : l ≠ a := ne_of hl ha (by
  intro e
  injection e with e
  cases ns with
  | nil => cases e
  | cons n r => injection e with e1; cases e1)
theorem Hd.at1 {H : Hp} {a l : Addr} (h : Hd H a l) : ∃ o, H a = some o := let ⟨_, _, _, _, _, _, _, _, e⟩ := h; ⟨_, e⟩
theorem Hd.at2 {H : Hp} {a l : Addr} (h : Hd H a l) : ∃ o, H l = some o := let ⟨_, _, _, _, _, _, e, _⟩ := h; ⟨_, e⟩
theorem Hd.ne {H : Hp} {a l p : Addr} (h : Hd H a l) (hp : H p = none) : p ≠ a ∧ p ≠ l := by
  obtain ⟨o, e⟩ := h.at1
  obtain ⟨o', e'⟩ := h.at2
  exact ⟨(ne_of_none e hp).symm, (ne_of_none e' hp).symm⟩
theorem Hd.wr {H : Hp} {a l p : Addr} {o : HO} (h : Hd H a l) (n1 : p ≠ a) (n2 : p ≠ l) : Hd (upd H p o) a l := by
  obtain ⟨ns, q, b, c, u, v, h1, h2, h3⟩ := h
  exact ⟨ns, q, b, c, u, v, by rw [upd_ne n2.symm]; exact h1, h2, by rw [upd_ne n1.symm]; exact h3⟩
theorem Hd.lay {H : Hp} {a l p : Addr} {o : HO} (h : Hd H a l) (hp : H p = none) : Hd (upd H p o) a l := h.wr (h.ne hp).1 (h.ne hp).2
theorem Hd.same {H H' : Hp} {a l : Addr} (h : Hd H a l) (s : Same H H') : Hd H' a l := by
  obtain ⟨ns, q, b, c, u, v, h1, h2, h3⟩ := h
  exact ⟨ns, q, b, c, u, v, s _ _ h1, h2, s _ _ h3⟩
theorem up {H : Hp} {b p : Addr} {o x : HO} (h : H b = some o) (hp : H p = none) : upd H p x b = some o := by rw [upd_ne (ne_of_none h hp)]; exact h
theorem ne_new {H : Hp} {b p : Addr} {o : HO} (h : H b = some o) (hp : H p = none) : p ≠ b := (ne_of_none h hp).symm
theorem Kp.free {a p : Addr} {H H1 : Hp} {o : HO} (x : Kp a H H1) (e : H1 a = some o) (h : H1 p = none) : H p = none := by
  cases q : H p with
  | none => rfl
  | some u =>
    by_cases z : p = a
    · rw [z, e] at h; cases h
    · rw [x p u q z] at h; cases h
theorem _root_.L2.Same.lay {p : Addr} {H H1 : Hp} {o : HO} (x : Same H H1) (h : H1 p = none) : Same H (upd H1 p o) := fun b u e => by
  have e1 := x b u e
  rw [upd_ne (ne_of_none e1 h)]; exact e1
theorem _root_.L2.Same.kp {a : Addr} {H H1 : Hp} (x : Same H H1) : Kp a H H1 := fun b o e _ => x b o e
theorem atI_ints {ns : List Int} {p : Int} (h0 : 0 ≤ p) (h1 : p < (ns.length : Int)) : ∃ z, atI (ns.map V.int) p = some (.int z) := by
  obtain ⟨n, rfl⟩ := Int.eq_ofNat_of_zero_le h0
  have hp : n < ns.length := by omega
  exact ⟨ns[n], atI_nat (by rw [List.getElem?_map, List.getElem?_eq_getElem hp]; rfl)⟩
def spHand (K : PySem.W.Frag) : Sp := fun vs H Q _ => ∃ (a : Addr) (ns : List Int), vs = [.ref a] ∧ SqL K H a (ns.map V.int) ∧ ∀ (p l : Addr) (H' : Hp), H p = none → H l = none → Hd H' p l → Same H H' → Q (.ref p) H'
def spNext : Sp := fun vs H Q _ => ∃ a l, vs = [.ref a] ∧ Hd H a l ∧ ∀ (r : Int) (H' : Hp), Hd H' a l → Kp a H H' → Q (.int r) H'
def spTake : Sp := fun vs H Q _ => ∃ a l, vs = [.ref a] ∧ Hd H a l ∧ ∀ (H' : Hp), Hd H' a l → Kp a H H' → Q .non H'
def spDraw : Sp := fun vs H Q _ => ∃ a l m, vs = [.ref a, .int m] ∧ Hd H a l ∧ 0 < m ∧ m < 100000000000000000000000000000000000000000000000000000000000000 ∧ ∀ (r : Int) (H' : Hp), 0 ≤ r → r < m → Hd H' a l → Kp a H H' → Q (.int r) H'
section
variable {P : Program} {w : World} {K : PySem.W.Frag} {mg : Str → Option Value} {base : Heap}
theorem ok_hand (T : Txt K mg) : FnOk P w K mg base CX0 1 T.a_hand T.d_hand ["_law_script"] (spHand K) := by
  refine T.F_hand.ok sc_hand (fun vs H Q E h => ?_) (fun cdv A outer s H vs Q E hr h => ?_)
  · obtain ⟨a, ns, rfl, _⟩ := h
    rfl
  · obtain ⟨a, ns, rfl, hS, k⟩ := h
    refine ⟨_, (pss_one (ps_ret (pe_lst (pa_cons (pe_callTy call_list_of rfl T.n_list bt_list (pa_cons (pe_slice sl_list (pv 0) po_none (po_some pe_int)) pa_nil se_Subscript) (he := se_Subscript) (hpl := np_nil)) (pa_cons pe_int (pa_cons pe_int (pa_cons pe_int (pa_cons pe_int (pa_cons pe_int pa_nil se_Constant) se_Constant) se_Constant) se_Constant) se_Constant) se_Call)))), ?_⟩
    refine ⟨_, rfl, _, rfl, a, _, rfl, hS, fun p1 h1 => ⟨p1, _, rfl, .inl (SqL.of upd_same), fun l hl => ⟨(by show 6 ≤ sizeLine; decide), fun p hp => ?_⟩⟩⟩
    have n1 : p ≠ p1 := (ne_of_none (H := upd (upd H p1 _) l _) (by rw [upd_ne (ne_of_none upd_same hl)]; exact upd_same) hp).symm
    have n2 : p ≠ l := (ne_of_none (H := upd (upd H p1 _) l _) upd_same hp).symm
    have hp0 : H p = none := by rw [upd_ne n2, upd_ne n1] at hp; exact hp
    have hl0 : H l = none := by
      have nl : l ≠ p1 := (ne_of_none upd_same hl).symm
      rw [upd_ne nl] at hl; exact hl
    refine k p l _ hp0 hl0 ⟨(ns.drop (HT.sIx (ns.map V.int).length 0 none)).take (HT.sIx (ns.map V.int).length (ns.map V.int).length (some 63) - HT.sIx (ns.map V.int).length 0 none), 0, 0, 0, 20011, 40009, ?_, Int.le_refl _, upd_same⟩ (((Same.refl H).lay h1).lay hl |>.lay hp)
    rw [upd_ne n2.symm, upd_same]
    unfold cutV
    rw [List.map_take, List.map_drop]
theorem ok_next (T : Txt K mg) : FnOk P w K mg base CX0 1 T.a_next T.d_next ["_law_hand_here"] spNext := by
  refine T.F_next.ok sc_next (fun vs H Q E h => ?_) (fun cdv A outer s H vs Q E hr h => ?_)
  · obtain ⟨a, l, rfl, _⟩ := h
    rfl
  · obtain ⟨a, l, rfl, ⟨ns, p, b, c, u, v, hl, hp, ha⟩, k⟩ := h
    have ne := ne_hand hl ha
    refine ⟨_, (pss_cons (ps_asg (pe_op op_mod (pe_op op_mul (pe_ix ix_list (pv 0) pe_int (fun _ _ => rfl)) pe_int) pe_int) (pg_sub (pv 0) pe_int set_list))
      (pss_cons (ps_asg (pe_op op_mod (pe_op op_mul (pe_ix ix_list (pv 0) pe_int (fun _ _ => rfl)) pe_int) pe_int) (pg_sub (pv 0) pe_int set_list))
      (pss_one (ps_ret (pe_op op_add (pe_ix ix_list (pv 0) pe_int (fun _ _ => rfl)) (pe_ix ix_list (pv 0) pe_int (fun _ _ => rfl))))))), ?_⟩
    refine ⟨_, rfl, a, _, _, _, rfl, rfl, SqL.of ha, rfl, _, _, rfl, rfl, .inr ⟨by decide, by decide⟩, _, _, rfl, rfl, (by first | decide | (dsimp only; decide)), _, rfl, a, _, _, _, rfl, rfl, ha, rfl, ?_⟩
    refine ⟨_, rfl, a, _, _, _, rfl, rfl, SqL.of upd_same, rfl, _, _, rfl, rfl, .inr ⟨by decide, by decide⟩, _, _, rfl, rfl, (by first | decide | (dsimp only; decide)), _, rfl, a, _, _, _, rfl, rfl, upd_same, rfl, ?_⟩
    refine ⟨_, rfl, a, _, _, _, rfl, rfl, SqL.of upd_same, rfl, _, rfl, a, _, _, _, rfl, rfl, SqL.of upd_same, rfl, _, _, rfl, rfl, ?_⟩
    exact k _ _ ⟨ns, p, b, c, _, _, by rw [upd_ne ne, upd_ne ne]; exact hl, hp, upd_same⟩ fun b o e nb => by rw [upd_ne nb, upd_ne nb]; exact e
theorem ok_take (T : Txt K mg) : FnOk P w K mg base CX0 2 T.a_take T.d_take ["_law_hand_here"] spTake := by
  have G_next : FnOk P w K mg base CX0 1 T.a_next T.d_next ["_law_hand_here"] spNext := ok_next T
  have b_next := bd_next T
  refine T.F_take.ok sc_take (fun vs H Q E h => ?_) (fun cdv A outer s H vs Q E hr h => ?_)
  · obtain ⟨a, l, rfl, _⟩ := h
    rfl
  · obtain ⟨a, l, rfl, ⟨ns, p, b, c, u, v, hl, hp, ha⟩, k⟩ := h
    have ne := ne_hand hl ha
    refine ⟨_, (pss_cons (ps_set (i := 1) sc_take.nd rfl (Or.inl rfl) pe_int)
      (pss_cons (ps_mid (ps_if (pt_cmpR op_lt (pe_ix ix_list (pv 0) pe_int (fun _ _ => rfl)) (pe_callB call_len_seq rfl T.n_len bt_len (pa_cons (pe_ix ix_list (pv 0) pe_int (fun _ _ => rfl)) pa_nil se_Subscript) (he := se_Subscript) (hpl := np_nil)) (nomark _))
      (pss_one (ps_set (i := 1) sc_take.nd rfl (Or.inl rfl) (pe_callB call_abs rfl T.n_abs bt_abs (pa_cons (pe_ix ix_list (pe_ix ix_list (pv 0) pe_int (fun _ _ => rfl)) (pe_ix ix_list (pv 0) pe_int (fun _ _ => rfl)) (fun _ _ => rfl)) pa_nil se_Subscript) (he := se_Subscript) (hpl := np_nil))))
      pss_nil))
      (pss_cons (ps_augS (pv 0) pe_int get_list pe_int ip_add set_list)
      (pss_cons (ps_mid (ps_if (pt_cmpR op_ge (pv 1) (pe_op op_pow pe_int pe_int) (nomark _))
      (pss_one (ps_asg (pv 1) (pg_sub (pv 0) pe_int set_list)))
      (pss_one (ps_asg pe_int (pg_sub (pv 0) pe_int set_list)))))
      (pss_cons (ps_asg (pe_op op_add (pe_op op_mod (pe_op op_add (pe_ix ix_list (pv 0) pe_int (fun _ _ => rfl)) (pe_op op_mod (pv 1) pe_int)) pe_int) pe_int) (pg_sub (pv 0) pe_int set_list))
      (pss_cons (ps_asg (pe_op op_add (pe_op op_mod (pe_op op_add (pe_op op_mul (pe_ix ix_list (pv 0) pe_int (fun _ _ => rfl)) pe_int) (pe_op op_mod (pv 1) pe_int)) pe_int) pe_int) (pg_sub (pv 0) pe_int set_list))
      (pss_cons (ps_expr (pe_call G_next (hr.mono (by decide)) rfl T.mg_next T.kp_next b_next .nil pass0 (pa_cons (pv 0) pa_nil se_Name) (he := se_Name) (hpl := np_nil)))
      (pss_one (ps_expr (pe_call G_next (hr.mono (by decide)) rfl T.mg_next T.kp_next b_next .nil pass0 (pa_cons (pv 0) pa_nil se_Name) (he := se_Name) (hpl := np_nil))))))))))), ?_⟩
    refine ⟨fun σ H1 => H = H1 ∧ ∃ z : Int, σ = [some (.ref a), some (.int z)], ?_, ?_⟩
    · refine ⟨_, rfl, a, _, _, _, rfl, rfl, SqL.of ha, rfl, _, rfl, a, _, _, _, rfl, rfl, SqL.of ha, rfl, l, _, rfl, .inl (SqL.of hl), _, _, rfl, rfl, _, rfl, ?_⟩
      refine ite2 (fun hlt => ?_) (fun _ => ⟨rfl, _, rfl⟩)
      have hlt' : p < (ns.length : Int) := by simpa using hlt
      obtain ⟨z, hz⟩ := atI_ints hp hlt'
      exact ⟨_, rfl, a, _, _, _, rfl, rfl, SqL.of ha, rfl, _, rfl, a, _, _, _, rfl, rfl, SqL.of ha, rfl, l, _, _, _, rfl, rfl, SqL.of hl, hz, _, rfl, rfl, _, rfl⟩
    · rintro σ H1 ⟨rfl, z, rfl⟩
      refine ⟨_, rfl, a, _, _, _, rfl, rfl, (by first | decide | (dsimp only; decide)), SqL.of ha, rfl, _, _, rfl, rfl, a, _, _, _, rfl, rfl, ha, rfl, ?_⟩
      refine ⟨fun σ H1 => σ = [some (.ref a), some (.int z)] ∧ Hd H1 a l ∧ Kp a H H1, ?_, ?_⟩
      · refine ⟨_, rfl, _, _, rfl, rfl, ⟨by decide, by decide, by decide⟩, _, _, rfl, rfl, _, rfl, ?_⟩
        refine ite2 (fun _ => ?_) (fun _ => ?_)
        · refine ⟨_, rfl, _, rfl, a, _, _, _, rfl, rfl, upd_same, rfl, rfl, ⟨ns, p + 1, _, _, _, _, by rw [upd_ne ne, upd_ne ne]; exact hl, by omega, upd_same⟩, fun b o e nb => by rw [upd_ne nb, upd_ne nb]; exact e⟩
        · refine ⟨_, rfl, a, _, _, _, rfl, rfl, upd_same, rfl, rfl, ⟨ns, p + 1, _, _, _, _, by rw [upd_ne ne, upd_ne ne]; exact hl, by omega, upd_same⟩, fun b o e nb => by rw [upd_ne nb, upd_ne nb]; exact e⟩
      · rintro σ H1 ⟨rfl, ⟨ns, p, b, c, u, v, hl, hp, ha⟩, k1⟩
        have ne := ne_hand hl ha
        refine ⟨_, rfl, a, _, _, _, rfl, rfl, SqL.of ha, rfl, _, rfl, _, _, rfl, rfl, (by first | decide | (dsimp only; decide)), _, _, rfl, rfl, _, _, rfl, rfl, (by first | decide | (dsimp only; decide)), _, _, rfl, rfl, _, rfl, a, _, _, _, rfl, rfl, ha, rfl, ?_⟩
        refine ⟨_, rfl, a, _, _, _, rfl, rfl, SqL.of upd_same, rfl, _, _, rfl, rfl, .inr ⟨by decide, by decide⟩, _, rfl, _, _, rfl, rfl, (by first | decide | (dsimp only; decide)), _, _, rfl, rfl, _, _, rfl, rfl, (by first | decide | (dsimp only; decide)), _, _, rfl, rfl, _, rfl, a, _, _, _, rfl, rfl, upd_same, rfl, ?_⟩
        refine ⟨_, rfl, a, l, rfl, ⟨ns, p, _, _, _, _, by rw [upd_ne ne, upd_ne ne]; exact hl, hp, upd_same⟩, fun r H2 h2 k2 => ?_⟩
        refine ⟨_, rfl, a, l, rfl, h2, fun r H3 h3 k3 => ?_⟩
        exact k H3 h3 (((k1.trans fun b o e nb => by rw [upd_ne nb, upd_ne nb]; exact e).trans k2).trans k3)
theorem ok_draw (T : Txt K mg) : FnOk P w K mg base CX0 3 T.a_draw T.d_draw ["_law_hand_here", "_law_many"] spDraw := by
  have G_next : FnOk P w K mg base CX0 1 T.a_next T.d_next ["_law_hand_here"] spNext := ok_next T
  have G_take : FnOk P w K mg base CX0 2 T.a_take T.d_take ["_law_hand_here"] spTake := ok_take T
  have b_next := bd_next T
  have b_take := bd_take T
  refine T.F_draw.ok sc_draw (fun vs H Q E h => ?_) (fun cdv A outer s H vs Q E hr h => ?_)
  · obtain ⟨a, l, m, rfl, _⟩ := h
    rfl
  · obtain ⟨a, l, m, rfl, hd, hm0, hm1, k⟩ := h
    refine ⟨_, (pss_cons (ps_mid (ps_if (PW.pt (pw_and (pt_cmpR op_eq (pe_ix ix_list (pv 0) pe_int (fun _ _ => rfl)) pe_int (nomark _)) (pw_and1 (pt_cmpR op_eq (pe_ix ix_list (pv 0) pe_int (fun _ _ => rfl)) pe_int (nomark _)))))
      (pss_one (ps_expr (pe_call G_take (hr.mono (by decide)) rfl T.mg_take T.kp_take b_take .nil pass0 (pa_cons (pv 0) pa_nil se_Name) (he := se_Name) (hpl := np_nil))))
      pss_nil))
      (pss_cons (ps_mid (ps_if (pt_cmpR op_gt (pe_ix ix_list (pv 0) pe_int (fun _ _ => rfl)) pe_int (nomark _))
      (pss_cons (ps_set (i := 2) sc_draw.nd rfl (Or.inl rfl) (pe_op op_mod (pe_ix ix_list (pv 0) pe_int (fun _ _ => rfl)) (pv 1)))
      (pss_cons (ps_asg (pe_op op_fdivB (pe_ix ix_list (pv 0) pe_int (fun _ _ => rfl)) (pv 1)) (pg_sub (pv 0) pe_int set_list))
      (pss_one (ps_ret (pv 2)))))
      pss_nil))
      (pss_cons (ps_augS (pv 0) pe_int get_list pe_int ip_sub set_list)
      (pss_cons (ps_set (i := 3) sc_draw.nd rfl (Or.inl rfl) (pe_call G_next (hr.mono (by decide)) rfl T.mg_next T.kp_next b_next .nil pass0 (pa_cons (pv 0) pa_nil se_Name) (he := se_Name) (hpl := np_nil)))
      (pss_cons (ps_set (i := 4) sc_draw.nd rfl (Or.inl rfl) pe_int)
      (pss_cons (ps_while PassesOwn.never (pt_cmpR op_lt (pv 4) (pv 1) (nomark _))
      (pss_cons (ps_set (i := 3) sc_draw.nd rfl (Or.inl rfl) (pe_op op_add (pe_op op_mul (pv 3) pe_int) (pe_call G_next (hr.mono (by decide)) rfl T.mg_next T.kp_next b_next .nil pass0 (pa_cons (pv 0) pa_nil se_Name) (he := se_Name) (hpl := np_nil))))
      (pss_one (ps_set (i := 4) sc_draw.nd rfl (Or.inl rfl) (pe_op op_mul (pv 4) pe_int)))))
      (pss_one (ps_ret (pe_op op_mod (pv 3) (pv 1)))))))))), ?_⟩
    refine ⟨fun σ H1 => σ = [some (.ref a), some (.int m), none, none, none] ∧ Hd H1 a l ∧ Kp a H H1, ?_, ?_⟩
    · obtain ⟨ns, p, b, c, u, v, hl, hp, ha⟩ := id hd
      refine ⟨_, rfl, a, _, _, _, rfl, rfl, SqL.of ha, rfl, rfl, _, rfl, ?_⟩
      refine ite2 (fun _ => ?_) (fun _ => iteF ⟨rfl, hd, .refl a H⟩)
      refine ⟨_, rfl, a, _, _, _, rfl, rfl, SqL.of ha, rfl, rfl, _, rfl, ?_⟩
      refine ite2 (fun _ => ?_) (fun _ => ⟨rfl, hd, .refl a H⟩)
      exact ⟨_, rfl, a, l, rfl, hd, fun H1 h1 k1 => ⟨rfl, h1, k1⟩⟩
    · rintro σ H1 ⟨rfl, ⟨ns, p, b, c, u, v, hl, hp, ha⟩, k1⟩
      have ne := ne_hand hl ha
      refine ⟨fun σ H2 => H1 = H2 ∧ σ = [some (.ref a), some (.int m), none, none, none], ?_, ?_⟩
      · refine ⟨_, rfl, a, _, _, _, rfl, rfl, SqL.of ha, rfl, _, _, rfl, rfl, _, rfl, ?_⟩
        refine ite2 (fun _ => ?_) (fun _ => ⟨rfl, rfl⟩)
        refine ⟨_, rfl, a, _, _, _, rfl, rfl, SqL.of ha, rfl, _, rfl, _, _, rfl, rfl, hm0, ?_⟩
        refine ⟨_, rfl, a, _, _, _, rfl, rfl, SqL.of ha, rfl, _, rfl, _, _, rfl, rfl, ⟨hm0, hm1⟩, _, rfl, a, _, _, _, rfl, rfl, ha, rfl, ?_⟩
        refine ⟨_, rfl, ?_⟩
        exact k _ _ (Int.emod_nonneg _ (by omega)) (Int.emod_lt_of_pos _ hm0) ⟨ns, p, _, _, _, _, by rw [upd_ne ne]; exact hl, hp, upd_same⟩ (k1.trans fun b o e nb => by rw [upd_ne nb]; exact e)
      · rintro σ H2 ⟨rfl, rfl⟩
        refine ⟨_, rfl, a, _, _, _, rfl, rfl, (by first | decide | (dsimp only; decide)), SqL.of ha, rfl, _, _, rfl, rfl, a, _, _, _, rfl, rfl, ha, rfl, ?_⟩
        refine ⟨_, rfl, a, l, rfl, ⟨ns, p, _, _, _, _, by rw [upd_ne ne]; exact hl, hp, upd_same⟩, fun r H3 h3 k3 => ?_⟩
        have k3' : Kp a H H3 := (k1.trans fun b o e nb => by rw [upd_ne nb]; exact e).trans k3
        refine while_by (fun σ H4 => ∃ (val sz : Int), σ = [some (.ref a), some (.int m), none, some (.int val), some (.int sz)] ∧ Hd H4 a l ∧ Kp a H H4 ∧ 0 < sz)
          (fun σ _ => match σ with | [_, _, _, _, some (.int sz)] => (m - sz).toNat | _ => 0) ⟨r, 4294967296, rfl, h3, k3', by decide⟩ ?_ (fun σ H Q Q' f ⟨v, e1, u, e2, i, j, e3, e4, c, e5, q⟩ => ⟨v, e1, u, e2, i, j, e3, e4, c, e5, f _ _ q⟩)
        rintro σ H4 ⟨val, sz, rfl, h4, k4, hsz⟩
        refine ⟨_, rfl, _, rfl, _, _, rfl, rfl, _, rfl, ?_⟩
        refine ite2 (fun hlt => ?_) (fun _ => ?_)
        · have hlt' : sz < m := by simpa using hlt
          refine ⟨_, rfl, _, _, rfl, rfl, .inr ⟨by decide, by decide⟩, _, rfl, a, l, rfl, h4, fun r H5 h5 k5 => ⟨_, _, rfl, rfl, ?_⟩⟩
          refine ⟨_, rfl, _, _, rfl, rfl, .inr ⟨by decide, by decide⟩, ?_⟩
          refine ⟨⟨_, sz * 4294967296, rfl, h5, k4.trans k5, by omega⟩, ?_⟩
          show (m - sz * 4294967296).toNat < (m - sz).toNat
          omega
        · refine ⟨_, rfl, _, rfl, _, _, rfl, rfl, hm0, ?_⟩
          exact k _ _ (Int.emod_nonneg _ (by omega)) (Int.emod_lt_of_pos _ hm0) h4 k4
end
def spScale : Sp := fun vs H Q _ => ∃ a l, vs = [.ref a] ∧ Hd H a l ∧ ∀ (r : Int) (H' : Hp), 1 ≤ r → r ≤ 1000000000000000000 → Hd H' a l → Kp a H H' → Q (.int r) H'
def spChange : Sp := fun vs H Q _ => ∃ a l m, vs = [.ref a, .int m] ∧ Hd H a l ∧ 0 ≤ m ∧ m < 10000000000000000000000000000000000000000000000000000000000000 ∧ ∀ (r : Int) (H' : Hp), -m ≤ r → r ≤ m → Hd H' a l → Kp a H H' → Q (.int r) H'
def spStore : Sp := fun vs H Q _ => ∃ a l m, vs = [.ref a, .int m] ∧ Hd H a l ∧ 0 ≤ m ∧ m ≤ 1000000000000000000 ∧ ∀ (r : Int) (H' : Hp), 0 ≤ r → r ≤ 100000000000000000000 → Hd H' a l → Kp a H H' → Q (.int r) H'
section
variable {P : Program} {w : World} {K : PySem.W.Frag} {mg : Str → Option Value} {base : Heap}
theorem ok_scale (T : Txt K mg) : FnOk P w K mg base CX0 4 T.a_scale T.d_scale ["_law_hand_here"] spScale := by
  have G_draw : FnOk P w K mg base CX0 3 T.a_draw T.d_draw ["_law_hand_here", "_law_many"] spDraw := ok_draw T
  have b_draw := bd_draw T
  refine T.F_scale.ok sc_scale (fun vs H Q E h => ?_) (fun cdv A outer s H vs Q E hr h => ?_)
  · obtain ⟨a, l, rfl, _⟩ := h
    rfl
  · obtain ⟨a, l, rfl, hd, k⟩ := h
    refine ⟨_, (pss_one (ps_ret (pe_ix ix_list (pe_lst (pa_cons pe_int (pa_cons pe_int (pa_cons pe_int (pa_cons pe_int (pa_cons (pe_op op_pow pe_int pe_int) (pa_cons (pe_op op_pow pe_int pe_int) pa_nil se_BinOp) se_BinOp) se_Constant) se_Constant) se_Constant) se_Constant)) (pe_call G_draw (hr.mono (by decide)) rfl T.mg_draw T.kp_draw b_draw .nil pass0 (pa_cons (pv 0) (pa_cons pe_int pa_nil se_Constant) se_Name) (he := se_Name) (hpl := (np_cons se_Constant np_nil))) (fun _ _ => rfl)))), ?_⟩
    refine ⟨_, _, rfl, rfl, ⟨by decide, by decide, by decide⟩, _, _, rfl, rfl, ⟨by decide, by decide, by decide⟩, (by show 6 ≤ sizeLine; decide), fun p hp => ?_⟩
    refine ⟨_, rfl, a, l, _, rfl, hd.lay hp, by decide, by decide, fun r H1 r0 r1 h1 k1 => ?_⟩
    have hpa : p ≠ a := (hd.ne hp).1
    have e1 := k1 p _ upd_same hpa
    have k2 : Kp a H H1 := ((Kp.refl a H).lay hp).trans k1
    have hr' : r = 0 ∨ r = 1 ∨ r = 2 ∨ r = 3 ∨ r = 4 ∨ r = 5 := by omega
    rcases hr' with rfl | rfl | rfl | rfl | rfl | rfl
    all_goals exact ⟨p, _, _, _, rfl, rfl, SqL.of e1, rfl, k _ H1 (by first | decide | (dsimp only; decide)) (by first | decide | (dsimp only; decide)) h1 k2⟩
theorem ok_change (T : Txt K mg) : FnOk P w K mg base CX0 4 T.a_change T.d_change ["_law_hand_here", "_law_scale_here"] spChange := by
  have G_draw : FnOk P w K mg base CX0 3 T.a_draw T.d_draw ["_law_hand_here", "_law_many"] spDraw := ok_draw T
  have b_draw := bd_draw T
  refine T.F_change.ok sc_change (fun vs H Q E h => ?_) (fun cdv A outer s H vs Q E hr h => ?_)
  · obtain ⟨a, l, m, rfl, _⟩ := h
    rfl
  · obtain ⟨a, l, m, rfl, hd, hm0, hm1, k⟩ := h
    refine ⟨_, (pss_one (ps_ret (pe_op op_sub (pe_call G_draw (hr.mono (by decide)) rfl T.mg_draw T.kp_draw b_draw .nil pass0 (pa_cons (pv 0) (pa_cons (pe_op op_add (pe_op op_mul pe_int (pv 1)) pe_int) pa_nil se_BinOp) se_Name) (he := se_Name) (hpl := (np_cons se_BinOp np_nil))) (pv 1)))), ?_⟩
    refine ⟨_, rfl, _, rfl, _, _, rfl, rfl, .inl ⟨by decide, by decide⟩, _, _, rfl, rfl, a, l, _, rfl, hd, by omega, by omega, fun r H1 r0 r1 h1 k1 => ?_⟩
    exact ⟨_, rfl, _, _, rfl, rfl, k _ H1 (by omega) (by omega) h1 k1⟩
theorem ok_store (T : Txt K mg) : FnOk P w K mg base CX0 4 T.a_store T.d_store ["_law_hand_here", "_law_scale_here"] spStore := by
  have G_draw : FnOk P w K mg base CX0 3 T.a_draw T.d_draw ["_law_hand_here", "_law_many"] spDraw := ok_draw T
  have b_draw := bd_draw T
  refine T.F_store.ok sc_store (fun vs H Q E h => ?_) (fun cdv A outer s H vs Q E hr h => ?_)
  · obtain ⟨a, l, m, rfl, _⟩ := h
    rfl
  · obtain ⟨a, l, m, rfl, hd, hm0, hm1, k⟩ := h
    refine ⟨_, (pss_cons (ps_set (i := 2) sc_store.nd rfl (Or.inl rfl) (pe_call G_draw (hr.mono (by decide)) rfl T.mg_draw T.kp_draw b_draw .nil pass0 (pa_cons (pv 0) (pa_cons pe_int pa_nil se_Constant) se_Name) (he := se_Name) (hpl := (np_cons se_Constant np_nil))))
      (pss_cons (ps_mid (ps_if (pt_cmpR op_eq (pv 2) pe_int (nomark _))
      (pss_one (ps_ret (pe_call G_draw (hr.mono (by decide)) rfl T.mg_draw T.kp_draw b_draw .nil pass0 (pa_cons (pv 0) (pa_cons pe_int pa_nil se_Constant) se_Name) (he := se_Name) (hpl := (np_cons se_Constant np_nil)))))
      pss_nil))
      (pss_cons (ps_mid (ps_if (pt_cmpR op_eq (pv 2) pe_int (nomark _))
      (pss_one (ps_ret (pe_ix ix_list (pe_lst (pa_cons (pe_op op_pow pe_int pe_int) (pa_cons (pe_op op_pow pe_int pe_int) pa_nil se_BinOp) se_BinOp)) (pe_call G_draw (hr.mono (by decide)) rfl T.mg_draw T.kp_draw b_draw .nil pass0 (pa_cons (pv 0) (pa_cons pe_int pa_nil se_Constant) se_Name) (he := se_Name) (hpl := (np_cons se_Constant np_nil))) (fun _ _ => rfl))))
      pss_nil))
      (pss_one (ps_ret (pe_callB (call_min2 rfl) rfl T.n_min bt_min (pa_cons (pe_op op_pow pe_int pe_int) (pa_cons (pe_call G_draw (hr.mono (by decide)) rfl T.mg_draw T.kp_draw b_draw .nil pass0 (pa_cons (pv 0) (pa_cons (pe_op op_add (pe_op op_mul pe_int (pv 1)) pe_int) pa_nil se_BinOp) se_Name) (he := se_Name) (hpl := (np_cons se_BinOp np_nil))) pa_nil se_Call) se_BinOp) (he := se_BinOp) (hpl := (np_cons se_Call np_nil)))))))), ?_⟩
    refine ⟨_, rfl, a, l, _, rfl, hd, by decide, by decide, fun way H1 w0 w1 h1 k1 => ?_⟩
    refine ⟨fun σ H2 => H1 = H2 ∧ σ = [some (.ref a), some (.int m), some (.int way)], ?_, ?_⟩
    · refine ⟨_, rfl, rfl, _, rfl, ?_⟩
      refine ite2 (fun _ => ?_) (fun _ => ⟨rfl, rfl⟩)
      exact ⟨_, rfl, a, l, _, rfl, h1, by decide, by decide, fun r H2 r0 r1 h2 k2 => k r H2 r0 (by omega) h2 (k1.trans k2)⟩
    · rintro σ H2 ⟨rfl, rfl⟩
      refine ⟨fun σ H2 => H1 = H2 ∧ σ = [some (.ref a), some (.int m), some (.int way)], ?_, ?_⟩
      · refine ⟨_, rfl, rfl, _, rfl, ?_⟩
        refine ite2 (fun _ => ?_) (fun _ => ⟨rfl, rfl⟩)
        refine ⟨_, _, rfl, rfl, ⟨by decide, by decide, by decide⟩, _, _, rfl, rfl, ⟨by decide, by decide, by decide⟩, (by show 2 ≤ sizeLine; decide), fun p hp => ?_⟩
        refine ⟨_, rfl, a, l, _, rfl, h1.lay hp, by decide, by decide, fun r H2 r0 r1 h2 k2 => ?_⟩
        have hpa : p ≠ a := (h1.ne hp).1
        have e1 := k2 p _ upd_same hpa
        have k3 : Kp a H H2 := (k1.lay hp).trans k2
        have hr' : r = 0 ∨ r = 1 := by omega
        rcases hr' with rfl | rfl
        all_goals exact ⟨p, _, _, _, rfl, rfl, SqL.of e1, rfl, k _ H2 (by first | decide | (dsimp only; decide)) (by first | decide | (dsimp only; decide)) h2 k3⟩
      · rintro σ H2 ⟨rfl, rfl⟩
        refine ⟨_, _, rfl, rfl, ⟨by decide, by decide, by decide⟩, _, rfl, _, rfl, _, _, rfl, rfl, .inl ⟨by decide, by decide⟩, _, _, rfl, rfl, a, l, _, rfl, h1, by omega, by omega, fun r H2 r0 r1 h2 k2 => ?_⟩
        refine ⟨_, _, rfl, k _ H2 ?_ ?_ h2 (k1.trans k2)⟩
        · show (0 : Int) ≤ if r < 10 ^ (18 : Int).toNat then r else 10 ^ (18 : Int).toNat
          split
          · exact r0
          · decide
        · show (if r < 10 ^ (18 : Int).toNat then r else 10 ^ (18 : Int).toNat) ≤ (100000000000000000000 : Int)
          split
          · omega
          · decide
end
/-! ### effects -/
abbrev Ef := Option (Int × Int × Int)
def oV : Option Int → V
  | none => .non
  | some i => .int i
def EffV (K : PySem.W.Frag) (H : Hp) (v : V) : Ef → Prop
  | none => v = .non
  | some (l, g, t) => ∃ p, v = .ref p ∧ H p = some (.tup [.int l, .int g, .int t])
theorem _root_.L2.Same.seqT {K : PySem.W.Frag} {H H' : Hp} {a : Addr} {xs : List V} (e : Same H H') (h : SqT K H a xs) : SqT K H' a xs := by
  rcases h with (h | ⟨o, h⟩) | h
  · exact .inl (.inl (e _ _ h))
  · exact .inl (.inr ⟨o, e _ _ h⟩)
  · exact .inr h
theorem EffV.same {K : PySem.W.Frag} {H H' : Hp} {v : V} {e : Ef} (h : EffV K H v e) (s : Same H H') : EffV K H' v e := by
  cases e with
  | none => exact h
  | some x =>
    obtain ⟨l, g, t⟩ := x
    obtain ⟨p, e1, e2⟩ := h
    exact ⟨p, e1, s _ _ e2⟩
theorem EffV.kp {K : PySem.W.Frag} {H H' : Hp} {v : V} {e : Ef} {a l : Addr} (h : EffV K H v e) (hd : Hd H a l) (s : Kp a H H') : EffV K H' v e := by
  obtain ⟨_, _, _, _, _, _, _, _, ha⟩ := hd
  cases e with
  | none => exact h
  | some x =>
    obtain ⟨l, g, t⟩ := x
    obtain ⟨p, e1, e2⟩ := h
    exact ⟨p, e1, s _ _ e2 (ne_of e2 ha (by intro q; cases q))⟩
/-- the conditions of point 7 -/
def EOk (st : Int) (e : Int × Int × Int) : Prop := 0 ≤ e.1 ∧ e.1 ≤ st ∧ 0 ≤ e.2.2 ∧ e.2.2 ≤ st ∧ 0 ≤ e.1 + e.2.1 ∧ e.2.2 ≤ st + e.2.1
def passF (e : Ef) (x : Int) : Option Int := match e with
  | none => none
  | some (l, g, t) => if x < l then none else some (if t < x + g then t else x + g)
def joinF (a b : Ef) : Ef := match a, b with
  | some (l1, g1, t1), some (l2, g2, t2) => if t1 < l2 then none else some (if l2 - g1 > l1 then l2 - g1 else l1, g1 + g2, if t2 < t1 + g2 then t2 else t1 + g2)
  | _, _ => none
def effD : Ef → PyData
  | none => .none
  | some (l, g, t) => .tuple [.int l, .int g, .int t]
theorem EffV.dat {K : PySem.W.Frag} {H : Hp} {v : V} {e : Ef} (h : EffV K H v e) : DatV K H v (effD e) := by
  cases e with
  | none => cases (show v = .non from h); exact .non
  | some x =>
    obtain ⟨l, g, t⟩ := x
    obtain ⟨p, rfl, e2⟩ := h
    exact .tup (SqT.of e2) (.cons (.int l) (.cons (.int g) (.cons (.int t) .nil)))
theorem effD_lay (e : Ef) : (effD e).canLay0 = true := by
  rcases e with _ | ⟨l, g, t⟩ <;> rfl
theorem effD_depth (e : Ef) : (effD e).depth ≤ 1 := by
  rcases e with _ | ⟨l, g, t⟩
  · exact Nat.zero_le _
  · exact Nat.le_refl 1
theorem effD_self (e : Ef) : PyData.eqv (effD e) (effD e) = true := SeqAt.eqv_refl _ (effD_lay e)
theorem eqD_eff {K : PySem.W.Frag} {H : Hp} {v u : V} {e : Ef} {Q : VK} {neg : Bool} (h1 : EffV K H v e) (h2 : EffV K H u e) (hQ : Q (.bl (!neg)) H) : rEqD K neg v u H Q := by
  refine ⟨_, _, h1.dat, h2.dat, effD_lay e, effD_lay e, ?_, ?_⟩
  · have := effD_depth e; omega
  · rw [effD_self]
    cases neg <;> exact hQ
theorem oV_dat {K : PySem.W.Frag} {H : Hp} (o : Option Int) : ∃ d, DatV K H (oV o) d ∧ d.canLay0 = true ∧ d.depth = 0 := by
  cases o with
  | none => exact ⟨_, .non, rfl, rfl⟩
  | some i => exact ⟨_, .int i, rfl, rfl⟩
theorem eqD_o {K : PySem.W.Frag} {H : Hp} {o : Option Int} {Q : VK} {neg : Bool} (hQ : Q (.bl (!neg)) H) : rEqD K neg (oV o) (oV o) H Q := by
  obtain ⟨d, h1, h2, h3⟩ := oV_dat (K := K) (H := H) o
  refine ⟨d, d, h1, h1, h2, h2, by omega, ?_⟩
  rw [SeqAt.eqv_refl d h2]
  cases neg <;> exact hQ
theorem iteN {c A B : Prop} [Decidable c] (hc : ¬ c) (h : B) : if decide c = true then A else B := by rw [decide_eq_false hc]; exact iteF h
theorem iteP {c A B : Prop} [Decidable c] (hc : c) (h : A) : if decide c = true then A else B := by rw [decide_eq_true hc]; exact iteT h
theorem units_of {k : Nat} {A : Around} (hr : Room k A) : A.units + 64 < cLine := hr.units
def spWhole : Sp := fun vs H Q _ => ∃ n : Int, vs = [.int n] ∧ Q (.bl true) H
def spPassed (K : PySem.W.Frag) : Sp := fun vs H Q _ => ∃ (v : V) (e : Ef) (x : Int), vs = [v, .int x] ∧ EffV K H v e ∧ Q (oV (passF e x)) H
def spJoined (K : PySem.W.Frag) : Sp := fun vs H Q _ => ∃ (v u : V) (a b : Ef), vs = [v, u] ∧ EffV K H v a ∧ EffV K H u b ∧ ∀ (r : V) (H' : Hp), EffV K H' r (joinF a b) → Same H H' → Q r H'
section
variable {P : Program} {w : World} {K : PySem.W.Frag} {mg : Str → Option Value} {base : Heap}
theorem ok_passed (T : Txt K mg) : FnOk P w K mg base CX0 1 T.a_passed T.d_passed ["effect", "level"] (spPassed K) := by
  refine T.F_passed.ok sc_passed (fun vs H Q E h => ?_) (fun cdv A outer s H vs Q E hr h => ?_)
  · obtain ⟨v, e, x, rfl, _⟩ := h
    rfl
  · obtain ⟨v, e, x, rfl, he, k⟩ := h
    refine ⟨_, (pss_cons (ps_mid (ps_if (PW.pt (pw_or (pt_cmpR op_isN (pv 0) pe_non (nomark _)) (pw_or1 (pt_cmpR op_lt (pv 1) (pe_ix ix_tup (pv 0) (pe_glob (v := V.int 0) rfl T.mg_LEAST ⟨_, rfl⟩) (fun _ _ => rfl)) (nomark _)))))
      (pss_one (ps_ret pe_non))
      pss_nil))
      (pss_one (ps_ret (pe_callB (call_min2 rfl) rfl T.n_min bt_min (pa_cons (pe_op op_add (pv 1) (pe_ix ix_tup (pv 0) (pe_glob (v := V.int 1) rfl T.mg_GAIN ⟨_, rfl⟩) (fun _ _ => rfl))) (pa_cons (pe_ix ix_tup (pv 0) (pe_glob (v := V.int 2) rfl T.mg_TOP ⟨_, rfl⟩) (fun _ _ => rfl)) pa_nil se_Subscript) se_BinOp) (he := se_BinOp) (hpl := (np_cons se_Subscript np_nil)))))), ?_⟩
    rcases e with _ | ⟨l, g, t⟩
    · cases (show v = .non from he)
      refine ⟨fun _ _ => False, ?_, fun _ _ z => z.elim⟩
      exact ⟨_, rfl, rfl, _, rfl, iteT (iteT k)⟩
    · obtain ⟨p, rfl, hp⟩ := he
      refine ⟨fun σ H2 => H = H2 ∧ σ = [some (.ref p), some (.int x)] ∧ ¬ x < l, ?_, ?_⟩
      · refine ⟨_, rfl, rfl, _, rfl, iteF ?_⟩
        refine ⟨_, rfl, _, rfl, p, _, _, _, rfl, rfl, SqT.of hp, rfl, _, _, rfl, rfl, _, rfl, ?_⟩
        refine ite2 (fun c => ?_) (fun c => ⟨rfl, rfl, by simpa using c⟩)
        have c' : x < l := by simpa using c
        have e : oV (passF (some (l, g, t)) x) = V.non := by unfold passF; simp only [if_pos c']; rfl
        rw [e] at k
        exact k
      · rintro σ H2 ⟨rfl, rfl, c⟩
        have e : oV (passF (some (l, g, t)) x) = V.int (if t < x + g then t else x + g) := by unfold passF; simp only [if_neg c]; rfl
        rw [e] at k
        exact ⟨_, rfl, _, rfl, p, _, _, _, rfl, rfl, SqT.of hp, rfl, _, _, rfl, rfl, _, rfl, p, _, _, _, rfl, rfl, SqT.of hp, rfl, _, _, rfl, k⟩
theorem ok_joined (T : Txt K mg) : FnOk P w K mg base CX0 2 T.a_joined T.d_joined ["one", "other"] (spJoined K) := by
  have G_passed : FnOk P w K mg base CX0 1 T.a_passed T.d_passed ["effect", "level"] (spPassed K) := ok_passed T
  have b_passed := bd_passed T
  refine T.F_joined.ok sc_joined (fun vs H Q E h => ?_) (fun cdv A outer s H vs Q E hr h => ?_)
  · obtain ⟨v, u, a, b, rfl, _⟩ := h
    rfl
  · obtain ⟨v, u, a, b, rfl, ha, hb, k⟩ := h
    refine ⟨_, (pss_cons (ps_mid (ps_if (PW.pt (pw_or (pt_cmpR op_isN (pv 0) pe_non (nomark _)) (pw_or (pt_cmpR op_isN (pv 1) pe_non (nomark _)) (pw_or1 (pt_cmpR op_lt (pe_ix ix_tup (pv 0) (pe_glob (v := V.int 2) rfl T.mg_TOP ⟨_, rfl⟩) (fun _ _ => rfl)) (pe_ix ix_tup (pv 1) (pe_glob (v := V.int 0) rfl T.mg_LEAST ⟨_, rfl⟩) (fun _ _ => rfl)) (nomark _))))))
      (pss_one (ps_ret pe_non))
      pss_nil))
      (pss_cons (ps_set (i := 2) sc_joined.nd rfl (Or.inl rfl) (pe_callB (call_max2 rfl) rfl T.n_max bt_max (pa_cons (pe_ix ix_tup (pv 0) (pe_glob (v := V.int 0) rfl T.mg_LEAST ⟨_, rfl⟩) (fun _ _ => rfl)) (pa_cons (pe_op op_sub (pe_ix ix_tup (pv 1) (pe_glob (v := V.int 0) rfl T.mg_LEAST ⟨_, rfl⟩) (fun _ _ => rfl)) (pe_ix ix_tup (pv 0) (pe_glob (v := V.int 1) rfl T.mg_GAIN ⟨_, rfl⟩) (fun _ _ => rfl))) pa_nil se_BinOp) se_Subscript) (he := se_Subscript) (hpl := (np_cons se_BinOp np_nil))))
      (pss_one (ps_ret (pe_tup (pa_cons (pv 2) (pa_cons (pe_op op_add (pe_ix ix_tup (pv 0) (pe_glob (v := V.int 1) rfl T.mg_GAIN ⟨_, rfl⟩) (fun _ _ => rfl)) (pe_ix ix_tup (pv 1) (pe_glob (v := V.int 1) rfl T.mg_GAIN ⟨_, rfl⟩) (fun _ _ => rfl))) (pa_cons (pe_call G_passed (hr.mono (by decide)) rfl T.mg_passed T.kp_passed b_passed .nil pass0 (pa_cons (pv 1) (pa_cons (pe_ix ix_tup (pv 0) (pe_glob (v := V.int 2) rfl T.mg_TOP ⟨_, rfl⟩) (fun _ _ => rfl)) pa_nil se_Subscript) se_Name) (he := se_Name) (hpl := (np_cons se_Subscript np_nil))) pa_nil se_Call) se_BinOp) se_Name)))))), ?_⟩
    rcases a with _ | ⟨l1, g1, t1⟩
    · cases (show v = .non from ha)
      refine ⟨fun _ _ => False, ?_, fun _ _ z => z.elim⟩
      exact ⟨_, rfl, rfl, _, rfl, iteT (iteT (k _ H rfl (Same.refl H)))⟩
    · obtain ⟨p, rfl, hp⟩ := ha
      rcases b with _ | ⟨l2, g2, t2⟩
      · cases (show u = .non from hb)
        refine ⟨fun _ _ => False, ?_, fun _ _ z => z.elim⟩
        refine ⟨_, rfl, rfl, _, rfl, iteF ?_⟩
        exact ⟨_, rfl, rfl, _, rfl, iteT (iteT (k _ H rfl (Same.refl H)))⟩
      · obtain ⟨q, rfl, hq⟩ := id hb
        refine ⟨fun σ H2 => H = H2 ∧ σ = [some (.ref p), some (.ref q), none] ∧ ¬ t1 < l2, ?_, ?_⟩
        · refine ⟨_, rfl, rfl, _, rfl, iteF ?_⟩
          refine ⟨_, rfl, rfl, _, rfl, iteF ?_⟩
          refine ⟨_, rfl, p, _, _, _, rfl, rfl, SqT.of hp, rfl, _, rfl, q, _, _, _, rfl, rfl, SqT.of hq, rfl, _, _, rfl, rfl, _, rfl, ?_⟩
          refine ite2 (fun c => ?_) (fun c => ⟨rfl, rfl, by simpa using c⟩)
          have c' : t1 < l2 := by simpa using c
          exact k _ H (by show EffV K H V.non (joinF (some (l1, g1, t1)) (some (l2, g2, t2))); unfold joinF; simp only [if_pos c']; rfl) (Same.refl H)
        · rintro σ H2 ⟨rfl, rfl, c⟩
          refine ⟨_, rfl, p, _, _, _, rfl, rfl, SqT.of hp, rfl, _, rfl, q, _, _, _, rfl, rfl, SqT.of hq, rfl, _, rfl, p, _, _, _, rfl, rfl, SqT.of hp, rfl, _, _, rfl, rfl, _, _, rfl, ?_⟩
          refine ⟨_, rfl, _, rfl, p, _, _, _, rfl, rfl, SqT.of hp, rfl, _, rfl, q, _, _, _, rfl, rfl, SqT.of hq, rfl, _, _, rfl, rfl, _, rfl, _, rfl, p, _, _, _, rfl, rfl, SqT.of hp, rfl, _, _, _, rfl, hb, ?_⟩
          have e : passF (some (l2, g2, t2)) t1 = some (if t2 < t1 + g2 then t2 else t1 + g2) := by unfold passF; simp only [if_neg c]
          rw [e]
          refine ⟨(by show 3 ≤ sizeLine; decide), fun r hr0 => ?_⟩
          refine k _ _ ?_ ((Same.refl H).lay hr0)
          unfold joinF
          simp only [if_neg c]
          exact ⟨r, rfl, upd_same⟩
end
section
variable {P : Program} {w : World} {K : PySem.W.Frag} {mg : Str → Option Value} {base : Heap}
theorem ok_whole (T : Txt K mg) : FnOk P w K mg base CX0 1 T.a_is_whole T.d_is_whole ["thing"] spWhole := by
  refine T.F_is_whole.ok sc_is_whole (fun vs H Q E h => ?_) (fun cdv A outer s H vs Q E hr h => ?_)
  · obtain ⟨n, rfl, _⟩ := h
    rfl
  · obtain ⟨n, rfl, k⟩ := h
    refine ⟨_, (pss_one (ps_ret (pe_and (pe_callB call_isinst rfl T.n_isinstance bt_isinstance (pa_cons (pv 0) (pa_cons (pe_bltn (v := V.ty "int") rfl T.n_int bt_int rfl) pa_nil se_Name) se_Name) (he := se_Name) (hpl := (np_cons se_Name np_nil))) (pe_one (pe_not (pe_callB call_isinst rfl T.n_isinstance bt_isinstance (pa_cons (pv 0) (pa_cons (pe_bltn (v := V.ty "bool") rfl T.n_bool bt_bool rfl) pa_nil se_Name) se_Name) (he := se_Name) (hpl := (np_cons se_Name np_nil)))))))), ?_⟩
    refine ⟨_, rfl, _, _, .type "int", .type "int", true, rfl, rfl, .int n, by with_unfolding_all rfl, _, rfl, iteT ?_⟩
    exact ⟨_, rfl, _, _, .type "bool", .type "int", false, rfl, rfl, .int n, by with_unfolding_all rfl, _, rfl, k⟩
end
/-! ### two effects joined -/
theorem full_eq {st : Int} {a b : Int × Int × Int} (ha : EOk st a) : (passF (some a) st).bind (passF (some b)) = if a.2.2 < b.1 then none else some (if b.2.2 < a.2.2 + b.2.1 then b.2.2 else a.2.2 + b.2.1) := by
  obtain ⟨l1, g1, t1⟩ := a
  obtain ⟨l2, g2, t2⟩ := b
  obtain ⟨h1, h2, h3, h4, h5, h6⟩ := ha
  simp only at h1 h2 h3 h4 h5 h6
  have e : passF (some (l1, g1, t1)) st = some t1 := by
    unfold passF
    dsimp only
    rw [if_neg (by omega)]
    congr 1
    split <;> omega
  rw [e]
  rfl
theorem join_eq {a b : Int × Int × Int} (h : ¬ a.2.2 < b.1) : joinF (some a) (some b) = some (if b.1 - a.2.1 > a.1 then b.1 - a.2.1 else a.1, a.2.1 + b.2.1, if b.2.2 < a.2.2 + b.2.1 then b.2.2 else a.2.2 + b.2.1) := by
  obtain ⟨l1, g1, t1⟩ := a
  obtain ⟨l2, g2, t2⟩ := b
  unfold joinF
  simp only at h
  simp only [if_neg h]
theorem join_none {a b : Int × Int × Int} (h : a.2.2 < b.1) : joinF (some a) (some b) = none := by
  obtain ⟨l1, g1, t1⟩ := a
  obtain ⟨l2, g2, t2⟩ := b
  unfold joinF
  simp only at h
  simp only [if_pos h]
theorem join_ok {st : Int} {a b r : Int × Int × Int} (ha : EOk st a) (hb : EOk st b) (h : joinF (some a) (some b) = some r) : EOk st r := by
  by_cases c : a.2.2 < b.1
  · rw [join_none c] at h; cases h
  · rw [join_eq c] at h
    cases h
    obtain ⟨l1, g1, t1⟩ := a
    obtain ⟨l2, g2, t2⟩ := b
    obtain ⟨h1, h2, h3, h4, h5, h6⟩ := ha
    obtain ⟨i1, i2, i3, i4, i5, i6⟩ := hb
    simp only at h1 h2 h3 h4 h5 h6 i1 i2 i3 i4 i5 i6 c
    refine ⟨?_, ?_, ?_, ?_, ?_, ?_⟩ <;> dsimp only <;> (repeat' split) <;> omega
theorem join_pass {a b r : Int × Int × Int} (h : joinF (some a) (some b) = some r) (x : Int) : passF (some r) x = (passF (some a) x).bind (passF (some b)) := by
  by_cases c : a.2.2 < b.1
  · rw [join_none c] at h; cases h
  · rw [join_eq c] at h
    cases h
    obtain ⟨l1, g1, t1⟩ := a
    obtain ⟨l2, g2, t2⟩ := b
    simp only at c
    unfold passF
    dsimp only
    by_cases c1 : x < l1
    · rw [if_pos c1, if_pos (by split <;> omega)]
      rfl
    · rw [if_neg c1]
      show _ = (if (if t1 < x + g1 then t1 else x + g1) < l2 then none else some (if t2 < (if t1 < x + g1 then t1 else x + g1) + g2 then t2 else (if t1 < x + g1 then t1 else x + g1) + g2))
      obtain ⟨y, ey, y1, y2, y3⟩ : ∃ y, (if t1 < x + g1 then t1 else x + g1) = y ∧ y ≤ t1 ∧ y ≤ x + g1 ∧ (y = t1 ∨ y = x + g1) := ⟨_, rfl, by split <;> omega, by split <;> omega, by split <;> omega⟩
      obtain ⟨m, em, m1, m2, m3⟩ : ∃ m, (if l2 - g1 > l1 then l2 - g1 else l1) = m ∧ l1 ≤ m ∧ l2 - g1 ≤ m ∧ (m = l1 ∨ m = l2 - g1) := ⟨_, rfl, by split <;> omega, by split <;> omega, by split <;> omega⟩
      obtain ⟨n, en, n1, n2, n3⟩ : ∃ n, (if t2 < t1 + g2 then t2 else t1 + g2) = n ∧ n ≤ t2 ∧ n ≤ t1 + g2 ∧ (n = t2 ∨ n = t1 + g2) := ⟨_, rfl, by split <;> omega, by split <;> omega, by split <;> omega⟩
      rw [ey, em, en]
      by_cases c2 : x < m
      · rw [if_pos c2, if_pos (show y < l2 by omega)]
      · rw [if_neg c2, if_neg (show ¬ y < l2 by omega)]
        congr 1
        split <;> split <;> omega
/-! ### repeated -/
theorem join_unit_l {st : Int} {e : Int × Int × Int} (h : EOk st e) : joinF (some (0, 0, st)) (some e) = some e := by
  obtain ⟨l, g, t⟩ := e
  obtain ⟨h1, h2, h3, h4, h5, h6⟩ := h
  simp only at h1 h2 h3 h4 h5 h6
  rw [join_eq (by show ¬ st < l; omega)]
  congr 1
  show ((if l - 0 > 0 then l - 0 else 0), 0 + g, (if t < st + g then t else st + g)) = (l, g, t)
  congr 1
  · split <;> omega
  · congr 1
    · omega
    · split <;> omega
theorem join_unit_r {st : Int} {e : Int × Int × Int} (h : EOk st e) : joinF (some e) (some (0, 0, st)) = some e := by
  obtain ⟨l, g, t⟩ := e
  obtain ⟨h1, h2, h3, h4, h5, h6⟩ := h
  simp only at h1 h2 h3 h4 h5 h6
  rw [join_eq (by show ¬ t < 0; omega)]
  congr 1
  show ((if 0 - g > l then 0 - g else l), g + 0, (if st < t + 0 then st else t + 0)) = (l, g, t)
  congr 1
  · split <;> omega
  · congr 1
    · omega
    · split <;> omega
theorem join_assoc (a b c : Ef) : joinF (joinF a b) c = joinF a (joinF b c) := by
  rcases a with _ | ⟨l1, g1, t1⟩
  · rfl
  · rcases b with _ | ⟨l2, g2, t2⟩
    · rfl
    · rcases c with _ | ⟨l3, g3, t3⟩
      · show joinF (joinF (some (l1, g1, t1)) (some (l2, g2, t2))) none = none
        cases joinF (some (l1, g1, t1)) (some (l2, g2, t2)) <;> rfl
      · by_cases c1 : t1 < l2
        · rw [join_none (a := (l1, g1, t1)) (b := (l2, g2, t2)) c1]
          by_cases c2 : t2 < l3
          · rw [join_none (a := (l2, g2, t2)) (b := (l3, g3, t3)) c2]
            rfl
          · rw [join_eq (a := (l2, g2, t2)) (b := (l3, g3, t3)) c2, join_none (by show t1 < (if l3 - g2 > l2 then l3 - g2 else l2); split <;> omega)]
            rfl
        · rw [join_eq (a := (l1, g1, t1)) (b := (l2, g2, t2)) c1]
          by_cases c2 : t2 < l3
          · rw [join_none (a := (l2, g2, t2)) (b := (l3, g3, t3)) c2, join_none (by show (if t2 < t1 + g2 then t2 else t1 + g2) < l3; split <;> omega)]
            rfl
          · rw [join_eq (a := (l2, g2, t2)) (b := (l3, g3, t3)) c2]
            dsimp only
            by_cases c3 : t1 + g2 < l3
            · rw [join_none (by show (if t2 < t1 + g2 then t2 else t1 + g2) < l3; split <;> omega), join_none (by show t1 < (if l3 - g2 > l2 then l3 - g2 else l2); split <;> omega)]
            · rw [join_eq (by show ¬ (if t2 < t1 + g2 then t2 else t1 + g2) < l3; split <;> omega), join_eq (by show ¬ t1 < (if l3 - g2 > l2 then l3 - g2 else l2); split <;> omega)]
              congr 1
              dsimp only
              obtain ⟨m, em, m1, m2, m3⟩ : ∃ m, (if l2 - g1 > l1 then l2 - g1 else l1) = m ∧ l1 ≤ m ∧ l2 - g1 ≤ m ∧ (m = l1 ∨ m = l2 - g1) := ⟨_, rfl, by split <;> omega, by split <;> omega, by split <;> omega⟩
              obtain ⟨n, en, n1, n2, n3⟩ : ∃ n, (if t2 < t1 + g2 then t2 else t1 + g2) = n ∧ n ≤ t2 ∧ n ≤ t1 + g2 ∧ (n = t2 ∨ n = t1 + g2) := ⟨_, rfl, by split <;> omega, by split <;> omega, by split <;> omega⟩
              obtain ⟨m', em', m1', m2', m3'⟩ : ∃ m, (if l3 - g2 > l2 then l3 - g2 else l2) = m ∧ l2 ≤ m ∧ l3 - g2 ≤ m ∧ (m = l2 ∨ m = l3 - g2) := ⟨_, rfl, by split <;> omega, by split <;> omega, by split <;> omega⟩
              obtain ⟨n', en', n1', n2', n3'⟩ : ∃ n, (if t3 < t2 + g3 then t3 else t2 + g3) = n ∧ n ≤ t3 ∧ n ≤ t2 + g3 ∧ (n = t3 ∨ n = t2 + g3) := ⟨_, rfl, by split <;> omega, by split <;> omega, by split <;> omega⟩
              rw [em, en, em', en']
              congr 1
              · split <;> split <;> omega
              · congr 1
                · omega
                · split <;> split <;> omega
/-- an effect or None, good if there is one -/
def OkE (st : Int) : Ef → Prop
  | none => True
  | some e => EOk st e
theorem OkE.join {st : Int} {a b : Ef} (ha : OkE st a) (hb : OkE st b) : OkE st (joinF a b) := by
  rcases a with _ | a
  · exact trivial
  · rcases b with _ | b
    · exact trivial
    · cases q : joinF (some a) (some b) with
      | none => exact trivial
      | some r => exact join_ok ha hb q
theorem unit_l {st : Int} {a : Ef} (ha : OkE st a) : joinF (some (0, 0, st)) a = a := by
  rcases a with _ | a
  · rfl
  · exact join_unit_l ha
theorem unit_r {st : Int} {a : Ef} (ha : OkE st a) : joinF a (some (0, 0, st)) = a := by
  rcases a with _ | a
  · rfl
  · exact join_unit_r ha
theorem unit_ok {st : Int} (h : 0 ≤ st) : EOk st (0, 0, st) := ⟨Int.le_refl _, h, h, Int.le_refl _, by simp, by simp⟩
def pwF (st : Int) (e : Ef) : Nat → Ef
  | 0 => some (0, 0, st)
  | n + 1 => joinF (pwF st e n) e
theorem pw_ok {st : Int} (h : 0 ≤ st) {e : Ef} (he : OkE st e) : ∀ n, OkE st (pwF st e n)
  | 0 => unit_ok h
  | n + 1 => (pw_ok h he n).join he
theorem pw_add {st : Int} (h : 0 ≤ st) {e : Ef} (he : OkE st e) (m : Nat) : ∀ n, pwF st e (m + n) = joinF (pwF st e m) (pwF st e n)
  | 0 => (unit_r (pw_ok h he m)).symm
  | n + 1 => by
    show joinF (pwF st e (m + n)) e = joinF (pwF st e m) (joinF (pwF st e n) e)
    rw [pw_add h he m n, join_assoc]
theorem pw_one {st : Int} {e : Ef} (he : OkE st e) : pwF st e 1 = e := unit_l he
theorem pw_two {st : Int} (h : 0 ≤ st) {e : Ef} (he : OkE st e) : ∀ k, pwF st (joinF e e) k = pwF st e (2 * k)
  | 0 => rfl
  | k + 1 => by
    have e2 : pwF st e 2 = joinF e e := by
      show joinF (pwF st e 1) e = _
      rw [pw_one he]
    show joinF (pwF st (joinF e e) k) (joinF e e) = _
    rw [pw_two h he k, show 2 * (k + 1) = 2 * k + 2 from rfl, pw_add h he (2 * k) 2, e2]
/-- one turn of the doubling -/
theorem pw_turn {st : Int} (h : 0 ≤ st) {w p : Ef} (hp : OkE st p) (n : Nat) : joinF (if n % 2 = 1 then joinF w p else w) (pwF st (joinF p p) (n / 2)) = joinF w (pwF st p n) := by
  rw [pw_two h hp]
  split
  · rename_i c
    rw [join_assoc]
    congr 1
    have e : n = 1 + 2 * (n / 2) := by omega
    conv => rhs; rw [e, pw_add h hp 1, pw_one hp]
  · rename_i c
    have e : n = 2 * (n / 2) := by omega
    conv => rhs; rw [e]
theorem pw_gain {st : Int} {e : Int × Int × Int} : ∀ (n : Nat) {r : Int × Int × Int}, pwF st (some e) n = some r → r.2.1 = (n : Int) * e.2.1
  | 0, r, q => by
    have q' : some (0, 0, st) = some r := q
    cases q'
    simp
  | n + 1, r, q => by
    have q' : joinF (pwF st (some e) n) (some e) = some r := q
    cases q2 : pwF st (some e) n with
    | none => rw [q2] at q'; cases q'
    | some a =>
      rw [q2] at q'
      have ih := pw_gain n q2
      by_cases c : a.2.2 < e.1
      · rw [join_none c] at q'; cases q'
      · rw [join_eq c] at q'
        cases q'
        show a.2.1 + e.2.1 = ((n + 1 : Nat) : Int) * e.2.1
        rw [ih, Int.natCast_add, Int.add_mul]
        simp
def itF (e : Ef) : Nat → Option Int → Option Int
  | 0, o => o
  | n + 1, o => (itF e n o).bind (passF e)
theorem it_some {st : Int} {e : Int × Int × Int} : ∀ (n : Nat) {r : Int × Int × Int}, EOk st e → 0 ≤ st → pwF st (some e) n = some r → ∀ x, x ≤ st → itF (some e) n (some x) = if x < 0 then itF (some e) n (some x) else passF (some r) x
  | 0, r, oe, h, q, x, hx => by
    have q' : some (0, 0, st) = some r := q
    cases q'
    split
    · rfl
    · rename_i c
      show some x = passF (some (0, 0, st)) x
      unfold passF
      dsimp only
      rw [if_neg c]
      congr 1
      split <;> omega
  | n + 1, r, oe, h, q, x, hx => by
    have q' : joinF (pwF st (some e) n) (some e) = some r := q
    cases q2 : pwF st (some e) n with
    | none => rw [q2] at q'; cases q'
    | some a =>
      rw [q2] at q'
      have ih := it_some n oe h q2 x hx
      split
      · rfl
      · rename_i c
        rw [if_neg c] at ih
        show (itF (some e) n (some x)).bind (passF (some e)) = _
        rw [ih, join_pass q' x]
theorem it_full {st : Int} {e : Int × Int × Int} (oe : EOk st e) (h : 0 ≤ st) : ∀ n, itF (some e) n (some st) = (pwF st (some e) n).map (·.2.2)
  | 0 => rfl
  | n + 1 => by
    show (itF (some e) n (some st)).bind (passF (some e)) = (joinF (pwF st (some e) n) (some e)).map (·.2.2)
    rw [it_full oe h n]
    cases q2 : pwF st (some e) n with
    | none => rfl
    | some a =>
      show passF (some e) a.2.2 = _
      by_cases c : a.2.2 < e.1
      · rw [join_none c]
        unfold passF
        obtain ⟨l, g, t⟩ := e
        simp only at c
        simp only [if_pos c]
        rfl
      · rw [join_eq c]
        unfold passF
        obtain ⟨l, g, t⟩ := e
        simp only at c
        simp only [if_neg c]
        rfl
def spNone (K : PySem.W.Frag) : Sp := fun vs H Q _ => ∃ st : Int, vs = [.int st] ∧ ∀ (r : V) (H' : Hp), EffV K H' r (some (0, 0, st)) → Same H H' → Q r H'
def spRep (K : PySem.W.Frag) : Sp := fun vs H Q _ => ∃ (st : Int) (v : V) (e : Ef) (n : Nat), vs = [.int st, v, .int (n : Int)] ∧ EffV K H v e ∧ OkE st e ∧ 0 ≤ st ∧ ∀ (r : V) (H' : Hp), EffV K H' r (pwF st e n) → Same H H' → Q r H'
def spOften (K : PySem.W.Frag) : Sp := fun vs H Q _ => ∃ (v : V) (e : Ef) (n : Nat) (x : Int), vs = [v, .int (n : Int), .int x] ∧ EffV K H v e ∧ n ≤ 1000 ∧ Q (oV (itF e n (some x))) H
section
variable {P : Program} {w : World} {K : PySem.W.Frag} {mg : Str → Option Value} {base : Heap}
theorem ok_none (T : Txt K mg) : FnOk P w K mg base CX0 1 T.a_effect_of_none T.d_effect_of_none ["store"] (spNone K) := by
  refine T.F_effect_of_none.ok sc_effect_of_none (fun vs H Q E h => ?_) (fun cdv A outer s H vs Q E hr h => ?_)
  · obtain ⟨st, rfl, _⟩ := h
    rfl
  · obtain ⟨st, rfl, k⟩ := h
    refine ⟨_, (pss_one (ps_ret (pe_tup (pa_cons pe_int (pa_cons pe_int (pa_cons (pv 0) pa_nil se_Name) se_Constant) se_Constant)))), ?_⟩
    exact ⟨_, rfl, (by show 3 ≤ sizeLine; decide), fun p hp => k _ _ ⟨p, rfl, upd_same⟩ ((Same.refl H).lay hp)⟩
end
section
variable {P : Program} {w : World} {K : PySem.W.Frag} {mg : Str → Option Value} {base : Heap}
theorem ok_repeated (T : Txt K mg) : FnOk P w K mg base CX0 3 T.a_repeated T.d_repeated ["store", "effect", "times"] (spRep K) := by
  have G_effect_of_none : FnOk P w K mg base CX0 1 T.a_effect_of_none T.d_effect_of_none ["store"] (spNone K) := ok_none T
  have G_joined : FnOk P w K mg base CX0 2 T.a_joined T.d_joined ["one", "other"] (spJoined K) := ok_joined T
  have b_effect_of_none := bd_effect_of_none T
  have b_joined := bd_joined T
  refine T.F_repeated.ok sc_repeated (fun vs H Q E h => ?_) (fun cdv A outer s H vs Q E hr h => ?_)
  · obtain ⟨st, v, e, n, rfl, _⟩ := h
    rfl
  · obtain ⟨st, v, e, n, rfl, he, oe, h0, k⟩ := h
    refine ⟨_, (pss_cons (ps_set (i := 3) sc_repeated.nd rfl (Or.inl rfl) (pe_call G_effect_of_none (hr.mono (by decide)) rfl T.mg_effect_of_none T.kp_effect_of_none b_effect_of_none .nil pass0 (pa_cons (pv 0) pa_nil se_Name) (he := se_Name) (hpl := np_nil)))
      (pss_cons (ps_set (i := 4) sc_repeated.nd rfl (Or.inl rfl) (pv 1))
      (pss_cons (ps_set (i := 5) sc_repeated.nd rfl (Or.inl rfl) (pv 2))
      (pss_cons (ps_while PassesOwn.never (pt_cmpR op_gt (pv 5) pe_int (nomark _))
      (pss_cons (ps_mid (ps_if (pt_cmpR op_eq (pe_op op_mod (pv 5) pe_int) pe_int (nomark _))
      (pss_one (ps_set (i := 3) sc_repeated.nd rfl (Or.inl rfl) (pe_call G_joined (hr.mono (by decide)) rfl T.mg_joined T.kp_joined b_joined .nil pass0 (pa_cons (pv 3) (pa_cons (pv 4) pa_nil se_Name) se_Name) (he := se_Name) (hpl := (np_cons se_Name np_nil)))))
      pss_nil))
      (pss_cons (ps_set (i := 4) sc_repeated.nd rfl (Or.inl rfl) (pe_call G_joined (hr.mono (by decide)) rfl T.mg_joined T.kp_joined b_joined .nil pass0 (pa_cons (pv 4) (pa_cons (pv 4) pa_nil se_Name) se_Name) (he := se_Name) (hpl := (np_cons se_Name np_nil))))
      (pss_one (ps_set (i := 5) sc_repeated.nd rfl (Or.inl rfl) (pe_op op_fdivB (pv 5) pe_int))))))
      (pss_one (ps_ret (pv 3))))))), ?_⟩
    refine ⟨_, rfl, st, rfl, fun r H1 h1 s1 => ?_⟩
    refine ⟨_, rfl, ?_⟩
    refine ⟨_, rfl, ?_⟩
    refine while_by (fun σ H2 => ∃ (x p : V) (a b : Ef) (m : Nat), σ = [some (.int st), some v, some (.int (n : Int)), some x, some p, some (.int (m : Int))] ∧ EffV K H2 x a ∧ EffV K H2 p b ∧ OkE st a ∧ OkE st b ∧ joinF a (pwF st b m) = pwF st e n ∧ Same H H2)
      (fun σ _ => match σ with | [_, _, _, _, _, some (.int m)] => m.toNat | _ => 0) ⟨r, v, some (0, 0, st), e, n, rfl, h1, he.same s1, unit_ok h0, oe, unit_l (pw_ok (e := e) h0 oe n), s1⟩ ?_ (fun σ H Q Q' f ⟨v, e1, i, j, e3, e4, c, e5, q⟩ => ⟨v, e1, i, j, e3, e4, c, e5, f _ _ q⟩)
    rintro σ H2 ⟨x, p, a, b, m, rfl, hx, hp, oa, ob, eq, s2⟩
    refine ⟨_, rfl, _, _, rfl, rfl, _, rfl, ?_⟩
    refine ite2 (fun c => ?_) (fun c => ?_)
    · have c' : 0 < m := by simpa using c
      refine ⟨fun σ H3 => ∃ (x : V), σ = [some (.int st), some v, some (.int (n : Int)), some x, some p, some (.int (m : Int))] ∧ EffV K H3 x (if m % 2 = 1 then joinF a b else a) ∧ Same H2 H3, ?_, ?_⟩
      · refine ⟨_, rfl, _, _, rfl, rfl, (by first | decide | (dsimp only; decide)), rfl, _, rfl, ?_⟩
        refine ite2 (fun d => ?_) (fun d => ?_)
        · have d' : m % 2 = 1 := by
            have d2 : V.int ((m : Int) % 2) = V.int 1 := of_decide_eq_true d
            injection d2 with d2
            omega
          refine ⟨_, rfl, _, rfl, x, p, a, b, rfl, hx, hp, fun r H3 h3 s3 => ⟨r, rfl, ?_, s3⟩⟩
          rw [if_pos d']; exact h3
        · have d' : ¬ m % 2 = 1 := fun z => d (decide_eq_true (congrArg V.int (by omega : (m : Int) % 2 = 1)))
          exact ⟨x, rfl, by rw [if_neg d']; exact hx, Same.refl H2⟩
      · rintro σ H3 ⟨x, rfl, hx3, s3⟩
        have hp3 := hp.same s3
        refine ⟨_, rfl, _, rfl, p, p, b, b, rfl, hp3, hp3, fun r H4 h4 s4 => ?_⟩
        refine ⟨_, rfl, _, _, rfl, rfl, ⟨by decide, by decide⟩, ?_⟩
        have e2 : ((m : Int) / 2) = ((m / 2 : Nat) : Int) := by omega
        refine ⟨⟨x, r, _, joinF b b, m / 2, by show [some (V.int st), some v, some (V.int (n : Int)), some x, some r, some (V.int ((m : Int) / 2))] = _; rw [e2], hx3.same s4, h4, ?_, ob.join ob, (pw_turn h0 ob m).trans eq, (s2.trans s3).trans s4⟩, ?_⟩
        · split
          · exact oa.join ob
          · exact oa
        · show ((m : Int) / 2).toNat < ((m : Int)).toNat
          omega
    · have c' : m = 0 := by
        have : ¬ (0 : Int) < (m : Int) := by simpa using c
        omega
      subst c'
      have eq' : a = pwF st e n := by rw [← eq]; exact (unit_r oa).symm
      rw [eq'] at hx
      exact ⟨_, rfl, k _ _ hx s2⟩
end
/-! ### the effect of a row: as the program reckons it -/
def oneF (st c : Int) : Ef := if st + c < 0 then none else some (if -c > 0 then -c else 0, c, if st + c < st then st + c else st)
def foF (st : Int) (w : Ef) (cs : List Int) : Ef := cs.foldl (fun w c => joinF w (oneF st c)) w
def fxF (st : Int) (cs : List Int) : Ef := foF st (some (0, 0, st)) cs
theorem oneF_ok {st : Int} (h : 0 ≤ st) (c : Int) : OkE st (oneF st c) := by
  unfold oneF
  split
  · exact trivial
  · refine ⟨?_, ?_, ?_, ?_, ?_, ?_⟩ <;> dsimp only <;> (repeat' split) <;> omega
theorem foF_join {st : Int} (w : Ef) (hw : ∀ x, joinF w (joinF (some (0, 0, st)) x) = joinF w x) : ∀ (cs : List Int) (a : Ef), foF st (joinF w a) cs = joinF w (foF st a cs)
  | [], a => rfl
  | c :: cs, a => by
    show foF st (joinF (joinF w a) (oneF st c)) cs = joinF w (foF st (joinF a (oneF st c)) cs)
    rw [join_assoc, foF_join w hw cs]
theorem foF_ok {st : Int} (h : 0 ≤ st) : ∀ (cs : List Int) {w : Ef}, OkE st w → OkE st (foF st w cs)
  | [], _, hw => hw
  | c :: cs, w, hw => foF_ok h cs (hw.join (oneF_ok h c))
theorem fxF_ok {st : Int} (h : 0 ≤ st) (cs : List Int) : OkE st (fxF st cs) := foF_ok h cs (unit_ok h)
theorem fxF_append {st : Int} (h : 0 ≤ st) (xs ys : List Int) : fxF st (xs ++ ys) = joinF (fxF st xs) (fxF st ys) := by
  have e1 : fxF st (xs ++ ys) = foF st (fxF st xs) ys := by
    unfold fxF foF
    rw [List.foldl_append]
  rw [e1]
  conv => lhs; rw [← unit_r (fxF_ok h xs)]
  exact foF_join (fxF st xs) (fun x => by rw [← join_assoc, unit_r (fxF_ok h xs)]) ys _
theorem fxF_rep {st : Int} (h : 0 ≤ st) (xs : List Int) : ∀ n, fxF st (List.replicate n xs).flatten = pwF st (fxF st xs) n
  | 0 => rfl
  | n + 1 => by
    rw [List.replicate_succ', List.flatten_append, fxF_append h, fxF_rep h xs n]
    show joinF _ (fxF st ([xs].flatten)) = joinF _ (fxF st xs)
    rw [show [xs].flatten = xs by simp]
theorem pass_joinE (a b : Ef) (x : Int) : passF (joinF a b) x = (passF a x).bind (passF b) := by
  rcases a with _ | a
  · rfl
  · rcases b with _ | b
    · show none = (passF (some a) x).bind (passF none)
      cases passF (some a) x <;> rfl
    · by_cases c : a.2.2 < b.1
      · rw [join_none c]
        obtain ⟨l1, g1, t1⟩ := a
        obtain ⟨l2, g2, t2⟩ := b
        simp only at c
        show none = _
        unfold passF
        dsimp only
        by_cases c1 : x < l1
        · rw [if_pos c1]; rfl
        · rw [if_neg c1]
          show none = if (if t1 < x + g1 then t1 else x + g1) < l2 then none else _
          rw [if_pos (by split <;> omega)]
      · exact join_pass (join_eq c) x |>.symm ▸ (by rw [join_eq c])
def spOne1 (K : PySem.W.Frag) : Sp := fun vs H Q _ => ∃ st c : Int, vs = [.int st, .int c] ∧ ∀ (r : V) (H' : Hp), EffV K H' r (oneF st c) → Same H H' → Q r H'
def spFx (K : PySem.W.Frag) : Sp := fun vs H Q _ => ∃ (st : Int) (q : Addr) (cs : List Int), vs = [.int st, .ref q] ∧ SqL K H q (cs.map V.int) ∧ ∀ (r : V) (H' : Hp), EffV K H' r (fxF st cs) → Same H H' → Q r H'
section
variable {P : Program} {w : World} {K : PySem.W.Frag} {mg : Str → Option Value} {base : Heap}
theorem ok_one1 (T : Txt K mg) : FnOk P w K mg base CX0 1 T.a_effect_of_one T.d_effect_of_one ["store", "change"] (spOne1 K) := by
  refine T.F_effect_of_one.ok sc_effect_of_one (fun vs H Q E h => ?_) (fun cdv A outer s H vs Q E hr h => ?_)
  · obtain ⟨st, c, rfl, _⟩ := h
    rfl
  · obtain ⟨st, c, rfl, k⟩ := h
    refine ⟨_, (pss_cons (ps_mid (ps_if (pt_cmpR op_lt (pe_op op_add (pv 0) (pv 1)) pe_int (nomark _))
      (pss_one (ps_ret pe_non))
      pss_nil))
      (pss_one (ps_ret (pe_tup (pa_cons (pe_callB (call_max2 rfl) rfl T.n_max bt_max (pa_cons pe_int (pa_cons (pe_un un_neg (pv 1)) pa_nil se_UnaryOp) se_Constant) (he := se_Constant) (hpl := (np_cons se_UnaryOp np_nil))) (pa_cons (pv 1) (pa_cons (pe_callB (call_min2 rfl) rfl T.n_min bt_min (pa_cons (pv 0) (pa_cons (pe_op op_add (pv 0) (pv 1)) pa_nil se_BinOp) se_Name) (he := se_Name) (hpl := (np_cons se_BinOp np_nil))) pa_nil se_Call) se_Name) se_Call))))), ?_⟩
    refine ⟨fun σ H2 => H = H2 ∧ σ = [some (.int st), some (.int c)] ∧ ¬ st + c < 0, ?_, ?_⟩
    · refine ⟨_, rfl, _, rfl, _, _, rfl, rfl, _, _, rfl, rfl, _, rfl, ?_⟩
      refine ite2 (fun d => ?_) (fun d => ⟨rfl, rfl, by simpa using d⟩)
      have d' : st + c < 0 := by simpa using d
      exact k _ H (by unfold oneF; rw [if_pos d']; rfl) (Same.refl H)
    · rintro σ H2 ⟨rfl, rfl, d⟩
      refine ⟨_, rfl, _, rfl, _, _, rfl, _, rfl, _, rfl, _, rfl, _, rfl, _, _, rfl, rfl, _, _, rfl, (by show 3 ≤ sizeLine; decide), fun p hp => ?_⟩
      exact k _ _ (by unfold oneF; rw [if_neg d]; exact ⟨p, rfl, upd_same⟩) ((Same.refl H).lay hp)
theorem ok_fx (T : Txt K mg) : FnOk P w K mg base CX0 3 T.a_effect_of T.d_effect_of ["store", "changes"] (spFx K) := by
  have G_effect_of_none : FnOk P w K mg base CX0 1 T.a_effect_of_none T.d_effect_of_none ["store"] (spNone K) := ok_none T
  have G_effect_of_one : FnOk P w K mg base CX0 1 T.a_effect_of_one T.d_effect_of_one ["store", "change"] (spOne1 K) := ok_one1 T
  have G_joined : FnOk P w K mg base CX0 2 T.a_joined T.d_joined ["one", "other"] (spJoined K) := ok_joined T
  have b_effect_of_none := bd_effect_of_none T
  have b_effect_of_one := bd_effect_of_one T
  have b_joined := bd_joined T
  refine T.F_effect_of.ok sc_effect_of (fun vs H Q E h => ?_) (fun cdv A outer s H vs Q E hr h => ?_)
  · obtain ⟨st, q, cs, rfl, _⟩ := h
    rfl
  · obtain ⟨st, q, cs, rfl, hq, k⟩ := h
    refine ⟨_, (pss_cons (ps_set (i := 2) sc_effect_of.nd rfl (Or.inl rfl) (pe_call G_effect_of_none (hr.mono (by decide)) rfl T.mg_effect_of_none T.kp_effect_of_none b_effect_of_none .nil pass0 (pa_cons (pv 0) pa_nil se_Name) (he := se_Name) (hpl := np_nil)))
      (pss_cons (ps_for PassesOwn.never rfl (pi_list (pv 1)) (pg_name (i := 3) sc_effect_of.nd rfl (Or.inl rfl))
      (pss_one (ps_set (i := 2) sc_effect_of.nd rfl (Or.inl rfl) (pe_call G_joined (hr.mono (by decide)) rfl T.mg_joined T.kp_joined b_joined .nil pass0 (pa_cons (pv 2) (pa_cons (pe_call G_effect_of_one (hr.mono (by decide)) rfl T.mg_effect_of_one T.kp_effect_of_one b_effect_of_one .nil pass0 (pa_cons (pv 0) (pa_cons (pv 3) pa_nil se_Name) se_Name) (he := se_Name) (hpl := (np_cons se_Name np_nil))) pa_nil se_Call) se_Name) (he := se_Name) (hpl := (np_cons se_Call np_nil))))))
      (pss_one (ps_ret (pv 2))))), ?_⟩
    refine ⟨_, rfl, st, rfl, fun r H1 h1 s1 => ?_⟩
    refine ⟨_, rfl, q, rfl, ⟨_, s1.seq hq⟩, for_list (K := K) (a := q) (xs := cs.map V.int) (fun i σ H2 => ∃ (x : V) (a : Ef) (v : Option V), σ = [some (.int st), some (.ref q), some x, v] ∧ EffV K H2 x a ∧ foF st a (cs.drop i) = fxF st cs ∧ Same H H2)
      ⟨r, some (0, 0, st), none, rfl, h1, rfl, s1⟩ (fun i σ H2 _ ⟨_, _, _, _, _, _, s2⟩ => s2.seq hq) ?_ ?_⟩
    · rintro i y σ H2 hi ⟨x, a, v, rfl, hx, he, s2⟩
      have hil : i < cs.length := by
        have := (List.getElem?_eq_some_iff.mp hi).1
        rw [List.length_map] at this; exact this
      have hy : y = .int cs[i] := by
        rw [List.getElem?_map, List.getElem?_eq_getElem hil] at hi
        exact (Option.some.inj hi).symm
      subst hy
      have hd : cs.drop i = cs[i] :: cs.drop (i + 1) := List.drop_eq_getElem_cons hil
      rw [hd] at he
      refine ⟨_, rfl, _, rfl, _, rfl, st, cs[i], rfl, fun u H3 h3 s3 => ?_⟩
      refine ⟨x, u, a, oneF st cs[i], rfl, hx.same s3, h3, fun z H4 h4 s4 => ?_⟩
      exact ⟨z, _, _, rfl, h4, he, (s2.trans s3).trans s4⟩
    · rintro σ H2 ⟨x, a, v, rfl, hx, he, s2⟩
      rw [List.length_map, List.drop_length] at he
      have he' : a = fxF st cs := he
      rw [he'] at hx
      exact ⟨_, rfl, k _ _ hx s2⟩
end
/-! ### mirrored -/
def mirE (st : Int) (e : Int × Int × Int) : Int × Int × Int := (st - e.2.2, e.2.1, st - e.1)
def mirF (st : Int) : Ef → Ef
  | none => none
  | some e => some (mirE st e)
theorem mir_ok {st : Int} {e : Int × Int × Int} (h : EOk st e) : EOk st (mirE st e) := by
  obtain ⟨l, g, t⟩ := e
  obtain ⟨h1, h2, h3, h4, h5, h6⟩ := h
  simp only at h1 h2 h3 h4 h5 h6
  refine ⟨?_, ?_, ?_, ?_, ?_, ?_⟩ <;> dsimp only [mirE] <;> omega
theorem mir_mir (st : Int) (e : Int × Int × Int) : mirE st (mirE st e) = e := by
  obtain ⟨l, g, t⟩ := e
  show (st - (st - l), g, st - (st - t)) = (l, g, t)
  rw [Int.sub_sub_self, Int.sub_sub_self]
theorem mir_join (st : Int) (a b : Ef) : mirF st (joinF a b) = joinF (mirF st b) (mirF st a) := by
  rcases a with _ | a
  · cases mirF st b <;> rfl
  · rcases b with _ | b
    · rfl
    · obtain ⟨l1, g1, t1⟩ := a
      obtain ⟨l2, g2, t2⟩ := b
      by_cases c : t1 < l2
      · rw [join_none (by exact c)]
        show none = joinF (some (st - t2, g2, st - l2)) (some (st - t1, g1, st - l1))
        rw [join_none (by show st - l2 < st - t1; omega)]
      · rw [join_eq (by exact c)]
        show some (mirE st _) = joinF (some (st - t2, g2, st - l2)) (some (st - t1, g1, st - l1))
        rw [join_eq (by show ¬ st - l2 < st - t1; omega)]
        dsimp only [mirE]
        congr 1
        congr 1
        · split <;> split <;> omega
        · congr 1
          · omega
          · split <;> split <;> omega
theorem mir_one (st c : Int) : mirF st (oneF st c) = oneF st c := by
  unfold oneF
  split
  · rfl
  · show some (mirE st _) = _
    dsimp only [mirE]
    congr 1
    congr 1
    · split <;> split <;> omega
    · congr 1
      split <;> split <;> omega
theorem fx_one {st : Int} (h : 0 ≤ st) (c : Int) : fxF st [c] = oneF st c := by
  show joinF (some (0, 0, st)) (oneF st c) = oneF st c
  exact unit_l (oneF_ok h c)
theorem fx_rev {st : Int} (h : 0 ≤ st) : ∀ cs : List Int, fxF st cs.reverse = mirF st (fxF st cs)
  | [] => by
    show some (0, 0, st) = some (st - st, 0, st - 0)
    rw [Int.sub_self, Int.sub_zero]
  | c :: cs => by
    rw [List.reverse_cons, fxF_append h, fx_rev h cs, show c :: cs = [c] ++ cs from rfl, fxF_append h, mir_join, fx_one h, mir_one]
def comeF (o : Option Int) (y : Int) : Bool := match o with
  | none => false
  | some z => decide (z ≥ y)
def spMir (K : PySem.W.Frag) : Sp := fun vs H Q _ => ∃ (st : Int) (v : V) (e : Ef), vs = [.int st, v] ∧ EffV K H v e ∧ ∀ (r : V) (H' : Hp), EffV K H' r (mirF st e) → Same H H' → Q r H'
section
variable {P : Program} {w : World} {K : PySem.W.Frag} {mg : Str → Option Value} {base : Heap}
theorem ok_mirrored (T : Txt K mg) : FnOk P w K mg base CX0 1 T.a_mirrored T.d_mirrored ["store", "effect"] (spMir K) := by
  refine T.F_mirrored.ok sc_mirrored (fun vs H Q E h => ?_) (fun cdv A outer s H vs Q E hr h => ?_)
  · obtain ⟨st, v, e, rfl, _⟩ := h
    rfl
  · obtain ⟨st, v, e, rfl, he, k⟩ := h
    refine ⟨_, (pss_cons (ps_mid (ps_if (pt_cmpR op_isN (pv 1) pe_non (nomark _))
      (pss_one (ps_ret pe_non))
      pss_nil))
      (pss_one (ps_ret (pe_tup (pa_cons (pe_op op_sub (pv 0) (pe_ix ix_tup (pv 1) (pe_glob (v := V.int 2) rfl T.mg_TOP ⟨_, rfl⟩) (fun _ _ => rfl))) (pa_cons (pe_ix ix_tup (pv 1) (pe_glob (v := V.int 1) rfl T.mg_GAIN ⟨_, rfl⟩) (fun _ _ => rfl)) (pa_cons (pe_op op_sub (pv 0) (pe_ix ix_tup (pv 1) (pe_glob (v := V.int 0) rfl T.mg_LEAST ⟨_, rfl⟩) (fun _ _ => rfl))) pa_nil se_BinOp) se_Subscript) se_BinOp))))), ?_⟩
    rcases e with _ | ⟨l, g, t⟩
    · cases (show v = .non from he)
      refine ⟨fun _ _ => False, ?_, fun _ _ z => z.elim⟩
      exact ⟨_, rfl, rfl, _, rfl, iteT (k _ H rfl (Same.refl H))⟩
    · obtain ⟨p, rfl, hp⟩ := he
      refine ⟨fun σ H2 => H = H2 ∧ σ = [some (.int st), some (.ref p)], ?_, ?_⟩
      · exact ⟨_, rfl, rfl, _, rfl, iteF ⟨rfl, rfl⟩⟩
      · rintro σ H2 ⟨rfl, rfl⟩
        refine ⟨_, rfl, _, rfl, p, _, _, _, rfl, rfl, SqT.of hp, rfl, _, _, rfl, rfl, ?_⟩
        refine ⟨_, rfl, p, _, _, _, rfl, rfl, SqT.of hp, rfl, ?_⟩
        refine ⟨_, rfl, _, rfl, p, _, _, _, rfl, rfl, SqT.of hp, rfl, _, _, rfl, rfl, (by show 3 ≤ sizeLine; decide), fun r hr0 => ?_⟩
        exact k _ _ ⟨r, rfl, upd_same⟩ ((Same.refl H).lay hr0)
end
theorem pass_bd {st : Int} {e : Ef} {x y : Int} (o : OkE st e) (h : passF e x = some y) : 0 ≤ y ∧ y ≤ st := by
  rcases e with _ | ⟨l, g, t⟩
  · cases h
  · obtain ⟨h1, h2, h3, h4, h5, h6⟩ := (show EOk st (l, g, t) from o)
    simp only at h1 h2 h3 h4 h5 h6
    have h' : (if x < l then none else some (if t < x + g then t else x + g)) = some y := h
    split at h'
    · cases h'
    · have h2' := Option.some.inj h'
      rw [← h2']
      split <;> omega
/-! ### ways and lands -/
abbrev Wy := Int × Int × Int
def WayV (H : Hp) (v : V) (w : Wy) : Prop := ∃ p, v = .ref p ∧ H p = some (.tup [.int w.1, .int w.2.1, .int w.2.2])
def WaysV (H : Hp) : List V → List Wy → Prop
  | [], [] => True
  | v :: vs, w :: ws => WayV H v w ∧ WaysV H vs ws
  | _, _ => False
theorem WayV.same {H H' : Hp} {v : V} {w : Wy} (h : WayV H v w) (s : Same H H') : WayV H' v w := by
  obtain ⟨p, e1, e2⟩ := h
  exact ⟨p, e1, s _ _ e2⟩
theorem WayV.kp {H H' : Hp} {v : V} {w : Wy} {a l : Addr} (h : WayV H v w) (hd : Hd H a l) (s : Kp a H H') : WayV H' v w := by
  obtain ⟨_, _, _, _, _, _, _, _, ha⟩ := hd
  obtain ⟨p, e1, e2⟩ := h
  exact ⟨p, e1, s _ _ e2 (ne_of e2 ha (by intro q; cases q))⟩
theorem WayV.wr {H : Hp} {v : V} {w : Wy} {p : Addr} {xs : List V} {o : HO} (h : WayV H v w) (hp : H p = some (.lst xs)) : WayV (upd H p o) v w := by
  obtain ⟨q, e1, e2⟩ := h
  exact ⟨q, e1, by rw [upd_ne (ne_of e2 hp (by intro z; cases z))]; exact e2⟩
theorem WaysV.imp {H H' : Hp} (f : ∀ v w, WayV H v w → WayV H' v w) : ∀ {vs : List V} {ws : List Wy}, WaysV H vs ws → WaysV H' vs ws
  | [], [], _ => trivial
  | _ :: _, _ :: _, h => ⟨f _ _ h.1, WaysV.imp f h.2⟩
  | [], _ :: _, h => h.elim
  | _ :: _, [], h => h.elim
theorem WaysV.same {H H' : Hp} {vs : List V} {ws : List Wy} (h : WaysV H vs ws) (s : Same H H') : WaysV H' vs ws := h.imp fun _ _ z => z.same s
theorem WaysV.kp {H H' : Hp} {vs : List V} {ws : List Wy} {a l : Addr} (h : WaysV H vs ws) (hd : Hd H a l) (s : Kp a H H') : WaysV H' vs ws := h.imp fun _ _ z => z.kp hd s
theorem WaysV.wr {H : Hp} {vs : List V} {ws : List Wy} {p : Addr} {xs : List V} {o : HO} (h : WaysV H vs ws) (hp : H p = some (.lst xs)) : WaysV (upd H p o) vs ws := h.imp fun _ _ z => z.wr hp
theorem WaysV.app {H : Hp} {v : V} {w : Wy} : ∀ {vs : List V} {ws : List Wy}, WaysV H vs ws → WayV H v w → WaysV H (vs ++ [v]) (ws ++ [w])
  | [], [], _, h => ⟨h, trivial⟩
  | _ :: _, _ :: _, h, z => ⟨h.1, WaysV.app h.2 z⟩
  | [], _ :: _, h, _ => h.elim
  | _ :: _, [], h, _ => h.elim
theorem WaysV.len {H : Hp} : ∀ {vs : List V} {ws : List Wy}, WaysV H vs ws → vs.length = ws.length
  | [], [], _ => rfl
  | _ :: vs, _ :: ws, h => by rw [List.length_cons, List.length_cons, WaysV.len h.2]
  | [], _ :: _, h => h.elim
  | _ :: _, [], h => h.elim
theorem WaysV.get {H : Hp} : ∀ {vs : List V} {ws : List Wy} {i : Nat} {v : V}, WaysV H vs ws → vs[i]? = some v → ∃ w, ws[i]? = some w ∧ WayV H v w
  | [], [], _, _, _, e => by simp at e
  | v :: _, w :: _, 0, _, h, e => by
    have e' : v = _ := Option.some.inj e
    subst e'
    exact ⟨w, rfl, h.1⟩
  | _ :: vs, _ :: ws, i + 1, v, h, e => WaysV.get (vs := vs) (ws := ws) (i := i) h.2 e
  | [], _ :: _, _, _, h, _ => h.elim
  | _ :: _, [], _, _, h, _ => h.elim
def wayD (w : Wy) : PyData := .tuple [.int w.1, .int w.2.1, .int w.2.2]
theorem WaysV.dat {K : PySem.W.Frag} {H : Hp} : ∀ {vs : List V} {ws : List Wy}, WaysV H vs ws → DatVs K H vs (ws.map wayD)
  | [], [], _ => .nil
  | _ :: _, _ :: _, h => by
    obtain ⟨p, rfl, e⟩ := h.1
    exact .cons (.tup (SqT.of e) (.cons (.int _) (.cons (.int _) (.cons (.int _) .nil)))) (WaysV.dat h.2)
  | [], _ :: _, h => h.elim
  | _ :: _, [], h => h.elim
theorem lay_ways : ∀ ws : List Wy, PyData.canLayAll0 (ws.map wayD) = true
  | [] => rfl
  | w :: ws => by
    show (PyData.canLay0 (wayD w) && PyData.canLayAll0 (ws.map wayD)) = true
    rw [lay_ways ws]; rfl
theorem depth_ways : ∀ ws : List Wy, PyData.depthAll (ws.map wayD) ≤ 1
  | [] => Nat.zero_le _
  | w :: ws => by
    show max (PyData.depth (wayD w)) (PyData.depthAll (ws.map wayD)) ≤ 1
    have := depth_ways ws
    have h : PyData.depth (wayD w) = 1 := rfl
    omega
def landD (m : Int) (ws : List Wy) : PyData := .tuple [.int m, .list (ws.map wayD)]
theorem landD_lay (m : Int) (ws : List Wy) : (landD m ws).canLay0 = true := by
  show (PyData.canLay0 (.int m) && (PyData.canLayAll0 (ws.map wayD) && true)) = true
  rw [lay_ways]; rfl
theorem landD_depth (m : Int) (ws : List Wy) : (landD m ws).depth ≤ 64 := by
  show max (PyData.depth (.int m)) (max (PyData.depthAll (ws.map wayD) + 1) 0) + 1 ≤ 64
  have := depth_ways ws
  have h : PyData.depth (.int m) = 0 := rfl
  omega
def LandV (H : Hp) (v : V) (m : Int) (ws : List Wy) : Prop := ∃ p q vs, v = .ref p ∧ H p = some (.tup [.int m, .ref q]) ∧ H q = some (.lst vs) ∧ WaysV H vs ws
theorem LandV.same {H H' : Hp} {v : V} {m : Int} {ws : List Wy} (h : LandV H v m ws) (s : Same H H') : LandV H' v m ws := by
  obtain ⟨p, q, vs, e1, e2, e3, e4⟩ := h
  exact ⟨p, q, vs, e1, s _ _ e2, s _ _ e3, e4.same s⟩
theorem LandV.dat {K : PySem.W.Frag} {H : Hp} {v : V} {m : Int} {ws : List Wy} (h : LandV H v m ws) : DatV K H v (landD m ws) := by
  obtain ⟨p, q, vs, rfl, e2, e3, e4⟩ := h
  exact .tup (SqT.of e2) (.cons (.int m) (.cons (.lst (SqL.of e3) e4.dat) .nil))
theorem eqD_land {K : PySem.W.Frag} {H : Hp} {v u : V} {m : Int} {ws : List Wy} {Q : VK} {neg : Bool} (h1 : LandV H v m ws) (h2 : LandV H u m ws) (hQ : Q (.bl (!neg)) H) : rEqD K neg v u H Q := by
  refine ⟨_, _, h1.dat, h2.dat, landD_lay m ws, landD_lay m ws, ?_, ?_⟩
  · have := landD_depth m ws; omega
  · rw [SeqAt.eqv_refl _ (landD_lay m ws)]
    cases neg <;> exact hQ
theorem Kp.wr {a p : Addr} {H H1 : Hp} {o : HO} (x : Kp a H H1) (h : H p = none) : Kp a H (upd H1 p o) := fun b u e n => by
  rw [upd_ne (ne_of_none e h)]; exact x b u e n
def WyIn (m sc : Int) (w : Wy) : Prop := 0 ≤ w.1 ∧ w.1 < m ∧ 0 ≤ w.2.1 ∧ w.2.1 < m ∧ -sc ≤ w.2.2 ∧ w.2.2 ≤ sc
def spLand : Sp := fun vs H Q _ => ∃ (a l : Addr) (pn wn sc : Int), vs = [.ref a, .int pn, .int wn, .int sc] ∧ Hd H a l ∧ 1 ≤ pn ∧ pn ≤ 100 ∧ 0 ≤ wn ∧ wn ≤ 100 ∧ 1 ≤ sc ∧ sc ≤ 1000000000000000000 ∧
  ∀ (p q : Addr) (us : List V) (ws : List Wy) (m : Int) (H' : Hp), H p = none → H q = none → H' p = some (.tup [.int m, .ref q]) → H' q = some (.lst us) → WaysV H' us ws → 1 ≤ m → m ≤ pn → (ws.length : Int) ≤ wn → (∀ w ∈ ws, WyIn m sc w) → Hd H' a l → Kp a H H' → Q (.ref p) H'
section
variable {P : Program} {w : World} {K : PySem.W.Frag} {mg : Str → Option Value} {base : Heap}
theorem ok_land (T : Txt K mg) : FnOk P w K mg base CX0 5 T.a_land T.d_land ["_law_hand_here", "_law_places", "_law_ways", "_law_scale_here"] spLand := by
  have G_draw : FnOk P w K mg base CX0 3 T.a_draw T.d_draw ["_law_hand_here", "_law_many"] spDraw := ok_draw T
  have G_change : FnOk P w K mg base CX0 4 T.a_change T.d_change ["_law_hand_here", "_law_scale_here"] spChange := ok_change T
  have b_draw := bd_draw T
  have b_change := bd_change T
  refine T.F_land.ok sc_land (fun vs H Q E h => ?_) (fun cdv A outer s H vs Q E hr h => ?_)
  · obtain ⟨a, l, pn, wn, sc, rfl, _⟩ := h
    rfl
  · obtain ⟨a, l, pn, wn, sc, rfl, hd, p0, p1, w0, w1, sc0, sc1, k⟩ := h
    refine ⟨_, (pss_cons (ps_set (i := 4) sc_land.nd rfl (Or.inl rfl) (pe_op op_add pe_int (pe_call G_draw (hr.mono (by decide)) rfl T.mg_draw T.kp_draw b_draw .nil pass0 (pa_cons (pv 0) (pa_cons (pv 1) pa_nil se_Name) se_Name) (he := se_Name) (hpl := (np_cons se_Name np_nil)))))
      (pss_cons (ps_set (i := 5) sc_land.nd rfl (Or.inl rfl) (pe_lst pa_nil))
      (pss_cons (ps_for PassesOwn.never rfl (pi_range1 rfl T.n_range (pa_cons (pe_call G_draw (hr.mono (by decide)) rfl T.mg_draw T.kp_draw b_draw .nil pass0 (pa_cons (pv 0) (pa_cons (pe_op op_add (pv 2) pe_int) pa_nil se_BinOp) se_Name) (he := se_Name) (hpl := (np_cons se_BinOp np_nil))) pa_nil se_Call)) (pg_name (i := 6) sc_land.nd rfl (Or.inl rfl))
      (pss_cons (ps_set (i := 7) sc_land.nd rfl (Or.inl rfl) (pe_call G_draw (hr.mono (by decide)) rfl T.mg_draw T.kp_draw b_draw .nil pass0 (pa_cons (pv 0) (pa_cons (pv 4) pa_nil se_Name) se_Name) (he := se_Name) (hpl := (np_cons se_Name np_nil))))
      (pss_cons (ps_set (i := 8) sc_land.nd rfl (Or.inl rfl) (pe_call G_draw (hr.mono (by decide)) rfl T.mg_draw T.kp_draw b_draw .nil pass0 (pa_cons (pv 0) (pa_cons (pv 4) pa_nil se_Name) se_Name) (he := se_Name) (hpl := (np_cons se_Name np_nil))))
      (pss_cons (ps_mid (ps_if (pt_cmpR op_eq (pe_call G_draw (hr.mono (by decide)) rfl T.mg_draw T.kp_draw b_draw .nil pass0 (pa_cons (pv 0) (pa_cons pe_int pa_nil se_Constant) se_Name) (he := se_Name) (hpl := (np_cons se_Constant np_nil))) pe_int (nomark _))
      (pss_one (ps_set (i := 8) sc_land.nd rfl (Or.inl rfl) (pe_op op_mod (pe_op op_add (pv 7) pe_int) (pv 4))))
      pss_nil))
      (pss_one (ps_expr (pe_bm PySem.F.plainAttrs_list PySem.F.slot_list_append PySem.F.type_list_append mt_append (pv 5) (pa_cons (pe_tup (pa_cons (pv 7) (pa_cons (pv 8) (pa_cons (pe_call G_change (hr.mono (by decide)) rfl T.mg_change T.kp_change b_change .nil pass0 (pa_cons (pv 0) (pa_cons (pe_ix ix_list (pe_lst (pa_cons (pv 3) (pa_cons (pv 3) (pa_cons pe_int pa_nil se_Constant) se_Name) se_Name)) (pe_call G_draw (hr.mono (by decide)) rfl T.mg_draw T.kp_draw b_draw .nil pass0 (pa_cons (pv 0) (pa_cons pe_int pa_nil se_Constant) se_Name) (he := se_Name) (hpl := (np_cons se_Constant np_nil))) (fun _ _ => rfl)) pa_nil se_Subscript) se_Name) (he := se_Name) (hpl := (np_cons se_Subscript np_nil))) pa_nil se_Call) se_Name) se_Name)) pa_nil se_Tuple))))))))
      (pss_one (ps_ret (pe_tup (pa_cons (pv 4) (pa_cons (pv 5) pa_nil se_Name) se_Name))))))), ?_⟩
    refine ⟨_, rfl, _, rfl, a, l, _, rfl, hd, by omega, by omega, fun r H1 r0 r1 d1 k1 => ⟨_, _, rfl, rfl, ?_⟩⟩
    refine ⟨(by show 0 ≤ sizeLine; decide), fun pr hpr => ?_⟩
    obtain ⟨o1, eo1⟩ := d1.at1
    have hpr0 : H pr = none := k1.free eo1 hpr
    have npr := d1.ne hpr
    refine ⟨_, rfl, _, rfl, _, _, rfl, rfl, a, l, _, rfl, d1.lay hpr, by omega, by omega, fun n H2 n0 n1 d2 k2 => ⟨_, rfl, by omega, by omega, ?_⟩⟩
    refine for_range (fun i σ H3 => ∃ (us : List V) (ws : List Wy) (v1 v2 v3 : Option V), σ = [some (.ref a), some (.int pn), some (.int wn), some (.int sc), some (.int (1 + r)), some (.ref pr), v1, v2, v3] ∧ Hd H3 a l ∧ Kp a H H3 ∧ H3 pr = some (.lst us) ∧ WaysV H3 us ws ∧ ws.length = i ∧ ∀ w ∈ ws, WyIn (1 + r) sc w)
      ⟨[], [], none, none, none, rfl, d2, (k1.lay hpr).trans k2, k2 pr _ upd_same npr.1, trivial, rfl, fun w hw => by cases hw⟩ ?_ ?_
    · rintro i σ H3 hi ⟨us, ws, v1, v2, v3, rfl, d3, k3, e3, h3, l3, b3⟩
      refine ⟨_, rfl, _, rfl, a, l, _, rfl, d3, by omega, by omega, fun x H4 x0 x1 d4 k4 => ?_⟩
      refine ⟨_, rfl, _, rfl, a, l, _, rfl, d4, by omega, by omega, fun y H5 y0 y1 d5 k5 => ?_⟩
      refine ⟨fun σ H6 => ∃ y : Int, σ = [some (.ref a), some (.int pn), some (.int wn), some (.int sc), some (.int (1 + r)), some (.ref pr), some (.int (0 + (i : Int))), some (.int x), some (.int y)] ∧ 0 ≤ y ∧ y < 1 + r ∧ Hd H6 a l ∧ Kp a H5 H6, ?_, ?_⟩
      · refine ⟨_, rfl, a, l, 3, rfl, d5, by decide, by decide, fun z H6 _ _ d6 k6 => ⟨rfl, _, rfl, ?_⟩⟩
        refine ite2 (fun _ => ?_) (fun _ => ⟨y, rfl, y0, y1, d6, k6⟩)
        refine ⟨_, rfl, _, _, rfl, rfl, _, rfl, _, _, rfl, rfl, (show (0 : Int) < 1 + r by omega), ?_⟩
        exact ⟨_, rfl, Int.emod_nonneg _ (by omega), Int.emod_lt_of_pos _ (by omega), d6, k6⟩
      · rintro σ H6 ⟨y, rfl, y0, y1, d6, k6⟩
        have k36 := (k4.trans k5).trans k6
        have e6 := k36 pr _ e3 npr.1
        refine ⟨_, rfl, .inl ⟨rfl, _, SqL.of e6⟩, _, rfl, _, rfl, _, rfl, _, rfl, _, rfl, (by show 3 ≤ sizeLine; decide), fun pq hpq => ?_⟩
        refine ⟨_, rfl, a, l, 3, rfl, d6.lay hpq, by decide, by decide, fun z H7 z0 z1 d7 k7 => ?_⟩
        have q7 := k7 pq _ upd_same (d6.ne hpq).1
        obtain ⟨s', s0, s1, hat⟩ : ∃ t : Int, 1 ≤ t ∧ t ≤ sc ∧ atI [V.int sc, V.int sc, V.int 1] z = some (.int t) := by
          have hr' : z = 0 ∨ z = 1 ∨ z = 2 := by omega
          rcases hr' with rfl | rfl | rfl
          · exact ⟨sc, sc0, by omega, rfl⟩
          · exact ⟨sc, sc0, by omega, rfl⟩
          · exact ⟨1, by omega, sc0, rfl⟩
        refine ⟨pq, _, _, _, rfl, rfl, SqL.of q7, hat, a, l, s', rfl, d7, by omega, by omega, fun c H8 c0 c1 d8 k8 => ?_⟩
        refine ⟨(by show 3 ≤ sizeLine; decide), fun pt hpt => ?_⟩
        have k38 : Kp a H3 H8 := ((k36.lay hpq).trans k7).trans k8
        have e8 := k38 pr _ e3 npr.1
        have e9 := up (x := .tup [.int x, .int y, .int c]) e8 hpt
        refine ⟨pr, _, _, rfl, rfl, e9, small1000 (by rw [h3.len, l3]; omega), ?_⟩
        have hw : WaysV (upd H8 pt (.tup [.int x, .int y, .int c])) (us ++ [.ref pt]) (ws ++ [(x, y, c)]) := ((h3.kp d3 k38).same ((Same.refl H8).lay hpt)).app ⟨pt, rfl, upd_same⟩
        refine ⟨us ++ [.ref pt], ws ++ [(x, y, c)], _, _, _, rfl, (d8.lay hpt).wr npr.1 npr.2, ((k3.trans k38).lay hpt).wr hpr0, upd_same, hw.wr e9, by rw [List.length_append, l3]; rfl, fun w hw' => ?_⟩
        rcases List.mem_append.mp hw' with hw' | hw'
        · exact b3 w hw'
        · have e : w = (x, y, c) := by simpa using hw'
          subst e
          exact ⟨x0, x1, y0, y1, by show -sc ≤ c; omega, by show c ≤ sc; omega⟩
    · rintro σ H3 ⟨us, ws, v1, v2, v3, rfl, d3, k3, e3, h3, l3, b3⟩
      refine ⟨_, rfl, _, rfl, (by show 2 ≤ sizeLine; decide), fun p hp => ?_⟩
      obtain ⟨o3, eo3⟩ := d3.at1
      exact k p pr us ws (1 + r) _ (k3.free eo3 hp) hpr0 upd_same (up e3 hp) (h3.same ((Same.refl H3).lay hp)) (by omega) (by omega) (by omega) b3 (d3.lay hp) (k3.lay hp)
end
/-! ### plain data in a heap, all of it at addresses of a kind -/
mutual
inductive ThV (F : Addr → Prop) (H : Hp) : V → PyData → Prop
  | non : ThV F H .non .none
  | bl (b) : ThV F H (.bl b) (.bool b)
  | int (i) : ThV F H (.int i) (.int i)
  | str (x) : ThV F H (.str x) (.str x)
  | lst {a xs ds} : F a → H a = some (.lst xs) → ThVs F H xs ds → ThV F H (.ref a) (.list ds)
  | tup {a xs ds} : F a → H a = some (.tup xs) → ThVs F H xs ds → ThV F H (.ref a) (.tuple ds)
inductive ThVs (F : Addr → Prop) (H : Hp) : List V → List PyData → Prop
  | nil : ThVs F H [] []
  | cons {x xs d ds} : ThV F H x d → ThVs F H xs ds → ThVs F H (x :: xs) (d :: ds)
end
mutual
theorem ThV.mv {F G : Addr → Prop} {H H' : Hp} (f : ∀ b o, F b → H b = some o → G b ∧ H' b = some o) : ∀ {v : V} {d : PyData}, ThV F H v d → ThV G H' v d
  | _, _, .non => .non
  | _, _, .bl b => .bl b
  | _, _, .int i => .int i
  | _, _, .str x => .str x
  | _, _, .lst n e t => .lst (f _ _ n e).1 (f _ _ n e).2 (ThVs.mv f t)
  | _, _, .tup n e t => .tup (f _ _ n e).1 (f _ _ n e).2 (ThVs.mv f t)
theorem ThVs.mv {F G : Addr → Prop} {H H' : Hp} (f : ∀ b o, F b → H b = some o → G b ∧ H' b = some o) : ∀ {vs : List V} {ds : List PyData}, ThVs F H vs ds → ThVs G H' vs ds
  | _, _, .nil => .nil
  | _, _, .cons x t => .cons (ThV.mv f x) (ThVs.mv f t)
end
abbrev NH (a : Addr) : Addr → Prop := fun x => x ≠ a
theorem ThV.same {F : Addr → Prop} {H H' : Hp} {v : V} {d : PyData} (t : ThV F H v d) (s : Same H H') : ThV F H' v d := t.mv fun b o z e => ⟨z, s b o e⟩
theorem ThVs.same {F : Addr → Prop} {H H' : Hp} {v : List V} {d : List PyData} (t : ThVs F H v d) (s : Same H H') : ThVs F H' v d := t.mv fun b o z e => ⟨z, s b o e⟩
theorem ThV.kp {a : Addr} {H H' : Hp} {v : V} {d : PyData} (t : ThV (NH a) H v d) (s : Kp a H H') : ThV (NH a) H' v d := t.mv fun b o n e => ⟨n, s b o e n⟩
theorem ThVs.kp {a : Addr} {H H' : Hp} {v : List V} {d : List PyData} (t : ThVs (NH a) H v d) (s : Kp a H H') : ThVs (NH a) H' v d := t.mv fun b o n e => ⟨n, s b o e n⟩
theorem ThVs.append {F : Addr → Prop} {H : Hp} : ∀ {xs : List V} {ds : List PyData} {ys : List V} {es : List PyData}, ThVs F H xs ds → ThVs F H ys es → ThVs F H (xs ++ ys) (ds ++ es)
  | _, _, _, _, .nil, y => y
  | _, _, _, _, .cons x t, y => .cons x (ThVs.append t y)
theorem ThVs.len {F : Addr → Prop} {H : Hp} : ∀ {xs : List V} {ds : List PyData}, ThVs F H xs ds → xs.length = ds.length
  | _, _, .nil => rfl
  | _, _, .cons _ t => by rw [List.length_cons, List.length_cons, ThVs.len t]
theorem ThVs.get {F : Addr → Prop} {H : Hp} : ∀ {xs : List V} {ds : List PyData} {i : Nat} {v : V}, ThVs F H xs ds → xs[i]? = some v → ∃ d, ds[i]? = some d ∧ ThV F H v d
  | _, _, _, _, .nil, e => by simp at e
  | _, _, 0, v, .cons (d := d) x _, e => by
    have e' := Option.some.inj e
    subst e'
    exact ⟨d, rfl, x⟩
  | _, _, i + 1, v, .cons _ t, e => ThVs.get (i := i) t e
theorem ThVs.at {F : Addr → Prop} {H : Hp} : ∀ {xs : List V} {ds : List PyData} {i : Nat} {d : PyData}, ThVs F H xs ds → ds[i]? = some d → ∃ v, xs[i]? = some v ∧ ThV F H v d
  | _, _, _, _, .nil, e => by simp at e
  | _, _, 0, d, .cons (x := v) x _, e => by
    have e' := Option.some.inj e
    subst e'
    exact ⟨v, rfl, x⟩
  | _, _, i + 1, v, .cons _ t, e => ThVs.at (i := i) t e
theorem ThVs.ints {F : Addr → Prop} {H : Hp} : ∀ {ns : List Int} {xs : List V}, ThVs F H xs (ns.map PyData.int) → xs = ns.map V.int
  | [], _, h => by cases h; rfl
  | n :: ns, _, h => by
    cases h with
    | cons x t =>
      cases x
      rw [ThVs.ints t]
      rfl
theorem ints_th {F : Addr → Prop} {H : Hp} : ∀ ns : List Int, ThVs F H (ns.map V.int) (ns.map PyData.int)
  | [] => .nil
  | n :: ns => .cons (.int n) (ints_th ns)
mutual
theorem ThV.dat {K : PySem.W.Frag} {F : Addr → Prop} {H : Hp} : ∀ {v : V} {d : PyData}, ThV F H v d → DatV K H v d
  | _, _, .non => .non
  | _, _, .bl b => .bl b
  | _, _, .int i => .int i
  | _, _, .str x => .str x
  | _, _, .lst _ e t => .lst (SqL.of e) (ThVs.dat t)
  | _, _, .tup _ e t => .tup (SqT.of e) (ThVs.dat t)
theorem ThVs.dat {K : PySem.W.Frag} {F : Addr → Prop} {H : Hp} : ∀ {vs : List V} {ds : List PyData}, ThVs F H vs ds → DatVs K H vs ds
  | _, _, .nil => .nil
  | _, _, .cons x t => .cons (ThV.dat x) (ThVs.dat t)
end
theorem WaysV.th {a l : Addr} {H : Hp} (hd : Hd H a l) : ∀ {vs : List V} {ws : List Wy}, WaysV H vs ws → ThVs (NH a) H vs (ws.map wayD)
  | [], [], _ => .nil
  | _ :: _, _ :: _, h => by
    obtain ⟨_, _, _, _, _, _, _, _, ha⟩ := id hd
    obtain ⟨p, rfl, e⟩ := h.1
    exact .cons (.tup (ne_of e ha (by intro q; cases q)) e (.cons (.int _) (.cons (.int _) (.cons (.int _) .nil)))) (WaysV.th hd h.2)
  | [], _ :: _, h => h.elim
  | _ :: _, [], h => h.elim
theorem eqD_ints {K : PySem.W.Frag} {H : Hp} {p q : Addr} {ns ms : List Int} {Q : VK} {neg : Bool} (h1 : SqL K H p (ns.map V.int)) (h2 : SqL K H q (ms.map V.int)) (hQ : Q (.bl (if neg then !decide (ns = ms) else decide (ns = ms))) H) : rEqD K neg (.ref p) (.ref q) H Q := by
  refine ⟨_, _, .lst h1 (datVs_ints ns), .lst h2 (datVs_ints ms), lay_ints ns, lay_ints ms, ?_, ?_⟩
  · show min (PyData.depthAll (ns.map PyData.int) + 1) (PyData.depthAll (ms.map PyData.int) + 1) ≤ 64
    rw [depth_ints, depth_ints]; decide
  · have e : PyData.eqv (.list (ns.map PyData.int)) (.list (ms.map PyData.int)) = decide (ns = ms) := by
      rw [PyData.eqv]; exact eqv_ints ns ms
    rw [e]; exact hQ
/-! ### trips -/
abbrev Pt := List Int × Int
def partD (p : Pt) : PyData := .tuple [.list (p.1.map PyData.int), .int p.2]
def tripD (ps : List Pt) : PyData := .list (ps.map partD)
def wayN (ws : List Wy) (n : Int) : Wy := ws.getD n.toNat (0, 0, 0)
def okW (ws : List Wy) : Int → List Int → Int → Prop
  | pl, [], r => r = pl
  | pl, n :: ns, r => 0 ≤ n ∧ n < (ws.length : Int) ∧ (wayN ws n).1 = pl ∧ okW ws (wayN ws n).2.1 ns r
def okP (ws : List Wy) (pl : Int) (p : Pt) (r : Int) : Prop := p.1 ≠ [] ∧ 1 ≤ p.2 ∧ p.2 ≤ 1000000000000000000000000 ∧ okW ws pl p.1 r ∧ (p.2 > 1 → r = pl)
def okT (ws : List Wy) : Int → List Pt → Int → Prop
  | pl, [], r => r = pl
  | pl, p :: ps, r => ∃ q, okP ws pl p q ∧ okT ws q ps r
def chs (ws : List Wy) (ns : List Int) : List Int := ns.map fun n => (wayN ws n).2.2
def parE (ws : List Wy) (st : Int) (p : Pt) : Ef := pwF st (fxF st (chs ws p.1)) p.2.toNat
def effB (ws : List Wy) (st : Int) (ps : List Pt) : Ef := ps.foldl (fun e p => joinF e (parE ws st p)) (some (0, 0, st))
def lenF (ps : List Pt) : Int := (ps.map fun p => (p.1.length : Int) * p.2).sum
theorem okW_app {ws : List Wy} : ∀ {ns ms : List Int} {pl q r : Int}, okW ws pl ns q → okW ws q ms r → okW ws pl (ns ++ ms) r
  | [], _, _, _, _, h1, h2 => by
    have e : _ = _ := h1
    rw [← e]
    exact h2
  | _ :: _, _, _, _, _, h1, h2 => ⟨h1.1, h1.2.1, h1.2.2.1, okW_app h1.2.2.2 h2⟩
theorem okW_split {ws : List Wy} : ∀ {ns ms : List Int} {pl r : Int}, okW ws pl (ns ++ ms) r → ∃ q, okW ws pl ns q ∧ okW ws q ms r
  | [], _, pl, _, h => ⟨pl, rfl, h⟩
  | _ :: _, _, _, _, h => by
    obtain ⟨q, h1, h2⟩ := okW_split h.2.2.2
    exact ⟨q, ⟨h.1, h.2.1, h.2.2.1, h1⟩, h2⟩
theorem okT_app {ws : List Wy} : ∀ {ps qs : List Pt} {pl q r : Int}, okT ws pl ps q → okT ws q qs r → okT ws pl (ps ++ qs) r
  | [], _, _, _, _, h1, h2 => by
    have e : _ = _ := h1
    rw [← e]
    exact h2
  | _ :: _, _, _, _, _, ⟨x, h, h1⟩, h2 => ⟨x, h, okT_app h1 h2⟩
theorem okT_one {ws : List Wy} {pl r : Int} {p : Pt} (h : okP ws pl p r) : okT ws pl [p] r := ⟨r, h, rfl⟩
theorem okT_split {ws : List Wy} : ∀ {ps qs : List Pt} {pl r : Int}, okT ws pl (ps ++ qs) r → ∃ q, okT ws pl ps q ∧ okT ws q qs r
  | [], _, pl, _, h => ⟨pl, rfl, h⟩
  | _ :: _, _, _, _, ⟨x, h, h1⟩ => by
    obtain ⟨q, h2, h3⟩ := okT_split h1
    exact ⟨q, ⟨x, h, h2⟩, h3⟩
theorem okW_mem {ws : List Wy} : ∀ {ns : List Int} {pl r : Int}, okW ws pl ns r → ∀ n ∈ ns, 0 ≤ n ∧ n < (ws.length : Int)
  | [], _, _, _, _, hn => by cases hn
  | m :: ns, _, _, h, n, hn => by
    rcases List.mem_cons.mp hn with z | z
    · subst z; exact ⟨h.1, h.2.1⟩
    · exact okW_mem h.2.2.2 n z
theorem parE_ok {ws : List Wy} {st : Int} (h : 0 ≤ st) (p : Pt) : OkE st (parE ws st p) := pw_ok h (fxF_ok h _) _
theorem effB_snoc (ws : List Wy) (st : Int) (ps : List Pt) (p : Pt) : effB ws st (ps ++ [p]) = joinF (effB ws st ps) (parE ws st p) := by
  unfold effB
  rw [List.foldl_append]
  rfl
theorem effB_ok {ws : List Wy} {st : Int} (h : 0 ≤ st) : ∀ (ps : List Pt) {e : Ef}, OkE st e → OkE st (ps.foldl (fun e p => joinF e (parE ws st p)) e)
  | [], _, h => h
  | p :: ps, _, he => effB_ok h ps (he.join (parE_ok h p))
theorem effB_fo {ws : List Wy} {st : Int} (h : 0 ≤ st) : ∀ (ps : List Pt) (a b : Ef), OkE st a → ps.foldl (fun e p => joinF e (parE ws st p)) (joinF a b) = joinF a (ps.foldl (fun e p => joinF e (parE ws st p)) b)
  | [], _, _, _ => rfl
  | p :: ps, a, b, ha => by
    show ps.foldl (fun e p => joinF e (parE ws st p)) (joinF (joinF a b) (parE ws st p)) = joinF a (ps.foldl (fun e p => joinF e (parE ws st p)) (joinF b (parE ws st p)))
    rw [join_assoc, effB_fo h ps a _ ha]
theorem effB_app {ws : List Wy} {st : Int} (h : 0 ≤ st) (ps qs : List Pt) : effB ws st (ps ++ qs) = joinF (effB ws st ps) (effB ws st qs) := by
  have o : OkE st (effB ws st ps) := effB_ok h ps (unit_ok h)
  have e : effB ws st (ps ++ qs) = qs.foldl (fun e p => joinF e (parE ws st p)) (effB ws st ps) := by
    unfold effB
    rw [List.foldl_append]
  rw [e]
  conv => lhs; rw [← unit_r o]
  exact effB_fo h qs _ _ o
theorem lenF_app (ps qs : List Pt) : lenF (ps ++ qs) = lenF ps + lenF qs := by
  unfold lenF
  rw [List.map_append, List.sum_append]
/-- a land, read -/
theorem ThV.land {F : Addr → Prop} {H : Hp} {v : V} {m : Int} {ws : List Wy} (h : ThV F H v (landD m ws)) : ∃ p q vs, v = .ref p ∧ F p ∧ F q ∧ H p = some (.tup [.int m, .ref q]) ∧ H q = some (.lst vs) ∧ ThVs F H vs (ws.map wayD) := by
  cases h with
  | tup n e t =>
    cases t with
    | cons x t =>
      cases x
      cases t with
      | cons y t =>
        cases t
        cases y with
        | lst n2 e2 t2 => exact ⟨_, _, _, rfl, n, n2, e, e2, t2⟩
theorem ThV.way {F : Addr → Prop} {H : Hp} {v : V} {w : Wy} (h : ThV F H v (wayD w)) : ∃ p, v = .ref p ∧ H p = some (.tup [.int w.1, .int w.2.1, .int w.2.2]) := by
  cases h with
  | tup n e t =>
    cases t with
    | cons x t =>
      cases x
      cases t with
      | cons y t =>
        cases y
        cases t with
        | cons z t =>
          cases z
          cases t
          exact ⟨_, rfl, e⟩
theorem ThV.part {F : Addr → Prop} {H : Hp} {v : V} {p : Pt} (h : ThV F H v (partD p)) : ∃ a q, v = .ref a ∧ F a ∧ F q ∧ H a = some (.tup [.ref q, .int p.2]) ∧ H q = some (.lst (p.1.map V.int)) := by
  cases h with
  | tup n e t =>
    cases t with
    | cons x t =>
      cases x with
      | lst n2 e2 t2 =>
        rw [t2.ints] at e2
        cases t with
        | cons y t =>
          cases y
          cases t
          exact ⟨_, _, rfl, n, n2, e, e2⟩
theorem ThV.trip {F : Addr → Prop} {H : Hp} {v : V} {ps : List Pt} (h : ThV F H v (tripD ps)) : ∃ p us, v = .ref p ∧ F p ∧ H p = some (.lst us) ∧ ThVs F H us (ps.map partD) := by
  cases h with
  | lst n e t => exact ⟨_, _, rfl, n, e, t⟩
theorem way_at {F : Addr → Prop} {H : Hp} {vs : List V} {ws : List Wy} {n : Int} (t : ThVs F H vs (ws.map wayD)) (h0 : 0 ≤ n) (h1 : n < (ws.length : Int)) : ∃ p, atI vs n = some (.ref p) ∧ H p = some (.tup [.int (wayN ws n).1, .int (wayN ws n).2.1, .int (wayN ws n).2.2]) := by
  obtain ⟨k, rfl⟩ := Int.eq_ofNat_of_zero_le h0
  have hk : k < ws.length := by omega
  have e : (ws.map wayD)[k]? = some (wayD ws[k]) := by rw [List.getElem?_map, List.getElem?_eq_getElem hk]; rfl
  obtain ⟨v, ev, tv⟩ := t.at e
  obtain ⟨p, rfl, ep⟩ := tv.way
  have ew : wayN ws ((k : Nat) : Int) = ws[k] := by
    show ws.getD k (0, 0, 0) = ws[k]
    rw [List.getD_eq_getElem?_getD, List.getElem?_eq_getElem hk]
    rfl
  rw [ew]
  exact ⟨p, atI_nat ev, ep⟩
def spPlace : Sp := fun vs H Q _ => ∃ m i : Int, vs = [.int m, .int i] ∧ Q (.bl (decide (0 ≤ i ∧ i < m))) H
def spChOf : Sp := fun vs H Q _ => ∃ (F : Addr → Prop) (v : V) (m : Int) (ws : List Wy) (q : Addr) (ns : List Int), vs = [v, .ref q] ∧ ThV F H v (landD m ws) ∧ H q = some (.lst (ns.map V.int)) ∧ ns.length ≤ 300 ∧ (∀ n ∈ ns, 0 ≤ n ∧ n < (ws.length : Int)) ∧
  ∀ p, H p = none → Q (.ref p) (upd H p (.lst ((chs ws ns).map V.int)))
def spBW : Sp := fun vs H Q _ => ∃ (F : Addr → Prop) (v : V) (m : Int) (ws : List Wy) (q : Addr) (pl r : Int) (ns : List Int), vs = [v, .int pl, .ref q] ∧ ThV F H v (landD m ws) ∧ H q = some (.lst (ns.map V.int)) ∧ okW ws pl ns r ∧ Q (.int r) H
def spBP : Sp := fun vs H Q _ => ∃ (F : Addr → Prop) (v u : V) (m : Int) (ws : List Wy) (pl r : Int) (p : Pt), vs = [v, .int pl, u] ∧ ThV F H v (landD m ws) ∧ ThV F H u (partD p) ∧ okP ws pl p r ∧ Q (.int r) H
def spEnd : Sp := fun vs H Q _ => ∃ (F : Addr → Prop) (v u : V) (m : Int) (ws : List Wy) (pl r : Int) (ps : List Pt), vs = [v, .int pl, u] ∧ ThV F H v (landD m ws) ∧ ThV F H u (tripD ps) ∧ okT ws pl ps r ∧ ∀ H', Same H H' → Q (.int r) H'
def spLen : Sp := fun vs H Q _ => ∃ (F : Addr → Prop) (v u : V) (m : Int) (ws : List Wy) (pl r : Int) (ps : List Pt), vs = [v, .int pl, u] ∧ ThV F H v (landD m ws) ∧ ThV F H u (tripD ps) ∧ okT ws pl ps r ∧ ps.length ≤ 300 ∧ (∀ p ∈ ps, p.1.length ≤ 300) ∧ ∀ H', Same H H' → Q (.int (lenF ps)) H'
def spEffBy (K : PySem.W.Frag) : Sp := fun vs H Q _ => ∃ (F : Addr → Prop) (v u : V) (m : Int) (ws : List Wy) (st pl r : Int) (ps : List Pt), vs = [v, .int st, .int pl, u] ∧ ThV F H v (landD m ws) ∧ ThV F H u (tripD ps) ∧ okT ws pl ps r ∧ (∀ p ∈ ps, p.1.length ≤ 300) ∧ 0 ≤ st ∧
  ∀ (x : V) (H' : Hp), EffV K H' x (effB ws st ps) → Same H H' → Q x H'
def spArr : Sp := fun vs H Q _ => ∃ (F : Addr → Prop) (v u : V) (m : Int) (ws : List Wy) (st pl r lv : Int) (ps : List Pt), vs = [v, .int st, .int pl, .int lv, u] ∧ ThV F H v (landD m ws) ∧ ThV F H u (tripD ps) ∧ okT ws pl ps r ∧ (∀ p ∈ ps, p.1.length ≤ 300) ∧ 0 ≤ st ∧
  ∀ H', Same H H' → Q (oV (passF (effB ws st ps) lv)) H'
section
variable {P : Program} {w : World} {K : PySem.W.Frag} {mg : Str → Option Value} {base : Heap}
theorem ok_place (T : Txt K mg) : FnOk P w K mg base CX0 2 T.a_is_place T.d_is_place ["many", "thing"] spPlace := by
  have G_is_whole : FnOk P w K mg base CX0 1 T.a_is_whole T.d_is_whole ["thing"] spWhole := ok_whole T
  have b_is_whole := bd_is_whole T
  refine T.F_is_place.ok sc_is_place (fun vs H Q E h => ?_) (fun cdv A outer s H vs Q E hr h => ?_)
  · obtain ⟨m, i, rfl, _⟩ := h
    rfl
  · obtain ⟨m, i, rfl, k⟩ := h
    refine ⟨_, (pss_one (ps_ret (pe_and (pe_call G_is_whole (hr.mono (by decide)) rfl T.mg_is_whole T.kp_is_whole b_is_whole .nil pass0 (pa_cons (pv 1) pa_nil se_Name) (he := se_Name) (hpl := np_nil)) (pe_one (pe_chain op_le op_lt pe_int (pv 1) (pv 0)))))), ?_⟩
    refine ⟨_, rfl, i, rfl, _, rfl, iteT ?_⟩
    refine ⟨_, rfl, _, _, rfl, rfl, _, rfl, ?_⟩
    refine ite2 (fun c1 => ?_) (fun c1 => ?_)
    · have c1' : (0 : Int) ≤ i := of_decide_eq_true c1
      refine ⟨_, rfl, _, _, rfl, rfl, ?_⟩
      show Q (V.bl (decide (i < m))) H
      by_cases z : i < m
      · rw [decide_eq_true ⟨c1', z⟩] at k
        rw [decide_eq_true z]
        exact k
      · rw [decide_eq_false (fun y => z y.2)] at k
        rw [decide_eq_false z]
        exact k
    · have c1' : ¬ (0 : Int) ≤ i := fun z => c1 (decide_eq_true z)
      rw [decide_eq_false (fun y => c1' y.1)] at k
      exact k
theorem ok_chof (T : Txt K mg) : FnOk P w K mg base CX0 1 T.a_changes_of T.d_changes_of ["land", "numbers"] spChOf := by
  refine T.F_changes_of.ok sc_changes_of (fun vs H Q E h => ?_) (fun cdv A outer s H vs Q E hr h => ?_)
  · obtain ⟨F, v, m, ws, q, ns, rfl, _⟩ := h
    rfl
  · obtain ⟨F, v, m, ws, q, ns, rfl, hv, hq, hn, hb, k⟩ := h
    obtain ⟨lp, lq, us, rfl, _, _, e1, e2, e3⟩ := hv.land
    refine ⟨_, (pss_one (ps_ret (pe_comp (CompSc.new (N := ["land", "numbers"]) (osc := defScope s_changes_of) (by decide +kernel)) rfl (pi_list (pv 1)) (fun _ => pts_nil) (fun _ => (pe_ix ix_tup (pe_ix ix_list (pe_ix ix_tup (pv 0) (pe_glob (v := V.int 1) rfl T.mg_WAYS ⟨_, rfl⟩) (fun _ _ => rfl)) (pv 2) (fun _ _ => rfl)) (pe_glob (v := V.int 2) rfl T.mg_CHANGE ⟨_, rfl⟩) (fun _ _ => rfl)))))), ?_⟩
    refine ⟨_, rfl, q, rfl, ⟨_, SqL.of hq⟩, comp_list (K := K) (a0 := q) (xs := ns.map V.int) (fun i ys H2 => H = H2 ∧ ys = (chs ws (ns.take i)).map V.int) (small1000 (by rw [List.length_map]; omega)) ⟨rfl, rfl⟩ ?_ ?_ ?_⟩
    · rintro i ys H2 hi ⟨rfl, rfl⟩
      exact ⟨by unfold chs; rw [List.length_map, List.length_map, List.length_take]; omega, SqL.of hq⟩
    · rintro i y ys H2 hi ⟨rfl, rfl⟩ ca
      rw [List.getElem?_map] at hi
      obtain ⟨n, en, rfl⟩ : ∃ n, ns[i]? = some n ∧ V.int n = y := by
        cases z : ns[i]? with
        | none => rw [z] at hi; cases hi
        | some n => rw [z] at hi; exact ⟨n, rfl, Option.some.inj hi⟩
      obtain ⟨h0, h1⟩ := hb n (List.mem_of_getElem? en)
      obtain ⟨t, ht, et⟩ := way_at e3 h0 h1
      refine tTrue_in ⟨_, rfl, lp, _, _, _, rfl, rfl, SqT.of e1, rfl, _, rfl, lq, _, _, _, rfl, rfl, SqL.of e2, ht, t, _, _, _, rfl, rfl, SqT.of et, rfl, rfl, ?_⟩
      unfold chs
      rw [List.take_add_one, en, List.map_append, List.map_append]
      rfl
    · rintro ys H2 ⟨rfl, rfl⟩ p hp
      have z := k p hp
      rw [List.length_map, List.take_length]
      exact z
theorem ok_bw (T : Txt K mg) : FnOk P w K mg base CX0 3 T.a_behind_ways T.d_behind_ways ["land", "place", "numbers"] spBW := by
  have G_is_place : FnOk P w K mg base CX0 2 T.a_is_place T.d_is_place ["many", "thing"] spPlace := ok_place T
  have b_is_place := bd_is_place T
  refine T.F_behind_ways.ok sc_behind_ways (fun vs H Q E h => ?_) (fun cdv A outer s H vs Q E hr h => ?_)
  · obtain ⟨F, v, m, ws, q, pl, r, ns, rfl, _⟩ := h
    rfl
  · obtain ⟨F, v, m, ws, q, pl, r, ns, rfl, hv, hq, hok, k⟩ := h
    obtain ⟨lp, lq, us, rfl, _, _, e1, e2, e3⟩ := hv.land
    have hlen : us.length = ws.length := by rw [e3.len, List.length_map]
    refine ⟨_, (pss_cons (ps_set (i := 3) sc_behind_ways.nd rfl (Or.inl rfl) (pv 1))
      (pss_cons (ps_for PassesOwn.never rfl (pi_list (pv 2)) (pg_name (i := 4) sc_behind_ways.nd rfl (Or.inl rfl))
      (pss_cons (ps_mid (ps_if (PW.pt (pw_or (pt_not (pt_val (pe_call G_is_place (hr.mono (by decide)) rfl T.mg_is_place T.kp_is_place b_is_place .nil pass0 (pa_cons (pe_callB call_len_seq rfl T.n_len bt_len (pa_cons (pe_ix ix_tup (pv 0) (pe_glob (v := V.int 1) rfl T.mg_WAYS ⟨_, rfl⟩) (fun _ _ => rfl)) pa_nil se_Subscript) (he := se_Subscript) (hpl := np_nil)) (pa_cons (pv 4) pa_nil se_Name) se_Call) (he := se_Call) (hpl := (np_cons se_Name np_nil))))) (pw_or1 (pt_cmpR op_ne (pe_ix ix_tup (pe_ix ix_list (pe_ix ix_tup (pv 0) (pe_glob (v := V.int 1) rfl T.mg_WAYS ⟨_, rfl⟩) (fun _ _ => rfl)) (pv 4) (fun _ _ => rfl)) (pe_glob (v := V.int 0) rfl T.mg_START ⟨_, rfl⟩) (fun _ _ => rfl)) (pv 3) (nomark _)))))
      (pss_one (ps_ret pe_non))
      pss_nil))
      (pss_one (ps_set (i := 3) sc_behind_ways.nd rfl (Or.inl rfl) (pe_ix ix_tup (pe_ix ix_list (pe_ix ix_tup (pv 0) (pe_glob (v := V.int 1) rfl T.mg_WAYS ⟨_, rfl⟩) (fun _ _ => rfl)) (pv 4) (fun _ _ => rfl)) (pe_glob (v := V.int 1) rfl T.mg_END ⟨_, rfl⟩) (fun _ _ => rfl))))))
      (pss_one (ps_ret (pv 3))))), ?_⟩
    refine ⟨_, rfl, ?_⟩
    refine ⟨_, rfl, q, rfl, ⟨_, SqL.of hq⟩, for_list (K := K) (a := q) (xs := ns.map V.int) (fun i σ H2 => H = H2 ∧ ∃ (h : Int) (v1 : Option V), σ = [some (.ref lp), some (.int pl), some (.ref q), some (.int h), v1] ∧ okW ws h (ns.drop i) r)
      ⟨rfl, pl, none, rfl, hok⟩ (fun i σ H2 _ ⟨e, _⟩ => by rw [← e]; exact SqL.of hq) ?_ ?_⟩
    · rintro i y σ H2 hi ⟨rfl, h, v1, rfl, ho⟩
      have hil : i < ns.length := by
        have := (List.getElem?_eq_some_iff.mp hi).1
        rw [List.length_map] at this; exact this
      have hy : y = .int ns[i] := by
        rw [List.getElem?_map, List.getElem?_eq_getElem hil] at hi
        exact (Option.some.inj hi).symm
      subst hy
      have hd : ns.drop i = ns[i] :: ns.drop (i + 1) := List.drop_eq_getElem_cons hil
      rw [hd] at ho
      obtain ⟨h0, h1, h2, h3⟩ := ho
      obtain ⟨t, ht, et⟩ := way_at e3 h0 h1
      refine ⟨fun σ H2 => H = H2 ∧ σ = [some (.ref lp), some (.int pl), some (.ref q), some (.int h), some (.int ns[i])], ?_, ?_⟩
      · refine ⟨_, rfl, lp, _, _, _, rfl, rfl, SqT.of e1, rfl, lq, _, rfl, .inl (SqL.of e2), _, rfl, _, _, rfl, ?_⟩
        rw [decide_eq_true (show 0 ≤ ns[i] ∧ ns[i] < ((us.length : Nat) : Int) from ⟨h0, by rw [hlen]; exact h1⟩)]
        refine ⟨_, rfl, iteF ?_⟩
        refine ⟨_, rfl, lp, _, _, _, rfl, rfl, SqT.of e1, rfl, _, rfl, lq, _, _, _, rfl, rfl, SqL.of e2, ht, t, _, _, _, rfl, rfl, SqT.of et, rfl, _, rfl, rfl, _, rfl, iteNS (congrArg V.int h2) ⟨rfl, rfl⟩⟩
      · rintro σ H2 ⟨rfl, rfl⟩
        refine ⟨_, rfl, lp, _, _, _, rfl, rfl, SqT.of e1, rfl, _, rfl, lq, _, _, _, rfl, rfl, SqL.of e2, ht, t, _, _, _, rfl, rfl, SqT.of et, rfl, ?_⟩
        exact ⟨rfl, _, _, rfl, h3⟩
    · rintro σ H2 ⟨rfl, h, v1, rfl, ho⟩
      rw [List.length_map, List.drop_length] at ho
      have e : r = h := ho
      rw [e] at k
      exact ⟨_, rfl, k⟩
theorem ok_bp (T : Txt K mg) : FnOk P w K mg base CX0 4 T.a_behind_part T.d_behind_part ["land", "place", "part"] spBP := by
  have G_behind_ways : FnOk P w K mg base CX0 3 T.a_behind_ways T.d_behind_ways ["land", "place", "numbers"] spBW := ok_bw T
  have b_behind_ways := bd_behind_ways T
  refine T.F_behind_part.ok sc_behind_part (fun vs H Q E h => ?_) (fun cdv A outer s H vs Q E hr h => ?_)
  · obtain ⟨F, v, u, m, ws, pl, r, p, rfl, _⟩ := h
    rfl
  · obtain ⟨F, v, u, m, ws, pl, r, ⟨ns, t⟩, rfl, hv, hu, ⟨h1, h2, h3, h4, h5⟩, k⟩ := h
    obtain ⟨pp, pq, rfl, _, _, e1, e2⟩ := hu.part
    simp only at h1 h2 h3 h4 h5 e1 e2
    have hne : ¬ (((ns.map V.int).length : Nat) : Int) = 0 := by
      rw [List.length_map]
      intro z
      exact h1 (List.length_eq_zero_iff.mp (by omega))
    refine ⟨_, (pss_cons (ps_mid (ps_if (PW.pt (pw_or (pt_cmpR op_eq (pe_callB call_len_seq rfl T.n_len bt_len (pa_cons (pe_ix ix_tup (pv 2) (pe_glob (v := V.int 0) rfl T.mg_NUMBERS ⟨_, rfl⟩) (fun _ _ => rfl)) pa_nil se_Subscript) (he := se_Subscript) (hpl := np_nil)) pe_int (nomark _)) (pw_or1 (pt_not (pt_chain op_le op_le pe_int (pe_ix ix_tup (pv 2) (pe_glob (v := V.int 1) rfl T.mg_TIMES ⟨_, rfl⟩) (fun _ _ => rfl)) (pe_op op_pow pe_int pe_int))))))
      (pss_one (ps_ret pe_non))
      pss_nil))
      (pss_cons (ps_set (i := 3) sc_behind_part.nd rfl (Or.inl rfl) (pe_call G_behind_ways (hr.mono (by decide)) rfl T.mg_behind_ways T.kp_behind_ways b_behind_ways .nil pass0 (pa_cons (pv 0) (pa_cons (pv 1) (pa_cons (pe_ix ix_tup (pv 2) (pe_glob (v := V.int 0) rfl T.mg_NUMBERS ⟨_, rfl⟩) (fun _ _ => rfl)) pa_nil se_Subscript) se_Name) se_Name) (he := se_Name) (hpl := (np_cons se_Name (np_cons se_Subscript np_nil)))))
      (pss_cons (ps_mid (ps_if (PW.pt (pw_and (pt_cmpR op_gt (pe_ix ix_tup (pv 2) (pe_glob (v := V.int 1) rfl T.mg_TIMES ⟨_, rfl⟩) (fun _ _ => rfl)) pe_int (nomark _)) (pw_and1 (pt_cmpR op_ne (pv 3) (pv 1) (nomark _)))))
      (pss_one (ps_ret pe_non))
      pss_nil))
      (pss_one (ps_ret (pv 3)))))), ?_⟩
    refine ⟨fun σ H2 => H = H2 ∧ σ = [some v, some (.int pl), some (.ref pp), none], ?_, ?_⟩
    · refine ⟨_, rfl, pp, _, _, _, rfl, rfl, SqT.of e1, rfl, pq, _, rfl, .inl (SqL.of e2), rfl, _, rfl, ?_⟩
      refine ite2 (fun c => ?_) (fun c => ?_)
      · have c' : V.int (((ns.map V.int).length : Nat) : Int) = V.int 0 := of_decide_eq_true c
        injection c' with c'
        exact absurd c' hne
      refine ⟨_, rfl, pp, _, _, _, rfl, rfl, SqT.of e1, rfl, _, _, rfl, rfl, _, rfl, iteP h2 ?_⟩
      refine ⟨_, _, rfl, rfl, ⟨by decide, by decide, by decide⟩, _, _, rfl, rfl, _, rfl, ?_⟩
      rw [decide_eq_true (show t ≤ 10 ^ (24 : Int).toNat from h3)]
      exact iteF ⟨rfl, rfl⟩
    · rintro σ H2 ⟨rfl, rfl⟩
      refine ⟨_, rfl, _, rfl, _, rfl, pp, _, _, _, rfl, rfl, SqT.of e1, rfl, F, v, m, ws, pq, pl, r, ns, rfl, hv, e2, h4, ?_⟩
      refine ⟨fun σ H2 => H = H2 ∧ σ = [some v, some (.int pl), some (.ref pp), some (.int r)], ?_, ?_⟩
      · refine ⟨_, rfl, pp, _, _, _, rfl, rfl, SqT.of e1, rfl, _, _, rfl, rfl, _, rfl, ?_⟩
        by_cases c : t > 1
        · refine iteP c ?_
          exact ⟨_, rfl, _, rfl, rfl, _, rfl, iteNS (congrArg V.int (h5 c)) ⟨rfl, rfl⟩⟩
        · exact iteN c (iteF ⟨rfl, rfl⟩)
      · rintro σ H2 ⟨rfl, rfl⟩
        exact ⟨_, rfl, k⟩
theorem ok_end (T : Txt K mg) : FnOk P w K mg base CX0 5 T.a_end_of T.d_end_of ["land", "place", "trip"] spEnd := by
  have G_behind_part : FnOk P w K mg base CX0 4 T.a_behind_part T.d_behind_part ["land", "place", "part"] spBP := ok_bp T
  have b_behind_part := bd_behind_part T
  refine T.F_end_of.ok sc_end_of (fun vs H Q E h => ?_) (fun cdv A outer s H vs Q E hr h => ?_)
  · obtain ⟨F, v, u, m, ws, pl, r, ps, rfl, _⟩ := h
    rfl
  · obtain ⟨F, v, u, m, ws, pl, r, ps, rfl, hv, hu, ho, k⟩ := h
    obtain ⟨tp, us, rfl, ft, e1, e2⟩ := hu.trip
    refine ⟨_, (pss_cons (ps_set (i := 3) sc_end_of.nd rfl (Or.inl rfl) (pv 1))
      (pss_cons (ps_for PassesOwn.never rfl (pi_enum rfl T.n_enumerate (pa_cons (pv 2) pa_nil se_Name)) (pg_tup (n := 2) rfl (pgs_cons (pg_name (i := 4) sc_end_of.nd rfl (Or.inl rfl)) (pgs_cons (pg_name (i := 5) sc_end_of.nd rfl (Or.inl rfl)) pgs_nil)))
      (pss_cons (ps_set (i := 3) sc_end_of.nd rfl (Or.inl rfl) (pe_call G_behind_part (hr.mono (by decide)) rfl T.mg_behind_part T.kp_behind_part b_behind_part .nil pass0 (pa_cons (pv 0) (pa_cons (pv 3) (pa_cons (pv 5) pa_nil se_Name) se_Name) se_Name) (he := se_Name) (hpl := (np_cons se_Name (np_cons se_Name np_nil)))))
      (pss_one (ps_if (pt_cmpR op_isN (pv 3) pe_non (nomark _))
      (pss_one ps_no)
      pss_nil))))
      (pss_one (ps_ret (pv 3))))), ?_⟩
    refine ⟨_, rfl, ?_⟩
    refine ⟨_, rfl, tp, rfl, ⟨_, SqL.of e1⟩, for_enum (K := K) (a := tp) (xs := us) (fun i σ H2 => Same H H2 ∧ ∃ (h : Int) (v1 v2 : Option V), σ = [some v, some (.int pl), some (.ref tp), some (.int h), v1, v2] ∧ okT ws h (ps.drop i) r)
      ⟨Same.refl H, pl, none, none, rfl, ho⟩ (fun i σ H2 _ ⟨s2, _⟩ => SqL.of (s2 _ _ e1)) ?_ ?_⟩
    · rintro i x σ H2 hi ⟨s2, h, v1, v2, rfl, ho⟩ t ht
      have hil : i < ps.length := by
        have := (List.getElem?_eq_some_iff.mp hi).1
        rw [e2.len, List.length_map] at this; exact this
      have hd : ps.drop i = ps[i] :: ps.drop (i + 1) := List.drop_eq_getElem_cons hil
      rw [hd] at ho
      obtain ⟨q, hp, ho⟩ := ho
      obtain ⟨d, ed, td⟩ := e2.get hi
      rw [List.getElem?_map, List.getElem?_eq_getElem hil] at ed
      have ed' : partD ps[i] = d := Option.some.inj ed
      rw [← ed'] at td
      have s3 := s2.lay (o := .tup [.int ((i : Nat) : Int), x]) ht
      refine ⟨t, _, rfl, SqT.of upd_same, rfl, _, _, rfl, _, _, rfl, rfl, ?_⟩
      refine ⟨_, rfl, _, rfl, _, rfl, F, v, x, m, ws, h, q, ps[i], rfl, hv.same s3, td.same s3, hp, ?_⟩
      exact ⟨_, rfl, rfl, _, rfl, iteF ⟨s3, _, _, _, rfl, ho⟩⟩
    · rintro σ H2 ⟨s2, h, v1, v2, rfl, ho⟩
      rw [e2.len, List.length_map, List.drop_length] at ho
      have e : r = h := ho
      rw [e] at k
      exact ⟨_, rfl, k H2 s2⟩
theorem ok_len (T : Txt K mg) : FnOk P w K mg base CX0 6 T.a_length_of T.d_length_of ["land", "place", "trip"] spLen := by
  have G_end_of : FnOk P w K mg base CX0 5 T.a_end_of T.d_end_of ["land", "place", "trip"] spEnd := ok_end T
  have b_end_of := bd_end_of T
  refine T.F_length_of.ok sc_length_of (fun vs H Q E h => ?_) (fun cdv A outer s H vs Q E hr h => ?_)
  · obtain ⟨F, v, u, m, ws, pl, r, ps, rfl, _⟩ := h
    rfl
  · obtain ⟨F, v, u, m, ws, pl, r, ps, rfl, hv, hu, ho, hn, hb, k⟩ := h
    refine ⟨_, (pss_cons (ps_expr (pe_call G_end_of (hr.mono (by decide)) rfl T.mg_end_of T.kp_end_of b_end_of .nil pass0 (pa_cons (pv 0) (pa_cons (pv 1) (pa_cons (pv 2) pa_nil se_Name) se_Name) se_Name) (he := se_Name) (hpl := (np_cons se_Name (np_cons se_Name np_nil)))))
      (pss_one (ps_ret (pe_callB (call_sum rfl) rfl T.n_sum bt_sum (pa_cons (pe_comp (CompSc.new (N := ["land", "place", "trip"]) (osc := defScope s_length_of) (by decide +kernel)) rfl (pi_list (pv 2)) (fun _ => pts_nil) (fun _ => (pe_op op_mul (pe_callB call_len_seq rfl T.n_len bt_len (pa_cons (pe_ix ix_tup (pv 3) (pe_glob (v := V.int 0) rfl T.mg_NUMBERS ⟨_, rfl⟩) (fun _ _ => rfl)) pa_nil se_Subscript) (he := se_Subscript) (hpl := np_nil)) (pe_ix ix_tup (pv 3) (pe_glob (v := V.int 1) rfl T.mg_TIMES ⟨_, rfl⟩) (fun _ _ => rfl))))) pa_nil se_ListComp) (he := se_ListComp) (hpl := np_nil))))), ?_⟩
    refine ⟨_, rfl, _, rfl, _, rfl, F, v, u, m, ws, pl, r, ps, rfl, hv, hu, ho, fun H1 s1 => ?_⟩
    obtain ⟨tp, us, rfl, ft, e1, e2⟩ := (hu.same s1).trip
    refine ⟨_, rfl, tp, rfl, ⟨_, SqL.of e1⟩, comp_list (K := K) (a0 := tp) (xs := us) (fun i ys H2 => H1 = H2 ∧ ys = ((ps.take i).map fun p => (p.1.length : Int) * p.2).map V.int) (small1000 (by rw [e2.len, List.length_map]; omega)) ⟨rfl, rfl⟩ ?_ ?_ ?_⟩
    · rintro i ys H2 hi ⟨rfl, rfl⟩
      exact ⟨by rw [List.length_map, List.length_map, List.length_take]; omega, SqL.of e1⟩
    · rintro i y ys H2 hi ⟨rfl, rfl⟩ ca
      have hil : i < ps.length := by
        have := (List.getElem?_eq_some_iff.mp hi).1
        rw [e2.len, List.length_map] at this; exact this
      obtain ⟨d, ed, td⟩ := e2.get hi
      rw [List.getElem?_map, List.getElem?_eq_getElem hil] at ed
      have ed' : partD ps[i] = d := Option.some.inj ed
      rw [← ed'] at td
      obtain ⟨pp, pq, rfl, _, _, e3, e4⟩ := td.part
      have hl := hb ps[i] (List.getElem_mem hil)
      refine tTrue_in ⟨_, rfl, pp, _, _, _, rfl, rfl, SqT.of e3, rfl, pq, _, rfl, .inl (SqL.of e4), _, rfl, pp, _, _, _, rfl, rfl, SqT.of e3, rfl, _, _, rfl, rfl, .inl ⟨?_, ?_⟩, rfl, ?_⟩
      · rw [List.length_map]; omega
      · rw [List.length_map]; omega
      · rw [List.take_add_one, List.getElem?_eq_getElem hil, List.map_append, List.map_append, List.length_map]
        rfl
    · rintro ys H2 ⟨rfl, rfl⟩ p3 hp3
      refine ⟨p3, _, rfl, SqL.of upd_same, ?_⟩
      have z := k _ (s1.lay (o := .lst ((((ps.take us.length).map fun p => (p.1.length : Int) * p.2)).map V.int)) hp3)
      have e : ps.take us.length = ps := by rw [e2.len, List.length_map, List.take_length]
      rw [e] at z ⊢
      exact z
theorem ok_effby (T : Txt K mg) : FnOk P w K mg base CX0 6 T.a_effect_by T.d_effect_by ["land", "store", "place", "trip"] (spEffBy K) := by
  have G_end_of : FnOk P w K mg base CX0 5 T.a_end_of T.d_end_of ["land", "place", "trip"] spEnd := ok_end T
  have G_effect_of_none : FnOk P w K mg base CX0 1 T.a_effect_of_none T.d_effect_of_none ["store"] (spNone K) := ok_none T
  have G_effect_of : FnOk P w K mg base CX0 3 T.a_effect_of T.d_effect_of ["store", "changes"] (spFx K) := ok_fx T
  have G_changes_of : FnOk P w K mg base CX0 1 T.a_changes_of T.d_changes_of ["land", "numbers"] spChOf := ok_chof T
  have G_joined : FnOk P w K mg base CX0 2 T.a_joined T.d_joined ["one", "other"] (spJoined K) := ok_joined T
  have G_repeated : FnOk P w K mg base CX0 3 T.a_repeated T.d_repeated ["store", "effect", "times"] (spRep K) := ok_repeated T
  have b_end_of := bd_end_of T
  have b_effect_of_none := bd_effect_of_none T
  have b_effect_of := bd_effect_of T
  have b_changes_of := bd_changes_of T
  have b_joined := bd_joined T
  have b_repeated := bd_repeated T
  refine T.F_effect_by.ok sc_effect_by (fun vs H Q E h => ?_) (fun cdv A outer s H vs Q E hr h => ?_)
  · obtain ⟨F, v, u, m, ws, st, pl, r, ps, rfl, _⟩ := h
    rfl
  · obtain ⟨F, v, u, m, ws, st, pl, r, ps, rfl, hv, hu, ho, hb, st0, k⟩ := h
    refine ⟨_, (pss_cons (ps_expr (pe_call G_end_of (hr.mono (by decide)) rfl T.mg_end_of T.kp_end_of b_end_of .nil pass0 (pa_cons (pv 0) (pa_cons (pv 2) (pa_cons (pv 3) pa_nil se_Name) se_Name) se_Name) (he := se_Name) (hpl := (np_cons se_Name (np_cons se_Name np_nil)))))
      (pss_cons (ps_set (i := 4) sc_effect_by.nd rfl (Or.inl rfl) (pe_call G_effect_of_none (hr.mono (by decide)) rfl T.mg_effect_of_none T.kp_effect_of_none b_effect_of_none .nil pass0 (pa_cons (pv 1) pa_nil se_Name) (he := se_Name) (hpl := np_nil)))
      (pss_cons (ps_for PassesOwn.never rfl (pi_list (pv 3)) (pg_name (i := 5) sc_effect_by.nd rfl (Or.inl rfl))
      (pss_cons (ps_set (i := 6) sc_effect_by.nd rfl (Or.inl rfl) (pe_call G_effect_of (hr.mono (by decide)) rfl T.mg_effect_of T.kp_effect_of b_effect_of .nil pass0 (pa_cons (pv 1) (pa_cons (pe_call G_changes_of (hr.mono (by decide)) rfl T.mg_changes_of T.kp_changes_of b_changes_of .nil pass0 (pa_cons (pv 0) (pa_cons (pe_ix ix_tup (pv 5) (pe_glob (v := V.int 0) rfl T.mg_NUMBERS ⟨_, rfl⟩) (fun _ _ => rfl)) pa_nil se_Subscript) se_Name) (he := se_Name) (hpl := (np_cons se_Subscript np_nil))) pa_nil se_Call) se_Name) (he := se_Name) (hpl := (np_cons se_Call np_nil))))
      (pss_one (ps_set (i := 4) sc_effect_by.nd rfl (Or.inl rfl) (pe_call G_joined (hr.mono (by decide)) rfl T.mg_joined T.kp_joined b_joined .nil pass0 (pa_cons (pv 4) (pa_cons (pe_call G_repeated (hr.mono (by decide)) rfl T.mg_repeated T.kp_repeated b_repeated .nil pass0 (pa_cons (pv 1) (pa_cons (pv 6) (pa_cons (pe_ix ix_tup (pv 5) (pe_glob (v := V.int 1) rfl T.mg_TIMES ⟨_, rfl⟩) (fun _ _ => rfl)) pa_nil se_Subscript) se_Name) se_Name) (he := se_Name) (hpl := (np_cons se_Name (np_cons se_Subscript np_nil)))) pa_nil se_Call) se_Name) (he := se_Name) (hpl := (np_cons se_Call np_nil)))))))
      (pss_one (ps_ret (pv 4)))))), ?_⟩
    refine ⟨_, rfl, _, rfl, _, rfl, F, v, u, m, ws, pl, r, ps, rfl, hv, hu, ho, fun H1 s1 => ?_⟩
    refine ⟨_, rfl, st, rfl, fun x0 H2 h2 s2 => ?_⟩
    have s12 := s1.trans s2
    obtain ⟨tp, us, rfl, ft, e1, e2⟩ := (hu.same s12).trip
    have hv2 := hv.same s12
    refine ⟨_, rfl, tp, rfl, ⟨_, SqL.of e1⟩, for_list (K := K) (a := tp) (xs := us) (fun i σ H3 => Same H2 H3 ∧ ∃ (x : V) (v1 v2 : Option V) (q : Int), σ = [some v, some (.int st), some (.int pl), some (.ref tp), some x, v1, v2] ∧ EffV K H3 x (effB ws st (ps.take i)) ∧ okT ws q (ps.drop i) r)
      ⟨Same.refl H2, x0, none, none, pl, rfl, h2, ho⟩ (fun i σ H3 _ ⟨s3, _⟩ => SqL.of (s3 _ _ e1)) ?_ ?_⟩
    · rintro i y σ H3 hi ⟨s3, x, v1, v2, q, rfl, hx, ho⟩
      have hil : i < ps.length := by
        have := (List.getElem?_eq_some_iff.mp hi).1
        rw [e2.len, List.length_map] at this; exact this
      have hd : ps.drop i = ps[i] :: ps.drop (i + 1) := List.drop_eq_getElem_cons hil
      rw [hd] at ho
      obtain ⟨q', hp, ho⟩ := ho
      obtain ⟨d, ed, td⟩ := e2.get hi
      rw [List.getElem?_map, List.getElem?_eq_getElem hil] at ed
      have ed' : partD ps[i] = d := Option.some.inj ed
      rw [← ed'] at td
      obtain ⟨pp, pq, rfl, _, _, e3, e4⟩ := (td.same s3).part
      have hl := hb ps[i] (List.getElem_mem hil)
      refine ⟨_, rfl, _, rfl, _, rfl, pp, _, _, _, rfl, rfl, SqT.of e3, rfl, F, v, m, ws, pq, ps[i].1, rfl, hv2.same s3, e4, hl, okW_mem hp.2.2.2.1, fun pc hpc => ?_⟩
      refine ⟨st, pc, chs ws ps[i].1, rfl, SqL.of upd_same, fun y H4 h4 s4 => ?_⟩
      have s34 : Same H3 H4 := ((Same.refl H3).lay hpc).trans s4
      obtain ⟨t, et⟩ : ∃ t : Nat, ps[i].2 = (t : Int) := Int.eq_ofNat_of_zero_le (show 0 ≤ ps[i].2 from Int.le_trans (by decide) hp.2.1)
      refine ⟨_, rfl, _, rfl, _, rfl, _, rfl, pp, _, _, _, rfl, rfl, SqT.of (s34 _ _ e3), rfl, st, y, _, t, (by rw [et]; rfl), h4, fxF_ok st0 _, st0, fun z H5 h5 s5 => ?_⟩
      refine ⟨x, z, _, _, rfl, (hx.same s34).same s5, h5, fun y6 H6 h6 s6 => ?_⟩
      refine ⟨((s3.trans s34).trans s5).trans s6, y6, _, _, q', rfl, ?_, ho⟩
      rw [List.take_add_one, List.getElem?_eq_getElem hil]
      show EffV K H6 y6 (effB ws st (ps.take i ++ [ps[i]]))
      rw [effB_snoc]
      unfold parE
      rw [et]
      exact h6
    · rintro σ H3 ⟨s3, x, v1, v2, q, rfl, hx, ho⟩
      rw [e2.len, List.length_map, List.take_length] at hx
      exact ⟨_, rfl, k x H3 hx (s12.trans s3)⟩
theorem ok_arr (T : Txt K mg) : FnOk P w K mg base CX0 7 T.a_arrival T.d_arrival ["land", "store", "place", "level", "trip"] spArr := by
  have G_effect_by : FnOk P w K mg base CX0 6 T.a_effect_by T.d_effect_by ["land", "store", "place", "trip"] (spEffBy K) := ok_effby T
  have G_passed : FnOk P w K mg base CX0 1 T.a_passed T.d_passed ["effect", "level"] (spPassed K) := ok_passed T
  have b_effect_by := bd_effect_by T
  have b_passed := bd_passed T
  refine T.F_arrival.ok sc_arrival (fun vs H Q E h => ?_) (fun cdv A outer s H vs Q E hr h => ?_)
  · obtain ⟨F, v, u, m, ws, st, pl, r, lv, ps, rfl, _⟩ := h
    rfl
  · obtain ⟨F, v, u, m, ws, st, pl, r, lv, ps, rfl, hv, hu, ho, hb, st0, k⟩ := h
    refine ⟨_, (pss_one (ps_ret (pe_call G_passed (hr.mono (by decide)) rfl T.mg_passed T.kp_passed b_passed .nil pass0 (pa_cons (pe_call G_effect_by (hr.mono (by decide)) rfl T.mg_effect_by T.kp_effect_by b_effect_by .nil pass0 (pa_cons (pv 0) (pa_cons (pv 1) (pa_cons (pv 2) (pa_cons (pv 4) pa_nil se_Name) se_Name) se_Name) se_Name) (he := se_Name) (hpl := (np_cons se_Name (np_cons se_Name (np_cons se_Name np_nil))))) (pa_cons (pv 3) pa_nil se_Name) se_Call) (he := se_Call) (hpl := (np_cons se_Name np_nil))))), ?_⟩
    refine ⟨_, rfl, _, rfl, _, rfl, _, rfl, F, v, u, m, ws, st, pl, r, ps, rfl, hv, hu, ho, hb, st0, fun x H1 h1 s1 => ?_⟩
    exact ⟨_, rfl, x, _, lv, rfl, h1, k H1 s1⟩
end
def spLevel : Sp := fun vs H Q _ => ∃ (a l : Addr) (st : Int), vs = [.ref a, .int st] ∧ Hd H a l ∧ 0 ≤ st ∧ st ≤ 100000000000000000000 ∧ ∀ (r : Int) (H' : Hp), 0 ≤ r → r ≤ st → Hd H' a l → Kp a H H' → Q (.int r) H'
section
variable {P : Program} {w : World} {K : PySem.W.Frag} {mg : Str → Option Value} {base : Heap}
theorem ok_level (T : Txt K mg) : FnOk P w K mg base CX0 4 T.a_level T.d_level ["_law_hand_here", "_law_store_here"] spLevel := by
  have G_draw : FnOk P w K mg base CX0 3 T.a_draw T.d_draw ["_law_hand_here", "_law_many"] spDraw := ok_draw T
  have b_draw := bd_draw T
  refine T.F_level.ok sc_level (fun vs H Q E h => ?_) (fun cdv A outer s H vs Q E hr h => ?_)
  · obtain ⟨a, l, st, rfl, _⟩ := h
    rfl
  · obtain ⟨a, l, st, rfl, hd, h0, hs1, k⟩ := h
    refine ⟨_, (pss_one (ps_ret (pe_ix ix_list (pe_lst (pa_cons pe_int (pa_cons (pv 1) (pa_cons (pe_call G_draw (hr.mono (by decide)) rfl T.mg_draw T.kp_draw b_draw .nil pass0 (pa_cons (pv 0) (pa_cons (pe_op op_add (pv 1) pe_int) pa_nil se_BinOp) se_Name) (he := se_Name) (hpl := (np_cons se_BinOp np_nil))) (pa_cons (pe_callB (call_min2 rfl) rfl T.n_min bt_min (pa_cons (pv 1) (pa_cons (pe_call G_draw (hr.mono (by decide)) rfl T.mg_draw T.kp_draw b_draw .nil pass0 (pa_cons (pv 0) (pa_cons pe_int pa_nil se_Constant) se_Name) (he := se_Name) (hpl := (np_cons se_Constant np_nil))) pa_nil se_Call) se_Name) (he := se_Name) (hpl := (np_cons se_Call np_nil))) pa_nil se_Call) se_Call) se_Name) se_Constant)) (pe_call G_draw (hr.mono (by decide)) rfl T.mg_draw T.kp_draw b_draw .nil pass0 (pa_cons (pv 0) (pa_cons pe_int pa_nil se_Constant) se_Name) (he := se_Name) (hpl := (np_cons se_Constant np_nil))) (fun _ _ => rfl)))), ?_⟩
    refine ⟨_, rfl, _, rfl, _, rfl, _, _, rfl, rfl, a, l, _, rfl, hd, by omega, by omega, fun r1 H1 r10 r11 h1 k1 => ?_⟩
    refine ⟨_, rfl, _, rfl, a, l, _, rfl, h1, by decide, by decide, fun r2 H2 r20 r21 h2 k2 => ?_⟩
    refine ⟨_, _, rfl, (by show 4 ≤ sizeLine; decide), fun p hp => ?_⟩
    refine ⟨_, rfl, a, l, _, rfl, h2.lay hp, by decide, by decide, fun r H3 r0 r1 h3 k3 => ?_⟩
    have hpa : p ≠ a := (h2.ne hp).1
    have e1 := k3 p _ upd_same hpa
    have k4 : Kp a H H3 := ((k1.trans k2).lay hp).trans k3
    have hr' : r = 0 ∨ r = 1 ∨ r = 2 ∨ r = 3 := by omega
    rcases hr' with rfl | rfl | rfl | rfl
    all_goals exact ⟨p, _, _, _, rfl, rfl, SqL.of e1, rfl, k _ H3 (by first | omega | (dsimp only; split <;> omega)) (by first | omega | (dsimp only; split <;> omega)) h3 k4⟩
end
/-! ### a trip drawn -/
def spTrip : Sp := fun vs H Q _ => ∃ (a l : Addr) (v : V) (m : Int) (ws : List Wy) (sc pl pn tn : Int), vs = [.ref a, v, .int pl, .int pn, .int tn] ∧ Hd H a l ∧ ThV (NH a) H v (landD m ws) ∧ (∀ w ∈ ws, WyIn m sc w) ∧ ws.length ≤ 100 ∧ 0 ≤ pl ∧ pl < m ∧ 0 ≤ pn ∧ pn ≤ 100 ∧ 1 ≤ tn ∧ tn ≤ 1000000000000000000000000 ∧
  ∀ (p : Addr) (ps : List Pt) (r : Int) (H' : Hp), H p = none → ThV (NH a) H' (.ref p) (tripD ps) → okT ws pl ps r → 0 ≤ r → r < m → (ps.length : Int) ≤ pn → (∀ p ∈ ps, p.1.length ≤ 4) → Hd H' a l → Kp a H H' → Q (.ref p) H'
theorem wayN_in {ws : List Wy} {m sc n : Int} (h : ∀ w ∈ ws, WyIn m sc w) (h0 : 0 ≤ n) (h1 : n < (ws.length : Int)) : WyIn m sc (wayN ws n) := by
  obtain ⟨k, rfl⟩ := Int.eq_ofNat_of_zero_le h0
  have hk : k < ws.length := by omega
  have ew : wayN ws ((k : Nat) : Int) = ws[k] := by
    show ws.getD k (0, 0, 0) = ws[k]
    rw [List.getD_eq_getElem?_getD, List.getElem?_eq_getElem hk]
    rfl
  rw [ew]
  exact h _ (List.getElem_mem hk)
section
variable {P : Program} {w : World} {K : PySem.W.Frag} {mg : Str → Option Value} {base : Heap}
theorem ok_trip (T : Txt K mg) : FnOk P w K mg base CX0 4 T.a_trip T.d_trip ["_law_hand_here", "_law_land_here", "_law_place", "_law_parts", "_law_times"] spTrip := by
  have G_draw : FnOk P w K mg base CX0 3 T.a_draw T.d_draw ["_law_hand_here", "_law_many"] spDraw := ok_draw T
  have b_draw := bd_draw T
  refine T.F_trip.ok sc_trip (fun vs H Q E h => ?_) (fun cdv A outer s H vs Q E hr h => ?_)
  · obtain ⟨a, l, v, m, ws, sc, pl, pn, tn, rfl, _⟩ := h
    rfl
  · obtain ⟨a, l, v, m, ws, sc, pl, pn, tn, rfl, hd, hv, hw, hwl, pl0, pl1, pn0, pn1, tn0, tn1, k⟩ := h
    refine ⟨_, (pss_cons (ps_set (i := 5) sc_trip.nd rfl (Or.inl rfl) (pe_lst pa_nil))
      (pss_cons (ps_for PassesOwn.never rfl (pi_range1 rfl T.n_range (pa_cons (pe_call G_draw (hr.mono (by decide)) rfl T.mg_draw T.kp_draw b_draw .nil pass0 (pa_cons (pv 0) (pa_cons (pe_op op_add (pv 3) pe_int) pa_nil se_BinOp) se_Name) (he := se_Name) (hpl := (np_cons se_BinOp np_nil))) pa_nil se_Call)) (pg_name (i := 6) sc_trip.nd rfl (Or.inl rfl))
      (pss_cons (ps_set (i := 7) sc_trip.nd rfl (Or.inl rfl) (pe_lst pa_nil))
      (pss_cons (ps_set (i := 8) sc_trip.nd rfl (Or.inr rfl) (pv 2))
      (pss_cons (ps_for PassesOwn.never rfl (pi_range1 rfl T.n_range (pa_cons (pe_op op_add pe_int (pe_call G_draw (hr.mono (by decide)) rfl T.mg_draw T.kp_draw b_draw .nil pass0 (pa_cons (pv 0) (pa_cons pe_int pa_nil se_Constant) se_Name) (he := se_Name) (hpl := (np_cons se_Constant np_nil)))) pa_nil se_BinOp)) (pg_name (i := 9) sc_trip.nd rfl (Or.inl rfl))
      (pss_cons (ps_setC (i := 10) sc_trip.nd rfl (Or.inl rfl) (CompSc.new (N := ["_law_hand_here", "_law_land_here", "_law_place", "_law_parts", "_law_times", "_law_trip_here", "_law_k", "_law_ways", "_law_here", "_law_j", "_law_some", "_law_many"]) (osc := defScope s_trip) (by decide +kernel)) rfl (pi_range1 rfl T.n_range (pa_cons (pe_callB call_len_seq rfl T.n_len bt_len (pa_cons (pe_ix ix_tup (pv 1) pe_int (fun _ _ => rfl)) pa_nil se_Subscript) (he := se_Subscript) (hpl := np_nil)) pa_nil se_Call)) (fun _ => (pts_one (pt_cmpR op_eq (pe_ix ix_tup (pe_ix ix_list (pe_ix ix_tup (pv 1) pe_int (fun _ _ => rfl)) (pv 12) (fun _ _ => rfl)) pe_int (fun _ _ => rfl)) (pv 8) (nomark _)))) (fun _ => (pv 12)))
      (pss_one (ps_if (pt_cmpR (op_neD (units_of hr)) (pv 10) (pe_lst pa_nil) (nomark _))
      (pss_cons (ps_expr (pe_bm PySem.F.plainAttrs_list PySem.F.slot_list_append PySem.F.type_list_append mt_append (pv 7) (pa_cons (pe_ix ix_list (pv 10) (pe_call G_draw (hr.mono (by decide)) rfl T.mg_draw T.kp_draw b_draw .nil pass0 (pa_cons (pv 0) (pa_cons (pe_callB call_len_seq rfl T.n_len bt_len (pa_cons (pv 10) pa_nil se_Name) (he := se_Name) (hpl := np_nil)) pa_nil se_Call) se_Name) (he := se_Name) (hpl := (np_cons se_Call np_nil))) (fun _ _ => rfl)) pa_nil se_Subscript)))
      (pss_one (ps_set (i := 8) sc_trip.nd rfl (Or.inr rfl) (pe_ix ix_tup (pe_ix ix_list (pe_ix ix_tup (pv 1) pe_int (fun _ _ => rfl)) (pe_ix ix_list (pv 7) (pe_un un_neg pe_int) (fun _ _ => rfl)) (fun _ _ => rfl)) pe_int (fun _ _ => rfl)))))
      pss_nil))))
      (pss_cons (ps_set (i := 11) sc_trip.nd rfl (Or.inl rfl) pe_int)
      (pss_cons (ps_mid (ps_if (pt_cmpR op_eq (pv 8) (pv 2) (nomark _))
      (pss_one (ps_set (i := 11) sc_trip.nd rfl (Or.inl rfl) (pe_op op_add pe_int (pe_call G_draw (hr.mono (by decide)) rfl T.mg_draw T.kp_draw b_draw .nil pass0 (pa_cons (pv 0) (pa_cons (pv 4) pa_nil se_Name) se_Name) (he := se_Name) (hpl := (np_cons se_Name np_nil))))))
      pss_nil))
      (pss_one (ps_if (pt_cmpR (op_neD (units_of hr)) (pv 7) (pe_lst pa_nil) (nomark _))
      (pss_cons (ps_expr (pe_bm PySem.F.plainAttrs_list PySem.F.slot_list_append PySem.F.type_list_append mt_append (pv 5) (pa_cons (pe_tup (pa_cons (pv 7) (pa_cons (pv 11) pa_nil se_Name) se_Name)) pa_nil se_Tuple)))
      (pss_one (ps_set (i := 2) sc_trip.nd rfl (Or.inl rfl) (pv 8))))
      pss_nil))))))))
      (pss_one (ps_ret (pv 5))))), ?_⟩
    refine ⟨(by show 0 ≤ sizeLine; decide), fun pt hpt => ?_⟩
    have npt := hd.ne hpt
    refine ⟨_, rfl, _, rfl, _, _, rfl, rfl, a, l, _, rfl, hd.lay hpt, by omega, by omega, fun n H1 n0 n1 d1 k1 => ⟨_, rfl, by omega, by omega, ?_⟩⟩
    refine for_range (fun i σ H2 => ∃ (us : List V) (ps : List Pt) (q : Int) (v1 v2 v3 v4 v5 v6 : Option V), σ = [some (.ref a), some v, some (.int q), some (.int pn), some (.int tn), some (.ref pt), v1, v2, v3, v4, v5, v6] ∧ Hd H2 a l ∧ Kp a H H2 ∧ H2 pt = some (.lst us) ∧ ThVs (fun x => x ≠ a ∧ x ≠ pt) H2 us (ps.map partD) ∧ okT ws pl ps q ∧ 0 ≤ q ∧ q < m ∧ ps.length ≤ i ∧ ∀ p ∈ ps, p.1.length ≤ 4)
      ⟨[], [], pl, none, none, none, none, none, none, rfl, d1, ((Kp.refl a H).lay hpt).trans k1, k1 pt _ upd_same npt.1, .nil, rfl, pl0, pl1, Nat.le_refl _, fun p hp => by cases hp⟩ ?_ ?_
    · rintro i σ H2 hi ⟨us, ps, q, v1, v2, v3, v4, v5, v6, rfl, d2, k2, e2, h2, o2, q0, q1, l2, b2⟩
      refine ⟨(by show 0 ≤ sizeLine; decide), fun pw hpw => ?_⟩
      refine ⟨_, rfl, ?_⟩
      have npw := d2.ne hpw
      have npwt : pw ≠ pt := ne_new e2 hpw
      obtain ⟨od, eod⟩ := d2.at1
      have hpw0 : H pw = none := k2.free eod hpw
      refine ⟨_, rfl, a, l, 4, rfl, d2.lay hpw, by decide, by decide, fun z H3 z0 z1 d3 k3 => ⟨_, _, rfl, rfl, _, rfl, by omega, by omega, ?_⟩⟩
      have h3 : ThVs (fun x => x ≠ a ∧ x ≠ pt ∧ x ≠ pw) H3 us (ps.map partD) := h2.mv fun b o z e => ⟨⟨z.1, z.2, ne_of_none e hpw⟩, k3 b o (up e hpw) z.1⟩
      have k23 : Kp a H H3 := (k2.lay hpw).trans k3
      have e3 : H3 pt = some (.lst us) := k3 pt _ (up e2 hpw) npt.1
      have ew3 : H3 pw = some (.lst []) := k3 pw _ upd_same npw.1
      refine for_range (fun j σ H4 => ∃ (ns : List Int) (h : Int) (v4 v5 v6 : Option V), σ = [some (.ref a), some v, some (.int q), some (.int pn), some (.int tn), some (.ref pt), some (.int (0 + (i : Int))), some (.ref pw), some (.int h), v4, v5, v6] ∧ Hd H4 a l ∧ Kp a H H4 ∧ H4 pt = some (.lst us) ∧ H4 pw = some (.lst (ns.map V.int)) ∧ ThVs (fun x => x ≠ a ∧ x ≠ pt ∧ x ≠ pw) H4 us (ps.map partD) ∧ okW ws q ns h ∧ 0 ≤ h ∧ h < m ∧ ns.length ≤ j)
        ⟨[], q, _, _, _, rfl, d3, k23, e3, ew3, h3, rfl, q0, q1, Nat.le_refl _⟩ ?_ ?_
      · rintro j σ H4 hj ⟨ns, h, v4, v5, v6, rfl, d4, k4, e4, ew4, h4, o4, h0, h1, l4⟩
        obtain ⟨lp, lq, vs, rfl, _, nlq, f1, f2, f3⟩ := (hv.kp k4).land
        have hvl : vs.length = ws.length := by rw [f3.len, List.length_map]
        refine ⟨_, rfl, lp, _, _, _, rfl, rfl, SqT.of f1, rfl, lq, _, rfl, .inl (SqL.of f2), _, rfl, by omega, by omega, ?_⟩
        refine comp_range (fun j' ys H5 => H4 = H5 ∧ ∃ ms : List Int, ys = ms.map V.int ∧ ms.length ≤ j' ∧ ∀ n ∈ ms, 0 ≤ n ∧ n < (ws.length : Int) ∧ (wayN ws n).1 = h) (small1000 (by omega)) ⟨rfl, [], rfl, Nat.le_refl _, fun n hn => by cases hn⟩ ?_ ?_ ?_
        · rintro j' ys H5 hj' ⟨rfl, ms, rfl, lm, _⟩
          rw [List.length_map]; exact lm
        · rintro j' ys H5 hj' ⟨rfl, ms, rfl, lm, bm⟩ ca
          obtain ⟨t, ht, et⟩ := way_at f3 (show (0 : Int) ≤ 0 + (j' : Int) by omega) (show 0 + (j' : Int) < (ws.length : Int) by omega)
          refine ⟨_, rfl, lp, _, _, _, rfl, rfl, SqT.of f1, rfl, _, rfl, lq, _, _, _, rfl, rfl, SqL.of f2, ht, t, _, _, _, rfl, rfl, SqT.of et, rfl, _, rfl, rfl, _, rfl, ?_⟩
          refine ite2 (fun c => ?_) (fun _ => ⟨rfl, ms, rfl, by omega, bm⟩)
          have c' : V.int (wayN ws (0 + (j' : Int))).1 = V.int h := of_decide_eq_true c
          injection c' with c'
          refine ⟨_, rfl, rfl, ms ++ [0 + (j' : Int)], by rw [List.map_append]; rfl, by rw [List.length_append]; simp; omega, fun n hn => ?_⟩
          rcases List.mem_append.mp hn with hn | hn
          · exact bm n hn
          · have e : n = 0 + (j' : Int) := by simpa using hn
            subst e
            exact ⟨by omega, by omega, c'⟩
        · rintro ys H5 ⟨rfl, ms, rfl, lm, bm⟩ pm hpm
          refine ⟨_, rfl, (by show 0 ≤ sizeLine; decide), fun pe hpe => ?_⟩
          refine eqD_ints (ns := ms) (ms := []) (SqL.of (up upd_same hpe)) (SqL.of upd_same) ⟨_, rfl, ?_⟩
          have s6 := ((Same.refl H4).lay (o := .lst (ms.map V.int)) hpm).lay (o := .lst []) hpe
          have em : upd (upd H4 pm (.lst (ms.map V.int))) pe (.lst []) pm = some (.lst (ms.map V.int)) := up upd_same hpe
          have npm := (d4.ne hpm).1
          have npmw : pm ≠ pw := ne_new ew4 hpm
          generalize upd (upd H4 pm (.lst (ms.map V.int))) pe (.lst []) = H6 at s6 em ⊢
          have d6 := d4.same s6
          have k6 := k4.trans s6.kp
          have e6 := s6 _ _ e4
          have ew6 := s6 _ _ ew4
          have h6 := h4.same s6
          by_cases c : ms = []
          · subst c
            simp only [decide_true, Bool.not_true, if_true]
            exact iteF ⟨ns, h, _, _, _, rfl, d6, k6, e6, ew6, h6, o4, h0, h1, by omega⟩
          · simp only [decide_eq_false c, Bool.not_false, if_true]
            have hml : 0 < ms.length := List.length_pos_iff.mpr c
            refine ⟨_, rfl, .inl ⟨rfl, _, SqL.of ew6⟩, _, rfl, _, rfl, _, rfl, pm, _, rfl, .inl (SqL.of em), a, l, _, rfl, d6, by rw [List.length_map]; omega, by rw [List.length_map]; omega, fun x H7 x0 x1 d7 k7 => ?_⟩
            rw [List.length_map] at x1
            obtain ⟨y, hy⟩ := atI_ints (ns := ms) x0 x1
            have hym : y ∈ ms := by
              obtain ⟨xn, rfl⟩ := Int.eq_ofNat_of_zero_le x0
              have hxn : xn < ms.length := by omega
              have e := atI_nat (show (ms.map V.int)[xn]? = some (V.int ms[xn]) by rw [List.getElem?_map, List.getElem?_eq_getElem hxn]; rfl)
              rw [e] at hy
              have e' : V.int ms[xn] = V.int y := Option.some.inj hy
              injection e' with e'
              rw [← e']
              exact List.getElem_mem hxn
            obtain ⟨y0, y1, y2⟩ := bm y hym
            have ew7 := k7 pw _ ew6 npw.1
            refine ⟨pm, _, _, _, rfl, rfl, SqL.of (k7 pm _ em npm), hy, pw, _, _, rfl, rfl, ew7, small1000 (by rw [List.length_map]; omega), ?_⟩
            have k7' : Kp a H (upd H7 pw (.lst (ns.map V.int ++ [.int y]))) := (k6.trans k7).wr hpw0
            have eq : ns.map V.int ++ [V.int y] = (ns ++ [y]).map V.int := by rw [List.map_append]; rfl
            have ew8 : upd H7 pw (.lst (ns.map V.int ++ [.int y])) pw = some (.lst ((ns ++ [y]).map V.int)) := by rw [upd_same, eq]
            obtain ⟨lp', lq', vs', e', _, _, f1', f2', f3'⟩ := (hv.kp k7').land
            cases e'
            obtain ⟨t, ht, et⟩ := way_at f3' y0 y1
            have wi := wayN_in hw y0 y1
            refine ⟨_, rfl, lp, _, _, _, rfl, rfl, SqT.of f1', rfl, _, rfl, _, rfl, pw, _, _, _, rfl, rfl, SqL.of ew8, (by rw [← eq]; exact atI_last _ _), lq', _, _, _, rfl, rfl, SqL.of f2', ht, t, _, _, _, rfl, rfl, SqT.of et, rfl, ?_⟩
            have h7 : ThVs (fun x => x ≠ a ∧ x ≠ pt ∧ x ≠ pw) (upd H7 pw (.lst (ns.map V.int ++ [.int y]))) us (ps.map partD) := h6.mv fun b o z e => ⟨z, by rw [upd_ne z.2.2]; exact k7 b o e z.1⟩
            exact ⟨ns ++ [y], _, _, _, _, rfl, d7.wr npw.1 npw.2, k7', by rw [upd_ne npwt.symm]; exact k7 pt _ e6 npt.1, ew8, h7, okW_app o4 ⟨y0, y1, y2, rfl⟩, wi.2.2.1, wi.2.2.2.1, by rw [List.length_append]; simp; omega⟩
      · rintro σ H4 ⟨ns, h, v4, v5, v6, rfl, d4, k4, e4, ew4, h4, o4, h0, h1, l4⟩
        have l4' : ns.length ≤ 4 := by omega
        refine ⟨fun σ H5 => ∃ t : Int, σ = [some (.ref a), some v, some (.int q), some (.int pn), some (.int tn), some (.ref pt), some (.int (0 + (i : Int))), some (.ref pw), some (.int h), v4, v5, some (.int t)] ∧ 1 ≤ t ∧ t ≤ tn ∧ (t > 1 → h = q) ∧ Hd H5 a l ∧ Kp a H4 H5, ?_, ?_⟩
        · refine ⟨_, rfl, _, rfl, rfl, _, rfl, ?_⟩
          refine ite2 (fun c => ?_) (fun _ => ⟨1, rfl, Int.le_refl _, tn0, fun z => absurd z (by decide), d4, Kp.refl a H4⟩)
          have c' : V.int h = V.int q := of_decide_eq_true c
          injection c' with c'
          exact ⟨_, rfl, _, rfl, a, l, _, rfl, d4, by omega, by omega, fun y H5 y0 y1 d5 k5 => ⟨_, _, rfl, rfl, _, rfl, by omega, by omega, fun _ => c', d5, k5⟩⟩
        · rintro σ H5 ⟨t, rfl, t0, t1, t2, d5, k5⟩
          have ew5 := k5 pw _ ew4 npw.1
          have e5 := k5 pt _ e4 npt.1
          have h5 : ThVs (fun x => x ≠ a ∧ x ≠ pt ∧ x ≠ pw) H5 us (ps.map partD) := h4.mv fun b o z e => ⟨z, k5 b o e z.1⟩
          refine ⟨_, rfl, (by show 0 ≤ sizeLine; decide), fun pe hpe => ?_⟩
          refine eqD_ints (ns := ns) (ms := []) (SqL.of (up ew5 hpe)) (SqL.of upd_same) ⟨_, rfl, ?_⟩
          have s6 := (Same.refl H5).lay (o := .lst []) hpe
          generalize upd H5 pe (.lst []) = H6 at s6 ⊢
          have d6 := d5.same s6
          have k6 := (k4.trans k5).trans s6.kp
          have e6 := s6 _ _ e5
          have ew6 := s6 _ _ ew5
          have h6 := h5.same s6
          by_cases c : ns = []
          · subst c
            simp only [decide_true, Bool.not_true, if_true]
            exact iteF ⟨us, ps, q, _, _, _, _, _, _, rfl, d6, k6, e6, h6.mv fun b o z e => ⟨⟨z.1, z.2.1⟩, e⟩, o2, q0, q1, by omega, b2⟩
          · simp only [decide_eq_false c, Bool.not_false, if_true]
            refine ⟨_, rfl, .inl ⟨rfl, _, SqL.of e6⟩, _, rfl, _, rfl, (by show 2 ≤ sizeLine; decide), fun pp hpp => ?_⟩
            have e7 := up (x := .tup [.ref pw, .int t]) e6 hpp
            refine ⟨pt, _, _, rfl, rfl, e7, small1000 (by have := h6.len; rw [List.length_map] at this; omega), ?_⟩
            refine ⟨_, rfl, ?_⟩
            have npp := d6.ne hpp
            have nppt : pp ≠ pt := ne_new e6 hpp
            have e8 : ∀ b o, b ≠ pt → H6 b = some o → upd (upd H6 pp (.tup [.ref pw, .int t])) pt (.lst (us ++ [.ref pp])) b = some o := fun b o n e => by rw [upd_ne n]; exact up e hpp
            have th : ThVs (fun x => x ≠ a ∧ x ≠ pt) (upd (upd H6 pp (.tup [.ref pw, .int t])) pt (.lst (us ++ [.ref pp]))) (us ++ [.ref pp]) ((ps ++ [(ns, t)]).map partD) := by
              rw [List.map_append]
              refine ThVs.append (h6.mv fun b o z e => ⟨⟨z.1, z.2.1⟩, e8 b o z.2.1 e⟩) (.cons (.tup ⟨npp.1, nppt⟩ (by rw [upd_ne nppt]; exact upd_same) (.cons (.lst ⟨npw.1, npwt⟩ (e8 _ _ npwt ew6) (ints_th ns)) (.cons (.int t) .nil))) .nil)
            refine ⟨us ++ [.ref pp], ps ++ [(ns, t)], h, _, _, _, _, _, _, rfl, (d6.lay hpp).wr npt.1 npt.2, (k6.lay hpp).wr hpt, upd_same, th, okT_app o2 (okT_one ⟨c, t0, by show t ≤ _; omega, o4, t2⟩), h0, h1, by rw [List.length_append]; simp; omega, fun p hp => ?_⟩
            rcases List.mem_append.mp hp with hp | hp
            · exact b2 p hp
            · have e : p = (ns, t) := by simpa using hp
              subst e
              exact l4'
    · rintro σ H2 ⟨us, ps, q, v1, v2, v3, v4, v5, v6, rfl, d2, k2, e2, h2, o2, q0, q1, l2, b2⟩
      refine ⟨_, rfl, ?_⟩
      exact k pt ps q H2 hpt (.lst npt.1 e2 (h2.mv fun b o z e => ⟨z.1, e⟩)) o2 q0 q1 (by omega) b2 d2 k2
end
theorem tripD_lay (ps : List Pt) : (tripD ps).canLay0 = true := by
  show PyData.canLayAll0 (ps.map partD) = true
  induction ps with
  | nil => rfl
  | cons p ps ih =>
    show (PyData.canLay0 (partD p) && PyData.canLayAll0 (ps.map partD)) = true
    rw [ih]
    show ((PyData.canLayAll0 (p.1.map PyData.int) && (true && true)) && true) = true
    rw [lay_ints]
    rfl
theorem tripD_depth (ps : List Pt) : (tripD ps).depth ≤ 64 := by
  show PyData.depthAll (ps.map partD) + 1 ≤ 64
  have : PyData.depthAll (ps.map partD) ≤ 2 := by
    induction ps with
    | nil => exact Nat.zero_le _
    | cons p ps ih =>
      show max (PyData.depth (partD p)) (PyData.depthAll (ps.map partD)) ≤ 2
      have h : PyData.depth (partD p) ≤ 2 := by
        show max (PyData.depthAll (p.1.map PyData.int) + 1) (max (PyData.depth (.int p.2)) 0) + 1 ≤ 2
        rw [depth_ints]
        have z : PyData.depth (.int p.2) = 0 := rfl
        omega
      omega
  omega
theorem eqD_th {K : PySem.W.Frag} {F G : Addr → Prop} {H : Hp} {v u : V} {d : PyData} {Q : VK} {neg : Bool} (h1 : ThV F H v d) (h2 : ThV G H u d) (hl : d.canLay0 = true) (hd : d.depth ≤ 64) (hQ : Q (.bl (!neg)) H) : rEqD K neg v u H Q := by
  refine ⟨d, d, h1.dat, h2.dat, hl, hl, by omega, ?_⟩
  rw [SeqAt.eqv_refl d hl]
  cases neg <;> exact hQ
abbrev AnyA : Addr → Prop := fun _ => True
theorem ThV.any {F : Addr → Prop} {H : Hp} {v : V} {d : PyData} (t : ThV F H v d) : ThV AnyA H v d := t.mv fun _ _ _ e => ⟨trivial, e⟩
theorem th_part {F : Addr → Prop} {H : Hp} {t q : Addr} {ns : List Int} {x : Int} (ft : F t) (fq : F q) (e1 : H t = some (.tup [.ref q, .int x])) (e2 : H q = some (.lst (ns.map V.int))) : ThV F H (.ref t) (partD (ns, x)) :=
  .tup ft e1 (.cons (.lst fq e2 (ints_th ns)) (.cons (.int x) .nil))
theorem okT_mem {ws : List Wy} : ∀ {ps : List Pt} {pl r : Int}, okT ws pl ps r → ∀ p ∈ ps, ∃ a b, okP ws a p b
  | [], _, _, _, _, hp => by cases hp
  | q :: ps, _, _, ⟨x, h, h1⟩, p, hp => by
    rcases List.mem_cons.mp hp with z | z
    · subst z; exact ⟨_, _, h⟩
    · exact okT_mem h1 p z
/-! ### backward -/
def turnW (w : Wy) : Wy := (w.2.1, w.1, w.2.2)
def rvP (p : Pt) : Pt := (p.1.reverse, p.2)
def bkT (ps : List Pt) : List Pt := ps.reverse.map rvP
theorem bkT_cons (p : Pt) (ps : List Pt) : bkT (p :: ps) = bkT ps ++ [rvP p] := by
  unfold bkT
  rw [List.reverse_cons, List.map_append]
  rfl
theorem bkT_bkT (ps : List Pt) : bkT (bkT ps) = ps := by
  unfold bkT
  rw [← List.map_reverse, List.reverse_reverse, List.map_map]
  have e : rvP ∘ rvP = id := by
    funext p
    show (p.1.reverse.reverse, p.2) = p
    rw [List.reverse_reverse]
  rw [e, List.map_id]
theorem wayN_turn (ws : List Wy) (n : Int) : wayN (ws.map turnW) n = turnW (wayN ws n) := by
  unfold wayN
  rw [List.getD_eq_getElem?_getD, List.getD_eq_getElem?_getD, List.getElem?_map]
  cases ws[n.toNat]? <;> rfl
theorem chs_turn (ws : List Wy) (ns : List Int) : chs (ws.map turnW) ns = chs ws ns := by
  unfold chs
  refine List.map_congr_left fun n _ => ?_
  rw [wayN_turn]
  rfl
theorem okW_rev {ws : List Wy} : ∀ {ns : List Int} {pl r : Int}, okW ws pl ns r → okW (ws.map turnW) r ns.reverse pl
  | [], pl, r, h => (show r = pl from h).symm
  | n :: ns, pl, r, h => by
    rw [List.reverse_cons]
    refine okW_app (okW_rev h.2.2.2) ⟨h.1, by rw [List.length_map]; exact h.2.1, by rw [wayN_turn]; rfl, ?_⟩
    rw [wayN_turn]
    exact h.2.2.1.symm
theorem okT_rev {ws : List Wy} : ∀ {ps : List Pt} {pl r : Int}, okT ws pl ps r → okT (ws.map turnW) r (bkT ps) pl
  | [], pl, r, h => (show r = pl from h).symm
  | p :: ps, pl, r, ⟨q, hp, ho⟩ => by
    rw [bkT_cons]
    refine okT_app (okT_rev ho) (okT_one ⟨fun z => hp.1 (List.reverse_eq_nil_iff.mp z), hp.2.1, hp.2.2.1, okW_rev hp.2.2.2.1, fun z => (hp.2.2.2.2 z).symm⟩)
theorem lenF_rev : ∀ ps : List Pt, lenF (bkT ps) = lenF ps
  | [] => rfl
  | p :: ps => by
    rw [bkT_cons, lenF_app, lenF_rev ps, show p :: ps = [p] ++ ps from rfl, lenF_app]
    have e : lenF [rvP p] = lenF [p] := by
      unfold lenF rvP
      simp
    rw [e]
    omega
theorem mirF_ok {st : Int} {e : Ef} (h : OkE st e) : OkE st (mirF st e) := by
  cases e with
  | none => exact trivial
  | some e => exact mir_ok h
theorem mir_unit (st : Int) : mirF st (some (0, 0, st)) = some (0, 0, st) := by
  show some (st - st, 0, st - 0) = some (0, 0, st)
  rw [Int.sub_self, Int.sub_zero]
theorem mir_pw {st : Int} (h : 0 ≤ st) {e : Ef} (o : OkE st e) : ∀ n, mirF st (pwF st e n) = pwF st (mirF st e) n
  | 0 => mir_unit st
  | n + 1 => by
    show mirF st (joinF (pwF st e n) e) = _
    rw [mir_join, mir_pw h o n, show n + 1 = 1 + n from Nat.add_comm n 1, pw_add h (mirF_ok o)]
    congr 1
    show _ = joinF (some (0, 0, st)) (mirF st e)
    exact (unit_l (mirF_ok o)).symm
theorem parE_rev {ws : List Wy} {st : Int} (h : 0 ≤ st) (p : Pt) : parE (ws.map turnW) st (rvP p) = mirF st (parE ws st p) := by
  unfold parE rvP
  dsimp only
  rw [mir_pw h (fxF_ok h _), chs_turn, ← fx_rev h]
  congr 2
  unfold chs
  rw [List.map_reverse]
theorem effB_one {ws : List Wy} {st : Int} (h : 0 ≤ st) (p : Pt) : effB ws st [p] = parE ws st p := by
  show joinF (some (0, 0, st)) (parE ws st p) = _
  exact unit_l (parE_ok h p)
theorem effB_rev {ws : List Wy} {st : Int} (h : 0 ≤ st) : ∀ ps : List Pt, effB (ws.map turnW) st (bkT ps) = mirF st (effB ws st ps)
  | [] => (mir_unit st).symm
  | p :: ps => by
    rw [bkT_cons, effB_snoc, effB_rev h ps, parE_rev h, ← mir_join, show p :: ps = [p] ++ ps from rfl, effB_app h, effB_one h]
theorem come_e {st x y : Int} (hx : 0 ≤ x) (hx' : x ≤ st) (hy : 0 ≤ y) (hy' : y ≤ st) (e : Ef) : comeF (passF e x) y = comeF (passF (mirF st e) (st - y)) (st - x) := by
  rcases e with _ | ⟨l, g, t⟩
  · rfl
  · show comeF (if x < l then none else some (if t < x + g then t else x + g)) y = comeF (if st - y < st - t then none else some (if st - l < st - y + g then st - l else st - y + g)) (st - x)
    by_cases c1 : x < l
    · rw [if_pos c1]
      show false = _
      by_cases c2 : st - y < st - t
      · rw [if_pos c2]; rfl
      · rw [if_neg c2]
        show false = decide _
        rw [decide_eq_false (by split <;> omega)]
    · rw [if_neg c1]
      by_cases c2 : st - y < st - t
      · rw [if_pos c2]
        show decide _ = false
        rw [decide_eq_false (by split <;> omega)]
      · rw [if_neg c2]
        show decide _ = decide _
        by_cases c3 : x + g ≥ y
        · rw [decide_eq_true (by split <;> omega), decide_eq_true (by split <;> omega)]
        · rw [decide_eq_false (by split <;> omega), decide_eq_false (by split <;> omega)]
theorem ThVs.rev {F : Addr → Prop} {H : Hp} : ∀ {xs : List V} {ds : List PyData}, ThVs F H xs ds → ThVs F H xs.reverse ds.reverse
  | _, _, .nil => .nil
  | _, _, .cons x t => by
    rw [List.reverse_cons, List.reverse_cons]
    exact ThVs.append (ThVs.rev t) (.cons x .nil)
theorem ThVs.revP {F : Addr → Prop} {H : Hp} {us : List V} {ps : List Pt} (t : ThVs F H us (ps.map partD)) : ThVs F H us.reverse (ps.reverse.map partD) := by
  rw [List.map_reverse]
  exact t.rev
abbrev Fr (H : Hp) : Addr → Prop := fun x => H x = none
def spTurnT : Sp := fun vs H Q _ => ∃ (F : Addr → Prop) (v : V) (m : Int) (ws : List Wy), vs = [v] ∧ ThV F H v (landD m ws) ∧ ws.length ≤ 300 ∧ ∀ (r : V) (H' : Hp), ThV (Fr H) H' r (landD m (ws.map turnW)) → Same H H' → Q r H'
def spBack : Sp := fun vs H Q _ => ∃ (F : Addr → Prop) (u : V) (ps : List Pt), vs = [u] ∧ ThV F H u (tripD ps) ∧ ps.length ≤ 300 ∧ ∀ (p : Addr) (us : List V) (H' : Hp), H p = none → H' p = some (.lst us) → ThVs (fun x => H x = none ∧ x ≠ p) H' us ((bkT ps).map partD) → Same H H' → Q (.ref p) H'
def spIsTrip : Sp := fun vs H Q _ => ∃ (F G : Addr → Prop) (u u' : V) (ps : List Pt), vs = [u, u'] ∧ ThV F H u (tripD ps) ∧ ThV G H u' (tripD ps) ∧ Q (.bl true) H
def spComes : Sp := fun vs H Q _ => ∃ (F : Addr → Prop) (v u : V) (m : Int) (ws : List Wy) (st pl r x y : Int) (ps : List Pt), vs = [v, .int st, .int pl, u, .int x, .int y] ∧ ThV F H v (landD m ws) ∧ ThV F H u (tripD ps) ∧ okT ws pl ps r ∧ (∀ p ∈ ps, p.1.length ≤ 300) ∧ 0 ≤ st ∧ ∀ H', Same H H' → Q (.bl (comeF (passF (effB ws st ps) x) y)) H'
def spLvR : Sp := fun vs H Q _ => ∃ (a l : Addr) (v u u' : V) (m : Int) (ws : List Wy) (st pl r : Int) (ps : List Pt), vs = [.ref a, v, .int st, .int pl, .int r, u, u'] ∧ Hd H a l ∧ ThV (NH a) H v (landD m ws) ∧ ThV (NH a) H u (tripD ps) ∧ ThV (NH a) H u' (tripD (bkT ps)) ∧ okT ws pl ps r ∧ ws.length ≤ 100 ∧ (∀ p ∈ ps, p.1.length ≤ 300) ∧ 0 ≤ st ∧ st ≤ 100000000000000000000 ∧ ∀ H', Hd H' a l → Kp a H H' → Q (.bl true) H'
def spLaw (K : PySem.W.Frag) : Sp := fun vs H Q _ => ∃ (a : Addr) (ns : List Int), vs = [.ref a] ∧ SqL K H a (ns.map V.int) ∧ ns.length ≤ 63 ∧ ∀ H', Q (.bl true) H'
theorem bkT_len {ps : List Pt} {n : Nat} (h : ∀ p ∈ ps, p.1.length ≤ n) : ∀ p ∈ bkT ps, p.1.length ≤ n := fun p hp => by
  unfold bkT at hp
  obtain ⟨q, hq, rfl⟩ := List.mem_map.mp hp
  show q.1.reverse.length ≤ n
  rw [List.length_reverse]
  exact h q (List.mem_reverse.mp hq)
theorem Fr.ne {H : Hp} {a x : Addr} {o : HO} (h : H a = some o) (z : Fr H x) : x ≠ a := fun e => by
  have z' : H x = none := z
  rw [e, h] at z'
  cases z'
section
variable {P : Program} {w : World} {K : PySem.W.Frag} {mg : Str → Option Value} {base : Heap}
theorem ok_turnT (T : Txt K mg) : FnOk P w K mg base CX0 1 T.a_turned_land T.d_turned_land ["land"] spTurnT := by
  refine T.F_turned_land.ok sc_turned_land (fun vs H Q E h => ?_) (fun cdv A outer s H vs Q E hr h => ?_)
  · obtain ⟨F, v, m, ws, rfl, _⟩ := h
    rfl
  · obtain ⟨F, v, m, ws, rfl, hv, hn, k⟩ := h
    obtain ⟨p, q, vs, rfl, _, _, e1, e2, e3⟩ := hv.land
    refine ⟨_, (pss_one (ps_ret (pe_tup (pa_cons (pe_ix ix_tup (pv 0) (pe_glob (v := V.int 0) rfl T.mg_MANY ⟨_, rfl⟩) (fun _ _ => rfl)) (pa_cons (pe_comp (CompSc.new (N := ["land"]) (osc := defScope s_turned_land) (by decide +kernel)) rfl (pi_list (pe_ix ix_tup (pv 0) (pe_glob (v := V.int 1) rfl T.mg_WAYS ⟨_, rfl⟩) (fun _ _ => rfl))) (fun _ => pts_nil) (fun _ => (pe_tup (pa_cons (pe_ix ix_tup (pv 1) (pe_glob (v := V.int 1) rfl T.mg_END ⟨_, rfl⟩) (fun _ _ => rfl)) (pa_cons (pe_ix ix_tup (pv 1) (pe_glob (v := V.int 0) rfl T.mg_START ⟨_, rfl⟩) (fun _ _ => rfl)) (pa_cons (pe_ix ix_tup (pv 1) (pe_glob (v := V.int 2) rfl T.mg_CHANGE ⟨_, rfl⟩) (fun _ _ => rfl)) pa_nil se_Subscript) se_Subscript) se_Subscript)))) pa_nil se_ListComp) se_Subscript)))), ?_⟩
    refine ⟨_, rfl, p, _, _, _, rfl, rfl, SqT.of e1, rfl, _, rfl, p, _, _, _, rfl, rfl, SqT.of e1, rfl, q, rfl, ⟨_, SqL.of e2⟩, ?_⟩
    refine comp_list (K := K) (a0 := q) (xs := vs) (fun i ys H2 => Same H H2 ∧ ThVs (Fr H) H2 ys (((ws.take i).map turnW).map wayD)) (small1000 (by rw [e3.len, List.length_map]; omega)) ⟨Same.refl H, .nil⟩ ?_ ?_ ?_
    · rintro i ys H2 hi ⟨s2, h2⟩
      exact ⟨by rw [h2.len, List.length_map, List.length_map, List.length_take]; omega, SqL.of (s2 _ _ e2)⟩
    · rintro i y ys H2 hi ⟨s2, h2⟩ ca
      obtain ⟨d, ed, td⟩ := e3.get hi
      rw [List.getElem?_map] at ed
      obtain ⟨w', ew, rfl⟩ : ∃ w', ws[i]? = some w' ∧ wayD w' = d := by
        cases z : ws[i]? with
        | none => rw [z] at ed; cases ed
        | some w' => rw [z] at ed; exact ⟨w', rfl, Option.some.inj ed⟩
      obtain ⟨t, rfl, et⟩ := td.way
      have et2 := s2 _ _ et
      refine tTrue_in ⟨_, rfl, t, _, _, _, rfl, rfl, SqT.of et2, rfl, _, rfl, t, _, _, _, rfl, rfl, SqT.of et2, rfl, _, rfl, t, _, _, _, rfl, rfl, SqT.of et2, rfl, (by show 3 ≤ sizeLine; decide), fun u hu => ?_⟩
      refine ⟨s2.lay hu, ?_⟩
      rw [List.take_add_one, ew, List.map_append, List.map_append]
      exact (h2.same ((Same.refl H2).lay hu)).append (.cons (.tup (s2.free hu) upd_same (.cons (.int _) (.cons (.int _) (.cons (.int _) .nil)))) .nil)
    · rintro ys H2 ⟨s2, h2⟩ r hr0
      refine ⟨(by show 2 ≤ sizeLine; decide), fun z hz => ?_⟩
      rw [e3.len, List.length_map, List.take_length] at h2
      have s3 := s2.lay (o := .lst ys) hr0
      have s4 : Same (upd H2 r (.lst ys)) (upd (upd H2 r (.lst ys)) z (.tup [.int m, .ref r])) := (Same.refl _).lay hz
      exact k _ _ (.tup (s3.free hz) upd_same (.cons (.int m) (.cons (.lst (s2.free hr0) (s4 _ _ upd_same) ((h2.same ((Same.refl H2).lay hr0)).same s4)) .nil))) (s3.trans s4)
theorem ok_back (T : Txt K mg) : FnOk P w K mg base CX0 1 T.a_backward T.d_backward ["trip"] spBack := by
  refine T.F_backward.ok sc_backward (fun vs H Q E h => ?_) (fun cdv A outer s H vs Q E hr h => ?_)
  · obtain ⟨F, u, ps, rfl, _⟩ := h
    rfl
  · obtain ⟨F, u, ps, rfl, hu, hn, k⟩ := h
    obtain ⟨tp, us, rfl, _, e1, e2⟩ := hu.trip
    have e2r := e2.revP
    have lu : us.length = ps.length := by rw [e2.len, List.length_map]
    refine ⟨_, (pss_one (ps_ret (pe_comp (CompSc.new (N := ["trip"]) (osc := defScope s_backward) (by decide +kernel)) rfl (pi_rev rfl T.n_reversed (pa_cons (pv 0) pa_nil se_Name)) (fun _ => pts_nil) (fun _ => (pe_tup (pa_cons (pe_lrev rfl T.n_list rfl T.n_reversed rfl (pa_cons (pe_ix ix_tup (pv 1) (pe_glob (v := V.int 0) rfl T.mg_NUMBERS ⟨_, rfl⟩) (fun _ _ => rfl)) pa_nil se_Subscript)) (pa_cons (pe_ix ix_tup (pv 1) (pe_glob (v := V.int 1) rfl T.mg_TIMES ⟨_, rfl⟩) (fun _ _ => rfl)) pa_nil se_Subscript) se_Call)))))), ?_⟩
    refine ⟨_, rfl, tp, us, rfl, SqL.of e1, ?_⟩
    refine comp_rev (K := K) (a0 := tp) (xs := us) (fun i ys H2 => Same H H2 ∧ ThVs (Fr H) H2 ys (((bkT ps).take i).map partD)) (small1000 (by omega)) ⟨Same.refl H, .nil⟩ ?_ ?_ ?_
    · rintro i ys H2 hi ⟨s2, h2⟩
      exact ⟨by rw [h2.len, List.length_map, List.length_take]; omega, SqL.of (s2 _ _ e1)⟩
    · rintro i y ys H2 hi ⟨s2, h2⟩ ca
      obtain ⟨d, ed, td⟩ := e2r.get hi
      rw [List.getElem?_map] at ed
      obtain ⟨p, ep, rfl⟩ : ∃ p, ps.reverse[i]? = some p ∧ partD p = d := by
        cases z : ps.reverse[i]? with
        | none => rw [z] at ed; cases ed
        | some p => rw [z] at ed; exact ⟨p, rfl, Option.some.inj ed⟩
      obtain ⟨pp, pq, rfl, _, _, g1, g2⟩ := (td.same s2).part
      refine tTrue_in ⟨_, rfl, pp, _, _, _, rfl, rfl, SqT.of g1, rfl, pq, _, rfl, SqL.of g2, fun n1 hn1 => ?_⟩
      rw [← List.map_reverse]
      have g1' := up (x := .lst (p.1.reverse.map V.int)) g1 hn1
      refine ⟨_, rfl, pp, _, _, _, rfl, rfl, SqT.of g1', rfl, (by show 2 ≤ sizeLine; decide), fun t1 ht1 => ?_⟩
      have s3 := (s2.lay (o := .lst (p.1.reverse.map V.int)) hn1)
      refine ⟨s3.lay ht1, ?_⟩
      have eb : (bkT ps)[i]? = some (rvP p) := by
        unfold bkT
        rw [List.getElem?_map, ep]
        rfl
      rw [List.take_add_one, eb, List.map_append]
      exact (h2.same (((Same.refl H2).lay hn1).lay ht1)).append (.cons (th_part (ns := p.1.reverse) (x := p.2) (s3.free ht1) (s2.free hn1) upd_same (up upd_same ht1)) .nil)
    · rintro ys H2 ⟨s2, h2⟩ r hr0
      have lb : (bkT ps).length = us.length := by unfold bkT; rw [List.length_map, List.length_reverse, lu]
      rw [← lb, List.take_length] at h2
      exact k r ys _ (s2.free hr0) upd_same (h2.mv fun b o z e => ⟨⟨z, ne_of_none e hr0⟩, up e hr0⟩) (s2.lay hr0)
theorem ok_istrip (T : Txt K mg) : FnOk P w K mg base CX0 1 T.a_is_trip T.d_is_trip ["_law_found", "_law_due"] spIsTrip := by
  refine T.F_is_trip.ok sc_is_trip (fun vs H Q E h => ?_) (fun cdv A outer s H vs Q E hr h => ?_)
  · obtain ⟨F, G, u, u', ps, rfl, _⟩ := h
    rfl
  · obtain ⟨F, G, u, u', ps, rfl, hu, hu', k⟩ := h
    obtain ⟨tp, us, rfl, _, e1, e2⟩ := id hu.trip
    refine ⟨_, (pss_cons (ps_mid (ps_if (PW.pt (pw_or (pt_not (pt_val (pe_callB call_isinst rfl T.n_isinstance bt_isinstance (pa_cons (pv 0) (pa_cons (pe_bltn (v := V.ty "list") rfl T.n_list bt_list rfl) pa_nil se_Name) se_Name) (he := se_Name) (hpl := (np_cons se_Name np_nil))))) (pw_or1 (pt_cmpR (op_neD (units_of hr)) (pv 0) (pv 1) (nomark _)))))
      (pss_one (ps_ret pe_bl))
      pss_nil))
      (pss_cons (ps_for PassesOwn.never rfl (pi_list (pv 0)) (pg_name (i := 2) sc_is_trip.nd rfl (Or.inl rfl))
      (pss_one (ps_if (PW.pt (pw_or (pt_not (pt_val (pe_callB call_isinst rfl T.n_isinstance bt_isinstance (pa_cons (pv 2) (pa_cons (pe_bltn (v := V.ty "tuple") rfl T.n_tuple bt_tuple rfl) pa_nil se_Name) se_Name) (he := se_Name) (hpl := (np_cons se_Name np_nil))))) (pw_or1 (pt_not (pt_val (pe_callB call_isinst rfl T.n_isinstance bt_isinstance (pa_cons (pe_ix ix_tup (pv 2) pe_int (fun _ _ => rfl)) (pa_cons (pe_bltn (v := V.ty "list") rfl T.n_list bt_list rfl) pa_nil se_Name) se_Subscript) (he := se_Subscript) (hpl := (np_cons se_Name np_nil))))))))
      (pss_one (ps_ret pe_bl))
      pss_nil)))
      (pss_one (ps_ret pe_bl)))), ?_⟩
    refine ⟨fun σ H2 => H = H2 ∧ σ = [some (.ref tp), some u', none], ?_, ?_⟩
    · refine ⟨_, rfl, _, _, .type "list", .type "list", true, rfl, rfl, .lst e1, by with_unfolding_all rfl, _, rfl, iteF ?_⟩
      exact ⟨_, rfl, _, rfl, eqD_th hu hu' (tripD_lay ps) (tripD_depth ps) ⟨_, rfl, iteF ⟨rfl, rfl⟩⟩⟩
    · rintro σ H2 ⟨rfl, rfl⟩
      refine ⟨_, rfl, tp, rfl, ⟨_, SqL.of e1⟩, for_list (K := K) (a := tp) (xs := us) (fun i σ H2 => H = H2 ∧ ∃ v1 : Option V, σ = [some (.ref tp), some u', v1])
        ⟨rfl, none, rfl⟩ (fun i σ H2 _ ⟨e, _⟩ => by rw [← e]; exact SqL.of e1) ?_ ?_⟩
      · rintro i y σ H2 hi ⟨rfl, v1, rfl⟩
        obtain ⟨d, ed, td⟩ := e2.get hi
        rw [List.getElem?_map] at ed
        obtain ⟨p, ep, rfl⟩ : ∃ p, ps[i]? = some p ∧ partD p = d := by
          cases z : ps[i]? with
          | none => rw [z] at ed; cases ed
          | some p => rw [z] at ed; exact ⟨p, rfl, Option.some.inj ed⟩
        obtain ⟨pp, pq, rfl, _, _, g1, g2⟩ := td.part
        refine ⟨_, rfl, _, _, .type "tuple", .type "tuple", true, rfl, rfl, .tup g1, by with_unfolding_all rfl, _, rfl, iteF ?_⟩
        exact ⟨_, rfl, pp, _, _, _, rfl, rfl, SqT.of g1, rfl, _, _, .type "list", .type "list", true, rfl, rfl, .lst g2, by with_unfolding_all rfl, _, rfl, iteF ⟨rfl, _, rfl⟩⟩
      · rintro σ H2 ⟨rfl, v1, rfl⟩
        exact k
theorem ok_comes (T : Txt K mg) : FnOk P w K mg base CX0 8 T.a_comes T.d_comes ["_law_land_here", "_law_store_here", "_law_place", "_law_trip_here", "_law_x", "_law_y"] spComes := by
  have G_arrival : FnOk P w K mg base CX0 7 T.a_arrival T.d_arrival ["land", "store", "place", "level", "trip"] spArr := ok_arr T
  have b_arrival := bd_arrival T
  refine T.F_comes.ok sc_comes (fun vs H Q E h => ?_) (fun cdv A outer s H vs Q E hr h => ?_)
  · obtain ⟨F, v, u, m, ws, st, pl, r, x, y, ps, rfl, _⟩ := h
    rfl
  · obtain ⟨F, v, u, m, ws, st, pl, r, x, y, ps, rfl, hv, hu, ho, hb, st0, k⟩ := h
    refine ⟨_, (pss_cons (ps_set (i := 6) sc_comes.nd rfl (Or.inl rfl) (pe_call G_arrival (hr.mono (by decide)) rfl T.mg_arrival T.kp_arrival b_arrival .nil pass0 (pa_cons (pv 0) (pa_cons (pv 1) (pa_cons (pv 2) (pa_cons (pv 4) (pa_cons (pv 3) pa_nil se_Name) se_Name) se_Name) se_Name) se_Name) (he := se_Name) (hpl := (np_cons se_Name (np_cons se_Name (np_cons se_Name (np_cons se_Name np_nil)))))))
      (pss_one (ps_ret (pe_and (pe_cmpR op_notN (pv 6) pe_non (nomark _)) (pe_one (pe_cmpR op_ge (pv 6) (pv 5) (nomark _))))))), ?_⟩
    refine ⟨_, rfl, _, rfl, _, rfl, _, rfl, _, rfl, F, v, u, m, ws, st, pl, r, x, ps, rfl, hv, hu, ho, hb, st0, fun H1 s1 => ?_⟩
    have k1 := k H1 s1
    cases e : passF (effB ws st ps) x with
    | none =>
      rw [e] at k1
      exact ⟨_, rfl, rfl, _, rfl, iteF k1⟩
    | some z =>
      rw [e] at k1
      exact ⟨_, rfl, rfl, _, rfl, iteT ⟨_, rfl, _, rfl, _, _, rfl, rfl, k1⟩⟩
theorem ok_lvr (T : Txt K mg) : FnOk P w K mg base CX0 9 T.a_levels_right T.d_levels_right ["_law_hand_here", "_law_land_here", "_law_store_here", "_law_place", "_law_end", "_law_trip_here", "_law_back"] spLvR := by
  have G_turned_land : FnOk P w K mg base CX0 1 T.a_turned_land T.d_turned_land ["land"] spTurnT := ok_turnT T
  have G_arrival : FnOk P w K mg base CX0 7 T.a_arrival T.d_arrival ["land", "store", "place", "level", "trip"] spArr := ok_arr T
  have G_level : FnOk P w K mg base CX0 4 T.a_level T.d_level ["_law_hand_here", "_law_store_here"] spLevel := ok_level T
  have G_draw : FnOk P w K mg base CX0 3 T.a_draw T.d_draw ["_law_hand_here", "_law_many"] spDraw := ok_draw T
  have G_comes : FnOk P w K mg base CX0 8 T.a_comes T.d_comes ["_law_land_here", "_law_store_here", "_law_place", "_law_trip_here", "_law_x", "_law_y"] spComes := ok_comes T
  have b_turned_land := bd_turned_land T
  have b_arrival := bd_arrival T
  have b_level := bd_level T
  have b_draw := bd_draw T
  have b_comes := bd_comes T
  refine T.F_levels_right.ok sc_levels_right (fun vs H Q E h => ?_) (fun cdv A outer s H vs Q E hr h => ?_)
  · obtain ⟨a, l, v, u, u', m, ws, st, pl, r, ps, rfl, _⟩ := h
    rfl
  · obtain ⟨a, l, v, u, u', m, ws, st, pl, r, ps, rfl, hd, hv, hu, hu', ho, hwl, hb, st0, st1, k⟩ := h
    have oE : OkE st (effB ws st ps) := effB_ok st0 ps (unit_ok st0)
    have ho' := okT_rev ho
    have hb' := bkT_len hb
    refine ⟨_, (pss_cons (ps_set (i := 7) sc_levels_right.nd rfl (Or.inl rfl) (pe_call G_turned_land (hr.mono (by decide)) rfl T.mg_turned_land T.kp_turned_land b_turned_land .nil pass0 (pa_cons (pv 1) pa_nil se_Name) (he := se_Name) (hpl := np_nil)))
      (pss_cons (ps_set (i := 8) sc_levels_right.nd rfl (Or.inl rfl) (pe_call G_arrival (hr.mono (by decide)) rfl T.mg_arrival T.kp_arrival b_arrival .nil pass0 (pa_cons (pv 1) (pa_cons (pv 2) (pa_cons (pv 3) (pa_cons (pv 2) (pa_cons (pv 5) pa_nil se_Name) se_Name) se_Name) se_Name) se_Name) (he := se_Name) (hpl := (np_cons se_Name (np_cons se_Name (np_cons se_Name (np_cons se_Name np_nil)))))))
      (pss_cons (ps_for PassesOwn.never rfl (pi_range1 rfl T.n_range (pa_cons pe_int pa_nil se_Constant)) (pg_name (i := 9) sc_levels_right.nd rfl (Or.inl rfl))
      (pss_cons (ps_set (i := 10) sc_levels_right.nd rfl (Or.inl rfl) (pe_call G_level (hr.mono (by decide)) rfl T.mg_level T.kp_level b_level .nil pass0 (pa_cons (pv 0) (pa_cons (pv 2) pa_nil se_Name) se_Name) (he := se_Name) (hpl := (np_cons se_Name np_nil))))
      (pss_cons (ps_set (i := 11) sc_levels_right.nd rfl (Or.inl rfl) (pe_call G_level (hr.mono (by decide)) rfl T.mg_level T.kp_level b_level .nil pass0 (pa_cons (pv 0) (pa_cons (pv 2) pa_nil se_Name) se_Name) (he := se_Name) (hpl := (np_cons se_Name np_nil))))
      (pss_cons (ps_mid (ps_if (PW.pt (pw_and (pt_cmpR op_gt (pv 9) pe_int (nomark _)) (pw_and1 (pt_cmpR op_notN (pe_call G_arrival (hr.mono (by decide)) rfl T.mg_arrival T.kp_arrival b_arrival .nil pass0 (pa_cons (pv 1) (pa_cons (pv 2) (pa_cons (pv 3) (pa_cons (pv 10) (pa_cons (pv 5) pa_nil se_Name) se_Name) se_Name) se_Name) se_Name) (he := se_Name) (hpl := (np_cons se_Name (np_cons se_Name (np_cons se_Name (np_cons se_Name np_nil)))))) pe_non (nomark _)))))
      (pss_one (ps_set (i := 11) sc_levels_right.nd rfl (Or.inl rfl) (pe_callB (call_min2 rfl) rfl T.n_min bt_min (pa_cons (pv 2) (pa_cons (pe_op op_add (pe_call G_arrival (hr.mono (by decide)) rfl T.mg_arrival T.kp_arrival b_arrival .nil pass0 (pa_cons (pv 1) (pa_cons (pv 2) (pa_cons (pv 3) (pa_cons (pv 10) (pa_cons (pv 5) pa_nil se_Name) se_Name) se_Name) se_Name) se_Name) (he := se_Name) (hpl := (np_cons se_Name (np_cons se_Name (np_cons se_Name (np_cons se_Name np_nil)))))) (pe_call G_draw (hr.mono (by decide)) rfl T.mg_draw T.kp_draw b_draw .nil pass0 (pa_cons (pv 0) (pa_cons pe_int pa_nil se_Constant) se_Name) (he := se_Name) (hpl := (np_cons se_Constant np_nil)))) pa_nil se_BinOp) se_Name) (he := se_Name) (hpl := (np_cons se_BinOp np_nil)))))
      pss_nil))
      (pss_cons (ps_mid (ps_if (PW.pt (pw_and (pt_cmpR op_eq (pv 9) pe_int (nomark _)) (pw_and1 (pt_cmpR op_notN (pv 8) pe_non (nomark _)))))
      (pss_one (ps_set (i := 11) sc_levels_right.nd rfl (Or.inl rfl) (pv 8)))
      pss_nil))
      (pss_one (ps_if (pt_cmpR op_ne (pe_call G_comes (hr.mono (by decide)) rfl T.mg_comes T.kp_comes b_comes .nil pass0 (pa_cons (pv 1) (pa_cons (pv 2) (pa_cons (pv 3) (pa_cons (pv 5) (pa_cons (pv 10) (pa_cons (pv 11) pa_nil se_Name) se_Name) se_Name) se_Name) se_Name) se_Name) (he := se_Name) (hpl := (np_cons se_Name (np_cons se_Name (np_cons se_Name (np_cons se_Name (np_cons se_Name np_nil))))))) (pe_call G_comes (hr.mono (by decide)) rfl T.mg_comes T.kp_comes b_comes .nil pass0 (pa_cons (pv 7) (pa_cons (pv 2) (pa_cons (pv 4) (pa_cons (pv 6) (pa_cons (pe_op op_sub (pv 2) (pv 11)) (pa_cons (pe_op op_sub (pv 2) (pv 10)) pa_nil se_BinOp) se_BinOp) se_Name) se_Name) se_Name) se_Name) (he := se_Name) (hpl := (np_cons se_Name (np_cons se_Name (np_cons se_Name (np_cons se_BinOp (np_cons se_BinOp np_nil))))))) (nomark _))
      (pss_one (ps_ret pe_bl))
      pss_nil)))))))
      (pss_one (ps_ret pe_bl))))), ?_⟩
    refine ⟨_, rfl, NH a, v, m, ws, rfl, hv, by omega, fun tv H1 htv s1 => ?_⟩
    obtain ⟨oh, eh⟩ := hd.at1
    have htv' : ThV (NH a) H1 tv (landD m (ws.map turnW)) := htv.mv fun b o z e => ⟨Fr.ne eh z, e⟩
    refine ⟨_, rfl, _, rfl, _, rfl, _, rfl, _, rfl, NH a, v, u, m, ws, st, pl, r, st, ps, rfl, hv.same s1, hu.same s1, ho, hb, st0, fun H2 s2 => ?_⟩
    have s12 := s1.trans s2
    refine ⟨6, rfl, by decide, by decide, for_range (n := 6) (fun i σ H3 => ∃ v1 v2 v3 : Option V, σ = [some (.ref a), some v, some (.int st), some (.int pl), some (.int r), some u, some u', some tv, some (oV (passF (effB ws st ps) st)), v1, v2, v3] ∧ Hd H3 a l ∧ Kp a H H3 ∧ ThV (NH a) H3 tv (landD m (ws.map turnW)))
      ⟨none, none, none, rfl, hd.same s12, s12.kp, htv'.same s2⟩ ?_ ?_⟩
    · rintro i σ H3 hi ⟨v1, v2, v3, rfl, d3, k3, ht3⟩
      refine ⟨_, rfl, _, rfl, a, l, st, rfl, d3, st0, st1, fun x H4 x0 x1 d4 k4 => ?_⟩
      refine ⟨_, rfl, _, rfl, a, l, st, rfl, d4, st0, st1, fun y H5 y0 y1 d5 k5 => ?_⟩
      have k05 := (k3.trans k4).trans k5
      have ht5 := (ht3.kp k4).kp k5
      refine ⟨fun σ H6 => ∃ y : Int, σ = [some (.ref a), some v, some (.int st), some (.int pl), some (.int r), some u, some u', some tv, some (oV (passF (effB ws st ps) st)), some (.int (0 + (i : Int))), some (.int x), some (.int y)] ∧ 0 ≤ y ∧ y ≤ st ∧ Hd H6 a l ∧ Kp a H5 H6, ?_, ?_⟩
      · refine ⟨_, rfl, _, _, rfl, rfl, _, rfl, ?_⟩
        by_cases c : (0 + (i : Int)) > 2
        · refine iteP c ?_
          refine ⟨_, rfl, _, rfl, _, rfl, _, rfl, _, rfl, NH a, v, u, m, ws, st, pl, r, x, ps, rfl, hv.kp k05, hu.kp k05, ho, hb, st0, fun H6 s6 => ?_⟩
          have d6 := d5.same s6
          cases e : passF (effB ws st ps) x with
          | none => exact ⟨rfl, _, rfl, iteF ⟨y, rfl, y0, y1, d6, s6.kp⟩⟩
          | some z =>
            obtain ⟨z0, z1⟩ := pass_bd oE e
            refine ⟨rfl, _, rfl, iteT ?_⟩
            have k06 := k05.trans s6.kp
            refine ⟨_, rfl, _, rfl, _, rfl, _, rfl, _, rfl, _, rfl, NH a, v, u, m, ws, st, pl, r, x, ps, rfl, hv.kp k06, hu.kp k06, ho, hb, st0, fun H7 s7 => ?_⟩
            rw [e]
            refine ⟨_, rfl, a, l, 2, rfl, d6.same s7, by decide, by decide, fun q H8 q0 q1 d8 k8 => ⟨_, _, rfl, rfl, _, _, rfl, ?_⟩⟩
            refine ⟨_, rfl, ?_, ?_, d8, (s6.trans s7).kp.trans k8⟩
            · split <;> omega
            · split <;> omega
        · exact iteN c (iteF ⟨y, rfl, y0, y1, d5, Kp.refl a _⟩)
      · rintro σ H6 ⟨y, rfl, y0, y1, d6, k6⟩
        refine ⟨fun σ H7 => H6 = H7 ∧ ∃ y : Int, σ = [some (.ref a), some v, some (.int st), some (.int pl), some (.int r), some u, some u', some tv, some (oV (passF (effB ws st ps) st)), some (.int (0 + (i : Int))), some (.int x), some (.int y)] ∧ 0 ≤ y ∧ y ≤ st, ?_, ?_⟩
        · refine ⟨_, rfl, rfl, _, rfl, ?_⟩
          by_cases c : V.int (0 + (i : Int)) = V.int 5
          · refine iteP c ?_
            cases e : passF (effB ws st ps) st with
            | none => exact ⟨_, rfl, rfl, _, rfl, iteF ⟨rfl, y, rfl, y0, y1⟩⟩
            | some z =>
              obtain ⟨z0, z1⟩ := pass_bd oE e
              exact ⟨_, rfl, rfl, _, rfl, iteT ⟨_, rfl, rfl, z, rfl, z0, z1⟩⟩
          · exact iteN c (iteF ⟨rfl, y, rfl, y0, y1⟩)
        · rintro σ H7 ⟨rfl, y, rfl, y0, y1⟩
          have k06 := k05.trans k6
          have ht6 := ht5.kp k6
          refine ⟨_, rfl, _, rfl, _, rfl, _, rfl, _, rfl, _, rfl, NH a, v, u, m, ws, st, pl, r, x, y, ps, rfl, hv.kp k06, hu.kp k06, ho, hb, st0, fun H8 s8 => ?_⟩
          refine ⟨_, rfl, _, rfl, _, rfl, _, rfl, _, rfl, _, rfl, _, _, rfl, rfl, _, rfl, _, rfl, _, _, rfl, rfl, NH a, tv, u', m, ws.map turnW, st, r, pl, st - y, st - x, bkT ps, rfl, ht6.same s8, (hu'.kp k06).same s8, ho', hb', st0, fun H9 s9 => ?_⟩
          rw [effB_rev st0]
          exact ⟨rfl, _, rfl, iteNS (congrArg V.bl (come_e x0 x1 y0 y1 _)) ⟨_, _, _, rfl, (d6.same s8).same s9, (k06.trans s8.kp).trans s9.kp, (ht6.same s8).same s9⟩⟩
    · rintro σ H3 ⟨v1, v2, v3, rfl, d3, k3, ht3⟩
      exact k H3 d3 k3
end
section
variable {P : Program} {w : World} {K : PySem.W.Frag} {mg : Str → Option Value} {base : Heap}
theorem ok_law (T : Txt K mg) : FnOk P w K mg base CX0 10 T.a_law T.d_law ["_law_script"] (spLaw K) := by
  have G_hand : FnOk P w K mg base CX0 1 T.a_hand T.d_hand ["_law_script"] (spHand K) := ok_hand T
  have G_scale : FnOk P w K mg base CX0 4 T.a_scale T.d_scale ["_law_hand_here"] spScale := ok_scale T
  have G_land : FnOk P w K mg base CX0 5 T.a_land T.d_land ["_law_hand_here", "_law_places", "_law_ways", "_law_scale_here"] spLand := ok_land T
  have G_store : FnOk P w K mg base CX0 4 T.a_store T.d_store ["_law_hand_here", "_law_scale_here"] spStore := ok_store T
  have G_draw : FnOk P w K mg base CX0 3 T.a_draw T.d_draw ["_law_hand_here", "_law_many"] spDraw := ok_draw T
  have G_trip : FnOk P w K mg base CX0 4 T.a_trip T.d_trip ["_law_hand_here", "_law_land_here", "_law_place", "_law_parts", "_law_times"] spTrip := ok_trip T
  have G_backward : FnOk P w K mg base CX0 1 T.a_backward T.d_backward ["trip"] spBack := ok_back T
  have G_is_trip : FnOk P w K mg base CX0 1 T.a_is_trip T.d_is_trip ["_law_found", "_law_due"] spIsTrip := ok_istrip T
  have G_end_of : FnOk P w K mg base CX0 5 T.a_end_of T.d_end_of ["land", "place", "trip"] spEnd := ok_end T
  have G_length_of : FnOk P w K mg base CX0 6 T.a_length_of T.d_length_of ["land", "place", "trip"] spLen := ok_len T
  have G_turned_land : FnOk P w K mg base CX0 1 T.a_turned_land T.d_turned_land ["land"] spTurnT := ok_turnT T
  have G_effect_by : FnOk P w K mg base CX0 6 T.a_effect_by T.d_effect_by ["land", "store", "place", "trip"] (spEffBy K) := ok_effby T
  have G_mirrored : FnOk P w K mg base CX0 1 T.a_mirrored T.d_mirrored ["store", "effect"] (spMir K) := ok_mirrored T
  have G_levels_right : FnOk P w K mg base CX0 9 T.a_levels_right T.d_levels_right ["_law_hand_here", "_law_land_here", "_law_store_here", "_law_place", "_law_end", "_law_trip_here", "_law_back"] spLvR := ok_lvr T
  have b_hand := bd_hand T
  have b_scale := bd_scale T
  have b_land := bd_land T
  have b_store := bd_store T
  have b_draw := bd_draw T
  have b_trip := bd_trip T
  have b_backward := bd_backward T
  have b_is_trip := bd_is_trip T
  have b_end_of := bd_end_of T
  have b_length_of := bd_length_of T
  have b_turned_land := bd_turned_land T
  have b_effect_by := bd_effect_by T
  have b_mirrored := bd_mirrored T
  have b_levels_right := bd_levels_right T
  refine T.F_law.ok sc_law (fun vs H Q E h => ?_) (fun cdv A outer s H vs Q E hr h => ?_)
  · obtain ⟨a, ns, rfl, _⟩ := h
    rfl
  · obtain ⟨a, ns, rfl, hS, hlen, k⟩ := h
    refine ⟨_, (pss_cons (ps_set (i := 1) sc_law.nd rfl (Or.inl rfl) (pe_call G_hand (hr.mono (by decide)) rfl T.mg_hand T.kp_hand b_hand .nil pass0 (pa_cons (pv 0) pa_nil se_Name) (he := se_Name) (hpl := np_nil)))
      (pss_cons (ps_set (i := 2) sc_law.nd rfl (Or.inl rfl) (pe_call G_scale (hr.mono (by decide)) rfl T.mg_scale T.kp_scale b_scale .nil pass0 (pa_cons (pv 1) pa_nil se_Name) (he := se_Name) (hpl := np_nil)))
      (pss_cons (ps_set (i := 3) sc_law.nd rfl (Or.inl rfl) (pe_callTy call_int1 rfl T.n_int bt_int (pa_cons (pe_cmpR op_eq (pe_call G_draw (hr.mono (by decide)) rfl T.mg_draw T.kp_draw b_draw .nil pass0 (pa_cons (pv 1) (pa_cons pe_int pa_nil se_Constant) se_Name) (he := se_Name) (hpl := (np_cons se_Constant np_nil))) pe_int (nomark _)) pa_nil se_Compare) (he := se_Compare) (hpl := np_nil)))
      (pss_cons (ps_set (i := 4) sc_law.nd rfl (Or.inl rfl) (pe_call G_land (hr.mono (by decide)) rfl T.mg_land T.kp_land b_land .nil pass0 (pa_cons (pv 1) (pa_cons (pe_ix ix_list (pe_lst (pa_cons pe_int (pa_cons pe_int pa_nil se_Constant) se_Constant)) (pv 3) (fun _ _ => rfl)) (pa_cons (pe_ix ix_list (pe_lst (pa_cons pe_int (pa_cons pe_int pa_nil se_Constant) se_Constant)) (pv 3) (fun _ _ => rfl)) (pa_cons (pv 2) pa_nil se_Name) se_Subscript) se_Subscript) se_Name) (he := se_Name) (hpl := (np_cons se_Subscript (np_cons se_Subscript (np_cons se_Name np_nil))))))
      (pss_cons (ps_set (i := 5) sc_law.nd rfl (Or.inl rfl) (pe_call G_store (hr.mono (by decide)) rfl T.mg_store T.kp_store b_store .nil pass0 (pa_cons (pv 1) (pa_cons (pv 2) pa_nil se_Name) se_Name) (he := se_Name) (hpl := (np_cons se_Name np_nil))))
      (pss_cons (ps_set (i := 6) sc_law.nd rfl (Or.inl rfl) (pe_call G_draw (hr.mono (by decide)) rfl T.mg_draw T.kp_draw b_draw .nil pass0 (pa_cons (pv 1) (pa_cons (pe_ix ix_tup (pv 4) pe_int (fun _ _ => rfl)) pa_nil se_Subscript) se_Name) (he := se_Name) (hpl := (np_cons se_Subscript np_nil))))
      (pss_cons (ps_set (i := 7) sc_law.nd rfl (Or.inl rfl) (pe_call G_trip (hr.mono (by decide)) rfl T.mg_trip T.kp_trip b_trip .nil pass0 (pa_cons (pv 1) (pa_cons (pv 4) (pa_cons (pv 6) (pa_cons (pe_ix ix_list (pe_lst (pa_cons pe_int (pa_cons pe_int pa_nil se_Constant) se_Constant)) (pv 3) (fun _ _ => rfl)) (pa_cons (pe_ix ix_list (pe_lst (pa_cons pe_int (pa_cons (pe_op op_pow pe_int pe_int) pa_nil se_BinOp) se_Constant)) (pe_call G_draw (hr.mono (by decide)) rfl T.mg_draw T.kp_draw b_draw .nil pass0 (pa_cons (pv 1) (pa_cons pe_int pa_nil se_Constant) se_Name) (he := se_Name) (hpl := (np_cons se_Constant np_nil))) (fun _ _ => rfl)) pa_nil se_Subscript) se_Subscript) se_Name) se_Name) se_Name) (he := se_Name) (hpl := (np_cons se_Name (np_cons se_Name (np_cons se_Subscript (np_cons se_Subscript np_nil)))))))
      (pss_cons (ps_set (i := 8) sc_law.nd rfl (Or.inl rfl) (pe_lst pa_nil))
      (pss_cons (ps_for PassesOwn.never rfl (pi_list (pe_rev (pv 7) (po_some (pe_un un_neg pe_int)))) (pg_tup (n := 2) rfl (pgs_cons (pg_name (i := 9) sc_law.nd rfl (Or.inl rfl)) (pgs_cons (pg_name (i := 10) sc_law.nd rfl (Or.inl rfl)) pgs_nil)))
      (pss_one (ps_expr (pe_bm PySem.F.plainAttrs_list PySem.F.slot_list_append PySem.F.type_list_append mt_append (pv 8) (pa_cons (pe_tup (pa_cons (pe_rev (pv 9) (po_some (pe_un un_neg pe_int))) (pa_cons (pv 10) pa_nil se_Name) se_Subscript)) pa_nil se_Tuple)))))
      (pss_cons (ps_setC3 (i := 11) sc_law.nd rfl (Or.inl rfl) (CompSc3.new (N := ["_law_script", "_law_hand_here", "_law_scale_here", "_law_great", "_law_land_here", "_law_store_here", "_law_place", "_law_trip_here", "_law_due", "_law_numbers", "_law_times", "_law_kept", "_law_back", "_law_end", "_law_turned", "_law_one", "_law_other"]) (osc := defScope s_law) (j1 := 9) (j2 := 10) (by decide +kernel)) rfl (pi_list (pv 7)) (fun _ => pts_nil) (fun _ => (pe_tup (pa_cons (pe_callTy call_list_of rfl T.n_list bt_list (pa_cons (pv 9) pa_nil se_Name) (he := se_Name) (hpl := np_nil)) (pa_cons (pv 10) pa_nil se_Name) se_Call))))
      (pss_cons (ps_set (i := 12) sc_law.nd rfl (Or.inl rfl) (pe_call G_backward (hr.mono (by decide)) rfl T.mg_backward T.kp_backward b_backward .nil pass0 (pa_cons (pv 7) pa_nil se_Name) (he := se_Name) (hpl := np_nil)))
      (pss_cons (ps_mid (ps_if (PW.pt (pw_or (pt_not (pt_val (pe_call G_is_trip (hr.mono (by decide)) rfl T.mg_is_trip T.kp_is_trip b_is_trip .nil pass0 (pa_cons (pv 12) (pa_cons (pv 8) pa_nil se_Name) se_Name) (he := se_Name) (hpl := (np_cons se_Name np_nil))))) (pw_or (pt_cmpR (op_neD (units_of hr)) (pv 7) (pv 11) (nomark _)) (pw_or1 (pt_not (pt_val (pe_call G_is_trip (hr.mono (by decide)) rfl T.mg_is_trip T.kp_is_trip b_is_trip .nil pass0 (pa_cons (pe_call G_backward (hr.mono (by decide)) rfl T.mg_backward T.kp_backward b_backward .nil pass0 (pa_cons (pv 12) pa_nil se_Name) (he := se_Name) (hpl := np_nil)) (pa_cons (pv 7) pa_nil se_Name) se_Call) (he := se_Call) (hpl := (np_cons se_Name np_nil)))))))))
      (pss_one (ps_ret pe_bl))
      pss_nil))
      (pss_cons (ps_set (i := 13) sc_law.nd rfl (Or.inl rfl) (pe_call G_end_of (hr.mono (by decide)) rfl T.mg_end_of T.kp_end_of b_end_of .nil pass0 (pa_cons (pv 4) (pa_cons (pv 6) (pa_cons (pv 7) pa_nil se_Name) se_Name) se_Name) (he := se_Name) (hpl := (np_cons se_Name (np_cons se_Name np_nil)))))
      (pss_cons (ps_set (i := 14) sc_law.nd rfl (Or.inl rfl) (pe_call G_turned_land (hr.mono (by decide)) rfl T.mg_turned_land T.kp_turned_land b_turned_land .nil pass0 (pa_cons (pv 4) pa_nil se_Name) (he := se_Name) (hpl := np_nil)))
      (pss_cons (ps_mid (ps_if (PW.pt (pw_or (pt_cmpR op_ne (pe_call G_end_of (hr.mono (by decide)) rfl T.mg_end_of T.kp_end_of b_end_of .nil pass0 (pa_cons (pv 14) (pa_cons (pv 13) (pa_cons (pv 12) pa_nil se_Name) se_Name) se_Name) (he := se_Name) (hpl := (np_cons se_Name (np_cons se_Name np_nil)))) (pv 6) (nomark _)) (pw_or1 (pt_cmpR op_ne (pe_call G_length_of (hr.mono (by decide)) rfl T.mg_length_of T.kp_length_of b_length_of .nil pass0 (pa_cons (pv 14) (pa_cons (pv 13) (pa_cons (pv 12) pa_nil se_Name) se_Name) se_Name) (he := se_Name) (hpl := (np_cons se_Name (np_cons se_Name np_nil)))) (pe_call G_length_of (hr.mono (by decide)) rfl T.mg_length_of T.kp_length_of b_length_of .nil pass0 (pa_cons (pv 4) (pa_cons (pv 6) (pa_cons (pv 7) pa_nil se_Name) se_Name) se_Name) (he := se_Name) (hpl := (np_cons se_Name (np_cons se_Name np_nil)))) (nomark _)))))
      (pss_one (ps_ret pe_bl))
      pss_nil))
      (pss_cons (ps_set (i := 15) sc_law.nd rfl (Or.inl rfl) (pe_call G_effect_by (hr.mono (by decide)) rfl T.mg_effect_by T.kp_effect_by b_effect_by .nil pass0 (pa_cons (pv 4) (pa_cons (pv 5) (pa_cons (pv 6) (pa_cons (pv 7) pa_nil se_Name) se_Name) se_Name) se_Name) (he := se_Name) (hpl := (np_cons se_Name (np_cons se_Name (np_cons se_Name np_nil))))))
      (pss_cons (ps_set (i := 16) sc_law.nd rfl (Or.inl rfl) (pe_call G_effect_by (hr.mono (by decide)) rfl T.mg_effect_by T.kp_effect_by b_effect_by .nil pass0 (pa_cons (pv 14) (pa_cons (pv 5) (pa_cons (pv 13) (pa_cons (pv 12) pa_nil se_Name) se_Name) se_Name) se_Name) (he := se_Name) (hpl := (np_cons se_Name (np_cons se_Name (np_cons se_Name np_nil))))))
      (pss_cons (ps_mid (ps_if (PW.pt (pw_or (pt_cmpR op_isN (pv 15) pe_non (nomark _)) (pw_or1 (pt_cmpR op_isN (pv 16) pe_non (nomark _)))))
      (pss_one (ps_ret (pe_and (pe_cmpR op_isN (pv 15) pe_non (nomark _)) (pe_one (pe_cmpR op_isN (pv 16) pe_non (nomark _))))))
      pss_nil))
      (pss_cons (ps_mid (ps_if (PW.pt (pw_or (pt_cmpR (op_neD (units_of hr)) (pv 16) (pe_tup (pa_cons (pe_op op_sub (pv 5) (pe_ix ix_tup (pv 15) pe_int (fun _ _ => rfl))) (pa_cons (pe_ix ix_tup (pv 15) pe_int (fun _ _ => rfl)) (pa_cons (pe_op op_sub (pv 5) (pe_ix ix_tup (pv 15) pe_int (fun _ _ => rfl))) pa_nil se_BinOp) se_Subscript) se_BinOp)) (nomark _)) (pw_or1 (pt_cmpR (op_neD (units_of hr)) (pv 16) (pe_call G_mirrored (hr.mono (by decide)) rfl T.mg_mirrored T.kp_mirrored b_mirrored .nil pass0 (pa_cons (pv 5) (pa_cons (pv 15) pa_nil se_Name) se_Name) (he := se_Name) (hpl := (np_cons se_Name np_nil))) (nomark _)))))
      (pss_one (ps_ret pe_bl))
      pss_nil))
      (pss_cons (ps_mid (ps_if (pt_not (pt_val (pe_call G_levels_right (hr.mono (by decide)) rfl T.mg_levels_right T.kp_levels_right b_levels_right .nil pass0 (pa_cons (pv 1) (pa_cons (pv 4) (pa_cons (pv 5) (pa_cons (pv 6) (pa_cons (pv 13) (pa_cons (pv 7) (pa_cons (pv 12) pa_nil se_Name) se_Name) se_Name) se_Name) se_Name) se_Name) se_Name) (he := se_Name) (hpl := (np_cons se_Name (np_cons se_Name (np_cons se_Name (np_cons se_Name (np_cons se_Name (np_cons se_Name np_nil))))))))))
      (pss_one (ps_ret pe_bl))
      pss_nil))
      (pss_cons (ps_for PassesOwn.never rfl (pi_list (pv 12)) (pg_tup (n := 2) rfl (pgs_cons (pg_name (i := 9) sc_law.nd rfl (Or.inl rfl)) (pgs_cons (pg_name (i := 10) sc_law.nd rfl (Or.inl rfl)) pgs_nil)))
      (pss_one (ps_expr (pe_bm PySem.F.plainAttrs_list PySem.F.slot_list_append PySem.F.type_list_append mt_append (pv 9) (pa_cons pe_int pa_nil se_Constant)))))
      (pss_cons (ps_expr (pe_bm0 PySem.F.plainAttrs_list PySem.F.slot_list_clear PySem.F.type_list_clear mt_clear (pv 12)))
      (pss_one (ps_ret (pe_and (pe_call G_is_trip (hr.mono (by decide)) rfl T.mg_is_trip T.kp_is_trip b_is_trip .nil pass0 (pa_cons (pe_call G_backward (hr.mono (by decide)) rfl T.mg_backward T.kp_backward b_backward .nil pass0 (pa_cons (pv 7) pa_nil se_Name) (he := se_Name) (hpl := np_nil)) (pa_cons (pv 8) pa_nil se_Name) se_Call) (he := se_Call) (hpl := (np_cons se_Name np_nil))) (pe_one (pe_cmpR (op_eqD (units_of hr)) (pv 7) (pv 11) (nomark _)))))))))))))))))))))))))))), ?_⟩
    refine ⟨_, rfl, a, ns, rfl, hS, fun hd hl H1 _ _ d1 _ => ?_⟩
    refine ⟨_, rfl, hd, hl, rfl, d1, fun sc H2 sc0 sc1 d2 k2 => ?_⟩
    refine ⟨_, rfl, hd, hl, 8, rfl, d2, by decide, by decide, fun g H3 _ _ d3 k3 => ⟨rfl, .inr ⟨_, rfl, ?_⟩⟩⟩
    obtain ⟨gi, hgi, egi⟩ : ∃ gi : Int, (gi = 0 ∨ gi = 1) ∧ (if decide (V.int g = V.int 0) = true then (1 : Int) else 0) = gi := ⟨_, by split <;> simp, rfl⟩
    rw [egi]
    clear egi d1 d2 k2 k3
    -- the land
    refine ⟨_, rfl, (by show 2 ≤ sizeLine; decide), fun a1 ha1 => ?_⟩
    obtain ⟨pn, hat1, pn0, pn1⟩ : ∃ t : Int, atI [V.int 5, V.int 12] gi = some (.int t) ∧ 1 ≤ t ∧ t ≤ 12 := by
      rcases hgi with rfl | rfl
      · exact ⟨5, rfl, by decide, by decide⟩
      · exact ⟨12, rfl, by decide, by decide⟩
    refine ⟨_, rfl, a1, _, _, _, rfl, rfl, SqL.of upd_same, hat1, ?_⟩
    refine ⟨(by show 2 ≤ sizeLine; decide), fun a2 ha2 => ?_⟩
    obtain ⟨wn, hat2, wn0, wn1⟩ : ∃ t : Int, atI [V.int 12, V.int 40] gi = some (.int t) ∧ 0 ≤ t ∧ t ≤ 40 := by
      rcases hgi with rfl | rfl
      · exact ⟨12, rfl, by decide, by decide⟩
      · exact ⟨40, rfl, by decide, by decide⟩
    refine ⟨_, rfl, a2, _, _, _, rfl, rfl, SqL.of upd_same, hat2, ?_⟩
    have d4 := (d3.lay (o := .lst [.int 5, .int 12]) ha1).lay (o := .lst [.int 12, .int 40]) ha2
    generalize upd (upd H3 a1 (.lst [.int 5, .int 12])) a2 (.lst [.int 12, .int 40]) = H4 at d4 ⊢
    refine ⟨_, rfl, hd, hl, pn, wn, sc, rfl, d4, by omega, by omega, by omega, by omega, sc0, sc1, fun lp lq us0 ws m H5 hlp hlq elp elq hw m0 m1 lw bw d5 k5 => ?_⟩
    have lw' : ws.length ≤ 40 := by omega
    have hv5 : ThV (NH hd) H5 (.ref lp) (landD m ws) := by
      obtain ⟨_, _, _, _, _, _, _, _, ha⟩ := id d5
      exact .tup (ne_of elp ha (by intro z; cases z)) elp (.cons (.int m) (.cons (.lst (d4.ne hlq).1 elq (hw.th d5)) .nil))
    clear d4 d3 elp hw hlq hlp k5 hat1 hat2 ha1 ha2
    refine ⟨_, rfl, _, rfl, hd, hl, sc, rfl, d5, by omega, sc1, fun st H6 st0 st1 d6 k6 => ?_⟩
    have hv6 := hv5.kp k6
    obtain ⟨lp', lq', us', e', _, nlq', f1, f2, f3⟩ := hv6.land
    cases e'
    refine ⟨_, rfl, _, rfl, lp, _, _, _, rfl, rfl, SqT.of f1, rfl, hd, hl, m, rfl, d6, by omega, by omega, fun pl H7 pl0 pl1 d7 k7 => ?_⟩
    have hv7 := hv6.kp k7
    -- the trip
    refine ⟨_, rfl, _, rfl, _, rfl, (by show 2 ≤ sizeLine; decide), fun b1 hb1 => ?_⟩
    obtain ⟨qn, hatq, qn0, qn1⟩ : ∃ t : Int, atI [V.int 4, V.int 38] gi = some (.int t) ∧ 0 ≤ t ∧ t ≤ 38 := by
      rcases hgi with rfl | rfl
      · exact ⟨4, rfl, by decide, by decide⟩
      · exact ⟨38, rfl, by decide, by decide⟩
    refine ⟨_, rfl, b1, _, _, _, rfl, rfl, SqL.of upd_same, hatq, ?_⟩
    refine ⟨_, _, rfl, rfl, ⟨by decide, by decide, by decide⟩, (by show 2 ≤ sizeLine; decide), fun b2 hb2 => ?_⟩
    have s8 := ((Same.refl H7).lay (o := .lst [.int 4, .int 38]) hb1).lay (o := .lst [.int 3, .int (10 ^ (24 : Int).toNat)]) hb2
    have nb2 := ((d7.lay (o := .lst [.int 4, .int 38]) hb1).ne hb2).1
    refine ⟨_, rfl, hd, hl, 2, rfl, (d7.lay hb1).lay hb2, by decide, by decide, fun it H8 it0 it1 d8 k8 => ?_⟩
    have qt := k8 b2 _ upd_same nb2
    obtain ⟨tn, tn0, tn1, hatt⟩ : ∃ t : Int, 1 ≤ t ∧ t ≤ 1000000000000000000000000 ∧ atI [V.int 3, V.int (10 ^ (24 : Int).toNat)] it = some (.int t) := by
      have hr' : it = 0 ∨ it = 1 := by omega
      rcases hr' with rfl | rfl
      · exact ⟨3, by decide, by decide, rfl⟩
      · exact ⟨_, by decide, by decide, rfl⟩
    have hv8 := hv7.kp (s8.kp.trans k8)
    refine ⟨b2, _, _, _, rfl, rfl, SqL.of qt, hatt, hd, hl, _, m, ws, sc, pl, qn, tn, rfl, d8, hv8, bw, by omega, pl0, pl1, qn0, by omega, tn0, tn1, fun tp ps q H9 _ ht9 o1 q0 q1 n1 bp d9 k9 => ?_⟩
    have hv9 := hv8.kp k9
    have np : ps.length ≤ 38 := by omega
    have bp' : ∀ p ∈ ps, p.1.length ≤ 300 := fun p hp => Nat.le_trans (bp p hp) (by decide)
    clear qt hatt it0 it1 s8 k8 hatq hb1 hb2 hv5 hv6 hv7 hv8 d5 d6 d7 d8 k6 k7 k9 f1 f2 f3
    obtain ⟨tp', us, e', ntp, e1, e2⟩ := ht9.trip
    cases e'
    have e2r := e2.revP
    have lu : us.length = ps.length := by rw [e2.len, List.length_map]
    have lb : (bkT ps).length = ps.length := by unfold bkT; rw [List.length_map, List.length_reverse]
    -- due
    refine ⟨(by show 0 ≤ sizeLine; decide), fun pd hpd => ?_⟩
    have npd := d9.ne hpd
    refine ⟨_, rfl, _, rfl, _, rfl, rfl, tp, us, rfl, SqL.of (up e1 hpd), fun prv hprv => ?_⟩
    have nprv := (d9.lay (o := .lst []) hpd).ne hprv
    have npp : prv ≠ pd := ne_new upd_same hprv
    refine ⟨prv, rfl, ⟨_, SqL.of upd_same⟩, for_list (K := K) (a := prv) (xs := us.reverse) (fun i σ H2 => ∃ (ds : List V) (v1 v2 : Option V), σ = [some (.ref a), some (.ref hd), some (.int sc), some (.int gi), some (.ref lp), some (.int st), some (.int pl), some (.ref tp), some (.ref pd), v1, v2, none, none, none, none, none, none] ∧ Hd H2 hd hl ∧ Kp hd H9 H2 ∧ H2 pd = some (.lst ds) ∧ ThVs (fun x => x ≠ hd ∧ x ≠ pd) H2 ds (((bkT ps).take i).map partD) ∧ H2 prv = some (.lst us.reverse))
      ⟨[], none, none, rfl, (d9.lay hpd).lay hprv, ((Kp.refl hd H9).lay hpd).lay hprv, up upd_same hprv, .nil, upd_same⟩ (fun i σ H2 _ ⟨_, _, _, _, _, _, _, _, z⟩ => SqL.of z) ?_ ?_⟩
    · rintro i y σ H2 hi ⟨ds, v1, v2, rfl, d2, k2, ed, hds, eprv⟩
      obtain ⟨d, edd, td⟩ := e2r.get hi
      rw [List.getElem?_map] at edd
      obtain ⟨p, ep, rfl⟩ : ∃ p, ps.reverse[i]? = some p ∧ partD p = d := by
        cases z : ps.reverse[i]? with
        | none => rw [z] at edd; cases edd
        | some p => rw [z] at edd; exact ⟨p, rfl, Option.some.inj edd⟩
      obtain ⟨pp, pq, rfl, _, _, g1, g2⟩ := (td.kp k2).part
      have eb : (bkT ps)[i]? = some (rvP p) := by
        unfold bkT
        rw [List.getElem?_map, ep]
        rfl
      have hil : i < (bkT ps).length := (List.getElem?_eq_some_iff.mp eb).1
      have ldl := hds.len
      rw [List.length_map, List.length_take] at ldl
      refine ⟨pp, _, rfl, SqT.of g1, rfl, _, _, rfl, _, _, rfl, rfl, ?_⟩
      refine ⟨_, rfl, .inl ⟨rfl, _, SqL.of ed⟩, _, rfl, _, rfl, _, rfl, rfl, pq, _, rfl, SqL.of g2, fun n1 hn1 => ?_⟩
      rw [← List.map_reverse]
      refine ⟨_, rfl, (by show 2 ≤ sizeLine; decide), fun t1 ht1 => ?_⟩
      have S := ((Same.refl H2).lay (o := .lst (p.1.reverse.map V.int)) hn1).lay (o := .tup [.ref n1, .int p.2]) ht1
      have ed1 := S _ _ ed
      have m1 := (d2.ne hn1).1
      have m2 := ((d2.lay (o := .lst (p.1.reverse.map V.int)) hn1).ne ht1).1
      have m3 : n1 ≠ pd := ne_new ed hn1
      have m4 : t1 ≠ pd := ne_new (up ed hn1) ht1
      have x1 : upd (upd H2 n1 (.lst (p.1.reverse.map V.int))) t1 (.tup [.ref n1, .int p.2]) t1 = some (.tup [.ref n1, .int p.2]) := upd_same
      have x2 : upd (upd H2 n1 (.lst (p.1.reverse.map V.int))) t1 (.tup [.ref n1, .int p.2]) n1 = some (.lst (p.1.reverse.map V.int)) := up upd_same ht1
      refine ⟨pd, _, _, rfl, rfl, ed1, small1000 (by omega), ?_⟩
      generalize upd (upd H2 n1 (.lst (p.1.reverse.map V.int))) t1 (.tup [.ref n1, .int p.2]) = HA at S ed1 x1 x2 ⊢
      have gw : ∀ b o, b ≠ pd → HA b = some o → upd HA pd (.lst (ds ++ [.ref t1])) b = some o := fun b o n e => by rw [upd_ne n]; exact e
      refine ⟨ds ++ [.ref t1], _, _, rfl, (d2.same S).wr npd.1 npd.2, (k2.trans S.kp).wr hpd, upd_same, ?_, gw _ _ npp (S _ _ eprv)⟩
      rw [List.take_add_one, eb, List.map_append]
      exact ThVs.append (hds.mv fun b o z e => ⟨z, gw b o z.2 (S b o e)⟩) (.cons (th_part (ns := p.1.reverse) (x := p.2) ⟨m2, m4⟩ ⟨m1, m3⟩ (gw _ _ m4 x1) (gw _ _ m3 x2)) .nil)
    · rintro σ H2 ⟨ds, v1, v2, rfl, d2, k2, ed, hds, eprv⟩
      rw [List.length_reverse, lu, ← lb, List.take_length] at hds
      have hdue2 : ThV (NH hd) H2 (.ref pd) (tripD (bkT ps)) := .lst npd.1 ed (hds.mv fun b o z e => ⟨z.1, e⟩)
      have ht2 := ht9.kp k2
      have hv2 := hv9.kp k2
      have e12 := k2 _ _ e1 ntp
      have e22 := e2.kp k2
      clear eprv hds ed e2r
      -- kept
      refine ⟨_, rfl, tp, rfl, ⟨_, SqL.of e12⟩, ?_⟩
      refine comp_list3 (K := K) (a0 := tp) (xs := us) (fun j ys H12 => Same H2 H12 ∧ ThVs (NH hd) H12 ys ((ps.take j).map partD)) (small1000 (by omega)) ⟨Same.refl _, .nil⟩ ?_ ?_ ?_
      · rintro j ys H12 hj ⟨s12, h12⟩
        exact ⟨by rw [h12.len, List.length_map, List.length_take]; omega, SqL.of (s12 _ _ e12)⟩
      · rintro j y ys H12 hj ⟨s12, h12⟩ ca
        have hjl : j < ps.length := by
          have := (List.getElem?_eq_some_iff.mp hj).1
          omega
        obtain ⟨d, ed, td⟩ := e22.get hj
        rw [List.getElem?_map, List.getElem?_eq_getElem hjl] at ed
        have ed' : partD ps[j] = d := Option.some.inj ed
        rw [← ed'] at td
        obtain ⟨pp, pq', rfl, _, _, g1, g2⟩ := (td.same s12).part
        refine ⟨pp, _, _, rfl, SqT.of g1, tTrue_in ⟨_, rfl, pq', _, rfl, .inl (SqL.of g2), fun n1 hn1 => ⟨_, rfl, (by show 2 ≤ sizeLine; decide), fun t1 ht1 => ?_⟩⟩⟩
        have d12 := d2.same s12
        have s13 := (s12.lay (o := .lst (ps[j].1.map V.int)) hn1).lay (o := .tup [.ref n1, .int ps[j].2]) ht1
        refine ⟨s13, ?_⟩
        rw [List.take_add_one, List.getElem?_eq_getElem hjl, List.map_append]
        exact (h12.same (((Same.refl H12).lay hn1).lay ht1)).append (.cons (th_part ((d12.lay hn1).ne ht1).1 (d12.ne hn1).1 upd_same (up upd_same ht1)) .nil)
      · rintro ys H12 ⟨s12, h12⟩ pk hpk
        rw [lu, List.take_length] at h12
        have d12 := d2.same s12
        have s13 := s12.lay (o := .lst ys) hpk
        have hk13 : ThV (NH hd) (upd H12 pk (.lst ys)) (.ref pk) (tripD ps) := .lst (d12.ne hpk).1 upd_same (h12.same ((Same.refl H12).lay hpk))
        have d13 := d2.same s13
        have ht13 := ht2.same s13
        have hv13 := hv2.same s13
        have hdue13 := hdue2.same s13
        generalize upd H12 pk (.lst ys) = Hb at s13 hk13 d13 ht13 hv13 hdue13 ⊢
        clear s12 h12 d12 s13 d2 ht2 hv2 hdue2 e12 e22 k2 e1 e2 ht9 hv9 d9 hpk hpd hprv
        obtain ⟨oh, eoh⟩ := d13.at1
        have frn : ∀ x, Hb x = none → x ≠ hd := fun x z => Fr.ne eoh z
        -- backward
        refine ⟨_, rfl, NH hd, _, ps, rfl, ht13, by omega, fun pb ub H5 hpb epb hub s5 => ?_⟩
        have hub' : ThVs (NH hd) H5 ub ((bkT ps).map partD) := hub.mv fun b o z e => ⟨frn b z.1, e⟩
        have hB5 : ThV (NH hd) H5 (.ref pb) (tripD (bkT ps)) := .lst (frn pb hpb) epb hub'
        refine ⟨fun σ H6 => Same H5 H6 ∧ σ = [some (.ref a), some (.ref hd), some (.int sc), some (.int gi), some (.ref lp), some (.int st), some (.int pl), some (.ref tp), some (.ref pd), v1, v2, some (.ref pk), some (.ref pb), none, none, none, none], ?_, ?_⟩
        · refine ⟨_, rfl, _, rfl, NH hd, NH hd, _, _, bkT ps, rfl, hB5, hdue13.same s5, _, rfl, iteF ?_⟩
          refine ⟨_, rfl, _, rfl, eqD_th (ht13.same s5) (hk13.same s5) (tripD_lay ps) (tripD_depth ps) ⟨_, rfl, iteF ?_⟩⟩
          refine ⟨_, rfl, NH hd, _, bkT ps, rfl, hB5, by omega, fun p2 u2 H6 hp2 ep2 hu2 s6 => ?_⟩
          rw [bkT_bkT] at hu2
          exact ⟨_, rfl, _, NH hd, _, _, ps, rfl, .lst (F := fun _ => True) trivial ep2 (hu2.mv fun b o z e => ⟨trivial, e⟩), (ht13.same s5).same s6, _, rfl, iteF ⟨s6, rfl⟩⟩
        · rintro σ H6 ⟨s6, rfl⟩
          have s06 := s5.trans s6
          refine ⟨_, rfl, _, rfl, _, rfl, NH hd, _, _, m, ws, pl, q, ps, rfl, hv13.same s06, ht13.same s06, o1, fun H7 s7 => ?_⟩
          have s07 := s06.trans s7
          refine ⟨_, rfl, NH hd, _, m, ws, rfl, hv13.same s07, by omega, fun tv H8 htv s8 => ?_⟩
          have s08 := s07.trans s8
          have d7 := d13.same s07
          obtain ⟨o7, eo7⟩ := d7.at1
          have htv8 : ThV (NH hd) H8 tv (landD m (ws.map turnW)) := htv.mv fun b o z e => ⟨Fr.ne eo7 z, e⟩
          have hB8 := hB5.same ((s6.trans s7).trans s8)
          have ho' := okT_rev o1
          have hb' := bkT_len bp'
          refine ⟨fun σ H9 => Same H8 H9 ∧ σ = [some (.ref a), some (.ref hd), some (.int sc), some (.int gi), some (.ref lp), some (.int st), some (.int pl), some (.ref tp), some (.ref pd), v1, v2, some (.ref pk), some (.ref pb), some (.int q), some tv, none, none], ?_, ?_⟩
          · refine ⟨_, rfl, _, rfl, _, rfl, NH hd, _, _, m, _, q, pl, bkT ps, rfl, htv8, hB8, ho', fun H9 s9 => ?_⟩
            refine ⟨_, rfl, rfl, _, rfl, iteNS rfl ?_⟩
            refine ⟨_, rfl, _, rfl, _, rfl, NH hd, _, _, m, _, q, pl, bkT ps, rfl, htv8.same s9, hB8.same s9, ho', by omega, hb', fun H10 s10 => ?_⟩
            have s810 := s9.trans s10
            refine ⟨_, rfl, _, rfl, _, rfl, NH hd, _, _, m, ws, pl, q, ps, rfl, (hv13.same s08).same s810, (ht13.same s08).same s810, o1, by omega, bp', fun H11 s11 => ?_⟩
            exact ⟨rfl, _, rfl, iteNS (congrArg V.int (lenF_rev ps)) ⟨s810.trans s11, rfl⟩⟩
          · rintro σ H9 ⟨s9, rfl⟩
            have s09 := s08.trans s9
            refine ⟨_, rfl, _, rfl, _, rfl, _, rfl, NH hd, _, _, m, ws, st, pl, q, ps, rfl, hv13.same s09, ht13.same s09, o1, bp', st0, fun x H10 hx s10 => ?_⟩
            have s910 := s9.trans s10
            refine ⟨_, rfl, _, rfl, _, rfl, _, rfl, NH hd, _, _, m, _, st, q, pl, bkT ps, rfl, htv8.same s910, hB8.same s910, ho', hb', st0, fun y H11 hy s11 => ?_⟩
            rw [effB_rev st0] at hy
            have hx11 := hx.same s11
            have s811 := s910.trans s11
            have s011 := s08.trans s811
            cases ee : effB ws st ps with
            | none =>
              rw [ee] at hx11 hy
              cases (show x = .non from hx11)
              cases (show y = .non from hy)
              refine ⟨fun _ _ => False, ?_, fun _ _ z => z.elim⟩
              exact ⟨_, rfl, rfl, _, rfl, iteT (iteT ⟨_, rfl, rfl, _, rfl, iteT ⟨_, rfl, rfl, k H11⟩⟩)⟩
            | some e =>
              rw [ee] at hx11 hy
              obtain ⟨lo, g, t⟩ := e
              obtain ⟨px, rfl, ex⟩ := id hx11
              obtain ⟨py, rfl, ey⟩ := id hy
              refine ⟨fun σ H12 => H11 = H12 ∧ σ = [some (.ref a), some (.ref hd), some (.int sc), some (.int gi), some (.ref lp), some (.int st), some (.int pl), some (.ref tp), some (.ref pd), v1, v2, some (.ref pk), some (.ref pb), some (.int q), some tv, some (.ref px), some (.ref py)], ?_, ?_⟩
              · exact ⟨_, rfl, rfl, _, rfl, iteF ⟨_, rfl, rfl, _, rfl, iteF ⟨rfl, rfl⟩⟩⟩
              · rintro σ H12 ⟨rfl, rfl⟩
                refine ⟨fun σ H12 => Same H11 H12 ∧ σ = [some (.ref a), some (.ref hd), some (.int sc), some (.int gi), some (.ref lp), some (.int st), some (.int pl), some (.ref tp), some (.ref pd), v1, v2, some (.ref pk), some (.ref pb), some (.int q), some tv, some (.ref px), some (.ref py)], ?_, ?_⟩
                · refine ⟨_, rfl, _, rfl, _, rfl, px, _, _, _, rfl, rfl, SqT.of ex, rfl, _, _, rfl, rfl, ?_⟩
                  refine ⟨_, rfl, px, _, _, _, rfl, rfl, SqT.of ex, rfl, ?_⟩
                  refine ⟨_, rfl, _, rfl, px, _, _, _, rfl, rfl, SqT.of ex, rfl, _, _, rfl, rfl, (by show 3 ≤ sizeLine; decide), fun pz hpz => ?_⟩
                  have s12 := (Same.refl H11).lay (o := .tup [.int (st - t), .int g, .int (st - lo)]) hpz
                  refine eqD_eff (e := some (mirE st (lo, g, t))) (EffV.same hy s12) ⟨pz, rfl, upd_same⟩ ⟨_, rfl, iteF ?_⟩
                  refine ⟨_, rfl, _, rfl, _, rfl, st, _, _, rfl, hx11.same s12, fun mv H13 hm s13 => ?_⟩
                  exact eqD_eff (e := mirF st (some (lo, g, t))) (EffV.same hy (s12.trans s13)) hm ⟨_, rfl, iteF ⟨s12.trans s13, rfl⟩⟩
                · rintro σ H12 ⟨s12, rfl⟩
                  have s012 := s011.trans s12
                  have s812 := s811.trans s12
                  have hub12 : ThVs (fun x => Hb x = none ∧ x ≠ pb) H12 ub ((bkT ps).map partD) := hub.same (((s6.trans s7).trans s8).trans s812)
                  have epb12 := (((s6.trans s7).trans s8).trans s812) _ _ epb
                  refine ⟨fun σ H13 => σ = [some (.ref a), some (.ref hd), some (.int sc), some (.int gi), some (.ref lp), some (.int st), some (.int pl), some (.ref tp), some (.ref pd), v1, v2, some (.ref pk), some (.ref pb), some (.int q), some tv, some (.ref px), some (.ref py)] ∧ Hd H13 hd hl ∧ Kp hd H12 H13, ?_, ?_⟩
                  · exact ⟨_, rfl, _, rfl, _, rfl, _, rfl, _, rfl, _, rfl, _, rfl, hd, hl, _, _, _, m, ws, st, pl, q, ps, rfl, d13.same s012, hv13.same s012, ht13.same s012, hB8.same s812, o1, by omega, bp', st0, st1, fun H13 d13' k13' => ⟨_, rfl, iteF ⟨rfl, d13', k13'⟩⟩⟩
                  · rintro σ H13 ⟨rfl, dd, kk⟩
                    have KB : Kp hd Hb H13 := s012.kp.trans kk
                    have epb13 := kk _ _ epb12 (frn pb hpb)
                    have hub13 : ThVs (fun x => Hb x = none ∧ x ≠ pb) H13 ub ((bkT ps).map partD) := hub12.mv fun b o z e => ⟨z, kk b o e (frn b z.1)⟩
                    have lub : ub.length ≤ 38 := by rw [hub.len, List.length_map]; omega
                    refine ⟨_, rfl, pb, rfl, ⟨_, SqL.of epb13⟩, for_list (K := K) (a := pb) (xs := ub) (fun i σ H14 => ∃ w1 w2 : Option V, σ = [some (.ref a), some (.ref hd), some (.int sc), some (.int gi), some (.ref lp), some (.int st), some (.int pl), some (.ref tp), some (.ref pd), w1, w2, some (.ref pk), some (.ref pb), some (.int q), some tv, some (.ref px), some (.ref py)] ∧ Kp hd Hb H14 ∧ H14 pb = some (.lst ub) ∧ ∀ (j : Nat) (x : V), ub[j]? = some x → ∃ (pp pq : Addr) (t : Int) (zs : List V), x = V.ref pp ∧ H14 pp = some (.tup [.ref pq, .int t]) ∧ H14 pq = some (.lst zs) ∧ Hb pq = none ∧ pq ≠ pb ∧ zs.length ≤ 300 + i)
                      ⟨_, _, rfl, KB, epb13, fun j x hj => ?_⟩ (fun i σ H14 _ ⟨_, _, _, _, z, _⟩ => SqL.of z) ?_ ?_⟩
                    · obtain ⟨d, edd, td⟩ := hub13.get hj
                      rw [List.getElem?_map] at edd
                      obtain ⟨p, ep, rfl⟩ : ∃ p, (bkT ps)[j]? = some p ∧ partD p = d := by
                        cases z : (bkT ps)[j]? with
                        | none => rw [z] at edd; cases edd
                        | some p => rw [z] at edd; exact ⟨p, rfl, Option.some.inj edd⟩
                      obtain ⟨pp, pq, rfl, _, fq, g1, g2⟩ := td.part
                      exact ⟨pp, pq, p.2, _, rfl, g1, g2, fq.1, fq.2, by rw [List.length_map]; exact hb' p (List.mem_of_getElem? ep)⟩
                    · rintro i x σ H14 hi ⟨w1, w2, rfl, k14, epb14, hin⟩
                      obtain ⟨pp, pq, t', zs, rfl, g1, g2, fq, nq, lz⟩ := hin i x hi
                      have hil : i < ub.length := (List.getElem?_eq_some_iff.mp hi).1
                      refine ⟨pp, _, rfl, SqT.of g1, rfl, _, _, rfl, _, _, rfl, rfl, ?_⟩
                      refine ⟨_, rfl, .inl ⟨rfl, _, SqL.of g2⟩, pq, _, _, rfl, rfl, g2, small1000 (by omega), ?_⟩
                      refine ⟨_, _, rfl, k14.wr fq, by rw [upd_ne nq.symm]; exact epb14, fun j x hj => ?_⟩
                      obtain ⟨pp', pq', t'', zs', rfl, g1', g2', fq', nq', lz'⟩ := hin j x hj
                      have np' : pp' ≠ pq := ne_of g1' g2 (by intro z; cases z)
                      by_cases c : pq' = pq
                      · subst c
                        rw [g2] at g2'
                        cases g2'
                        exact ⟨pp', pq', t'', _, rfl, by rw [upd_ne np']; exact g1', upd_same, fq', nq', by rw [List.length_append]; simp; omega⟩
                      · exact ⟨pp', pq', t'', zs', rfl, by rw [upd_ne np']; exact g1', by rw [upd_ne c]; exact g2', fq', nq', by omega⟩
                    · rintro σ H14 ⟨w1, w2, rfl, k14, epb14, hin⟩
                      refine ⟨_, rfl, .inl ⟨rfl, _, SqL.of epb14⟩, pb, _, rfl, rfl, epb14, ?_⟩
                      have k15 : Kp hd Hb (upd H14 pb (.lst [])) := k14.wr hpb
                      generalize upd H14 pb (.lst []) = H15 at k15 ⊢
                      have ht15 := ht13.kp k15
                      have hk15 := hk13.kp k15
                      have hdue15 := hdue13.kp k15
                      refine ⟨_, rfl, NH hd, _, ps, rfl, ht15, by omega, fun p3 u3 H16 hp3 ep3 hu3 s16 => ?_⟩
                      refine ⟨_, rfl, _, NH hd, _, _, bkT ps, rfl, .lst (F := fun _ => True) trivial ep3 (hu3.mv fun b o z e => ⟨trivial, e⟩), hdue15.same s16, _, rfl, iteT ?_⟩
                      exact ⟨_, rfl, _, rfl, eqD_th (ht15.same s16) (hk15.same s16) (tripD_lay ps) (tripD_depth ps) (k H16)⟩
end
section
variable {P : Program} {w : World} {K : PySem.W.Frag} {mg : Str → Option Value} {base : Heap}
theorem all_mk {l : PySem.W.OpenLaw} {w : World} {K : PySem.W.Frag} {h : Heap} {mg : Str → Option Value} {fa : Addr} (X : K.In h) (G : h.Ns mainGlobals mg) (hfa : mg "law" = some (.ref fa))
    {f0 : Addr} {od0 an0 : Option Addr} {sl0 : Array (Option Value)} {oc0 kV0 dc0 pm0 cd0 ct0 : Value} (a0 : PySem.W.nsIn K mainGlobals "is_whole" = some (some (.ref f0))) (l0 : K.lookup f0 = some ⟨oc0, od0, .func (PySem.W.fnOf "is_whole" "is_whole" (defArgs s_is_whole) (defBody s_is_whole) (defScope s_is_whole) .none kV0 dc0 pm0 an0 cd0 ct0), sl0⟩) (c0 : PySem.W.codeIn K cd0 "is_whole" = true) (k0 : PySem.W.keepIn K (.ref f0) = true)
    {f1 : Addr} {od1 an1 : Option Addr} {sl1 : Array (Option Value)} {oc1 kV1 dc1 pm1 cd1 ct1 : Value} (a1 : PySem.W.nsIn K mainGlobals "effect_of_none" = some (some (.ref f1))) (l1 : K.lookup f1 = some ⟨oc1, od1, .func (PySem.W.fnOf "effect_of_none" "effect_of_none" (defArgs s_effect_of_none) (defBody s_effect_of_none) (defScope s_effect_of_none) .none kV1 dc1 pm1 an1 cd1 ct1), sl1⟩) (c1 : PySem.W.codeIn K cd1 "effect_of_none" = true) (k1 : PySem.W.keepIn K (.ref f1) = true)
    {f2 : Addr} {od2 an2 : Option Addr} {sl2 : Array (Option Value)} {oc2 kV2 dc2 pm2 cd2 ct2 : Value} (a2 : PySem.W.nsIn K mainGlobals "effect_of_one" = some (some (.ref f2))) (l2 : K.lookup f2 = some ⟨oc2, od2, .func (PySem.W.fnOf "effect_of_one" "effect_of_one" (defArgs s_effect_of_one) (defBody s_effect_of_one) (defScope s_effect_of_one) .none kV2 dc2 pm2 an2 cd2 ct2), sl2⟩) (c2 : PySem.W.codeIn K cd2 "effect_of_one" = true) (k2 : PySem.W.keepIn K (.ref f2) = true)
    {f3 : Addr} {od3 an3 : Option Addr} {sl3 : Array (Option Value)} {oc3 kV3 dc3 pm3 cd3 ct3 : Value} (a3 : PySem.W.nsIn K mainGlobals "effect_of" = some (some (.ref f3))) (l3 : K.lookup f3 = some ⟨oc3, od3, .func (PySem.W.fnOf "effect_of" "effect_of" (defArgs s_effect_of) (defBody s_effect_of) (defScope s_effect_of) .none kV3 dc3 pm3 an3 cd3 ct3), sl3⟩) (c3 : PySem.W.codeIn K cd3 "effect_of" = true) (k3 : PySem.W.keepIn K (.ref f3) = true)
    {f4 : Addr} {od4 an4 : Option Addr} {sl4 : Array (Option Value)} {oc4 kV4 dc4 pm4 cd4 ct4 : Value} (a4 : PySem.W.nsIn K mainGlobals "passed" = some (some (.ref f4))) (l4 : K.lookup f4 = some ⟨oc4, od4, .func (PySem.W.fnOf "passed" "passed" (defArgs s_passed) (defBody s_passed) (defScope s_passed) .none kV4 dc4 pm4 an4 cd4 ct4), sl4⟩) (c4 : PySem.W.codeIn K cd4 "passed" = true) (k4 : PySem.W.keepIn K (.ref f4) = true)
    {f5 : Addr} {od5 an5 : Option Addr} {sl5 : Array (Option Value)} {oc5 kV5 dc5 pm5 cd5 ct5 : Value} (a5 : PySem.W.nsIn K mainGlobals "joined" = some (some (.ref f5))) (l5 : K.lookup f5 = some ⟨oc5, od5, .func (PySem.W.fnOf "joined" "joined" (defArgs s_joined) (defBody s_joined) (defScope s_joined) .none kV5 dc5 pm5 an5 cd5 ct5), sl5⟩) (c5 : PySem.W.codeIn K cd5 "joined" = true) (k5 : PySem.W.keepIn K (.ref f5) = true)
    {f6 : Addr} {od6 an6 : Option Addr} {sl6 : Array (Option Value)} {oc6 kV6 dc6 pm6 cd6 ct6 : Value} (a6 : PySem.W.nsIn K mainGlobals "repeated" = some (some (.ref f6))) (l6 : K.lookup f6 = some ⟨oc6, od6, .func (PySem.W.fnOf "repeated" "repeated" (defArgs s_repeated) (defBody s_repeated) (defScope s_repeated) .none kV6 dc6 pm6 an6 cd6 ct6), sl6⟩) (c6 : PySem.W.codeIn K cd6 "repeated" = true) (k6 : PySem.W.keepIn K (.ref f6) = true)
    {f7 : Addr} {od7 an7 : Option Addr} {sl7 : Array (Option Value)} {oc7 kV7 dc7 pm7 cd7 ct7 : Value} (a7 : PySem.W.nsIn K mainGlobals "mirrored" = some (some (.ref f7))) (l7 : K.lookup f7 = some ⟨oc7, od7, .func (PySem.W.fnOf "mirrored" "mirrored" (defArgs s_mirrored) (defBody s_mirrored) (defScope s_mirrored) .none kV7 dc7 pm7 an7 cd7 ct7), sl7⟩) (c7 : PySem.W.codeIn K cd7 "mirrored" = true) (k7 : PySem.W.keepIn K (.ref f7) = true)
    {f8 : Addr} {od8 an8 : Option Addr} {sl8 : Array (Option Value)} {oc8 kV8 dc8 pm8 cd8 ct8 : Value} (a8 : PySem.W.nsIn K mainGlobals "is_place" = some (some (.ref f8))) (l8 : K.lookup f8 = some ⟨oc8, od8, .func (PySem.W.fnOf "is_place" "is_place" (defArgs s_is_place) (defBody s_is_place) (defScope s_is_place) .none kV8 dc8 pm8 an8 cd8 ct8), sl8⟩) (c8 : PySem.W.codeIn K cd8 "is_place" = true) (k8 : PySem.W.keepIn K (.ref f8) = true)
    {f9 : Addr} {od9 an9 : Option Addr} {sl9 : Array (Option Value)} {oc9 kV9 dc9 pm9 cd9 ct9 : Value} (a9 : PySem.W.nsIn K mainGlobals "turned_land" = some (some (.ref f9))) (l9 : K.lookup f9 = some ⟨oc9, od9, .func (PySem.W.fnOf "turned_land" "turned_land" (defArgs s_turned_land) (defBody s_turned_land) (defScope s_turned_land) .none kV9 dc9 pm9 an9 cd9 ct9), sl9⟩) (c9 : PySem.W.codeIn K cd9 "turned_land" = true) (k9 : PySem.W.keepIn K (.ref f9) = true)
    {f10 : Addr} {od10 an10 : Option Addr} {sl10 : Array (Option Value)} {oc10 kV10 dc10 pm10 cd10 ct10 : Value} (a10 : PySem.W.nsIn K mainGlobals "changes_of" = some (some (.ref f10))) (l10 : K.lookup f10 = some ⟨oc10, od10, .func (PySem.W.fnOf "changes_of" "changes_of" (defArgs s_changes_of) (defBody s_changes_of) (defScope s_changes_of) .none kV10 dc10 pm10 an10 cd10 ct10), sl10⟩) (c10 : PySem.W.codeIn K cd10 "changes_of" = true) (k10 : PySem.W.keepIn K (.ref f10) = true)
    {f11 : Addr} {od11 an11 : Option Addr} {sl11 : Array (Option Value)} {oc11 kV11 dc11 pm11 cd11 ct11 : Value} (a11 : PySem.W.nsIn K mainGlobals "behind_ways" = some (some (.ref f11))) (l11 : K.lookup f11 = some ⟨oc11, od11, .func (PySem.W.fnOf "behind_ways" "behind_ways" (defArgs s_behind_ways) (defBody s_behind_ways) (defScope s_behind_ways) .none kV11 dc11 pm11 an11 cd11 ct11), sl11⟩) (c11 : PySem.W.codeIn K cd11 "behind_ways" = true) (k11 : PySem.W.keepIn K (.ref f11) = true)
    {f12 : Addr} {od12 an12 : Option Addr} {sl12 : Array (Option Value)} {oc12 kV12 dc12 pm12 cd12 ct12 : Value} (a12 : PySem.W.nsIn K mainGlobals "behind_part" = some (some (.ref f12))) (l12 : K.lookup f12 = some ⟨oc12, od12, .func (PySem.W.fnOf "behind_part" "behind_part" (defArgs s_behind_part) (defBody s_behind_part) (defScope s_behind_part) .none kV12 dc12 pm12 an12 cd12 ct12), sl12⟩) (c12 : PySem.W.codeIn K cd12 "behind_part" = true) (k12 : PySem.W.keepIn K (.ref f12) = true)
    {f13 : Addr} {od13 an13 : Option Addr} {sl13 : Array (Option Value)} {oc13 kV13 dc13 pm13 cd13 ct13 : Value} (a13 : PySem.W.nsIn K mainGlobals "end_of" = some (some (.ref f13))) (l13 : K.lookup f13 = some ⟨oc13, od13, .func (PySem.W.fnOf "end_of" "end_of" (defArgs s_end_of) (defBody s_end_of) (defScope s_end_of) .none kV13 dc13 pm13 an13 cd13 ct13), sl13⟩) (c13 : PySem.W.codeIn K cd13 "end_of" = true) (k13 : PySem.W.keepIn K (.ref f13) = true)
    {f14 : Addr} {od14 an14 : Option Addr} {sl14 : Array (Option Value)} {oc14 kV14 dc14 pm14 cd14 ct14 : Value} (a14 : PySem.W.nsIn K mainGlobals "length_of" = some (some (.ref f14))) (l14 : K.lookup f14 = some ⟨oc14, od14, .func (PySem.W.fnOf "length_of" "length_of" (defArgs s_length_of) (defBody s_length_of) (defScope s_length_of) .none kV14 dc14 pm14 an14 cd14 ct14), sl14⟩) (c14 : PySem.W.codeIn K cd14 "length_of" = true) (k14 : PySem.W.keepIn K (.ref f14) = true)
    {f15 : Addr} {od15 an15 : Option Addr} {sl15 : Array (Option Value)} {oc15 kV15 dc15 pm15 cd15 ct15 : Value} (a15 : PySem.W.nsIn K mainGlobals "effect_by" = some (some (.ref f15))) (l15 : K.lookup f15 = some ⟨oc15, od15, .func (PySem.W.fnOf "effect_by" "effect_by" (defArgs s_effect_by) (defBody s_effect_by) (defScope s_effect_by) .none kV15 dc15 pm15 an15 cd15 ct15), sl15⟩) (c15 : PySem.W.codeIn K cd15 "effect_by" = true) (k15 : PySem.W.keepIn K (.ref f15) = true)
    {f16 : Addr} {od16 an16 : Option Addr} {sl16 : Array (Option Value)} {oc16 kV16 dc16 pm16 cd16 ct16 : Value} (a16 : PySem.W.nsIn K mainGlobals "arrival" = some (some (.ref f16))) (l16 : K.lookup f16 = some ⟨oc16, od16, .func (PySem.W.fnOf "arrival" "arrival" (defArgs s_arrival) (defBody s_arrival) (defScope s_arrival) .none kV16 dc16 pm16 an16 cd16 ct16), sl16⟩) (c16 : PySem.W.codeIn K cd16 "arrival" = true) (k16 : PySem.W.keepIn K (.ref f16) = true)
    {f17 : Addr} {od17 an17 : Option Addr} {sl17 : Array (Option Value)} {oc17 kV17 dc17 pm17 cd17 ct17 : Value} (a17 : PySem.W.nsIn K mainGlobals "backward" = some (some (.ref f17))) (l17 : K.lookup f17 = some ⟨oc17, od17, .func (PySem.W.fnOf "backward" "backward" (defArgs s_backward) (defBody s_backward) (defScope s_backward) .none kV17 dc17 pm17 an17 cd17 ct17), sl17⟩) (c17 : PySem.W.codeIn K cd17 "backward" = true) (k17 : PySem.W.keepIn K (.ref f17) = true)
    {f18 : Addr} {od18 an18 : Option Addr} {sl18 : Array (Option Value)} {oc18 kV18 dc18 pm18 cd18 ct18 : Value} (a18 : PySem.W.nsIn K mainGlobals "_law_hand" = some (some (.ref f18))) (l18 : K.lookup f18 = some ⟨oc18, od18, .func (PySem.W.fnOf "_law_hand" "_law_hand" (defArgs s_hand) (defBody s_hand) (defScope s_hand) .none kV18 dc18 pm18 an18 cd18 ct18), sl18⟩) (c18 : PySem.W.codeIn K cd18 "_law_hand" = true) (k18 : PySem.W.keepIn K (.ref f18) = true)
    {f19 : Addr} {od19 an19 : Option Addr} {sl19 : Array (Option Value)} {oc19 kV19 dc19 pm19 cd19 ct19 : Value} (a19 : PySem.W.nsIn K mainGlobals "_law_next" = some (some (.ref f19))) (l19 : K.lookup f19 = some ⟨oc19, od19, .func (PySem.W.fnOf "_law_next" "_law_next" (defArgs s_next) (defBody s_next) (defScope s_next) .none kV19 dc19 pm19 an19 cd19 ct19), sl19⟩) (c19 : PySem.W.codeIn K cd19 "_law_next" = true) (k19 : PySem.W.keepIn K (.ref f19) = true)
    {f20 : Addr} {od20 an20 : Option Addr} {sl20 : Array (Option Value)} {oc20 kV20 dc20 pm20 cd20 ct20 : Value} (a20 : PySem.W.nsIn K mainGlobals "_law_take" = some (some (.ref f20))) (l20 : K.lookup f20 = some ⟨oc20, od20, .func (PySem.W.fnOf "_law_take" "_law_take" (defArgs s_take) (defBody s_take) (defScope s_take) .none kV20 dc20 pm20 an20 cd20 ct20), sl20⟩) (c20 : PySem.W.codeIn K cd20 "_law_take" = true) (k20 : PySem.W.keepIn K (.ref f20) = true)
    {f21 : Addr} {od21 an21 : Option Addr} {sl21 : Array (Option Value)} {oc21 kV21 dc21 pm21 cd21 ct21 : Value} (a21 : PySem.W.nsIn K mainGlobals "_law_draw" = some (some (.ref f21))) (l21 : K.lookup f21 = some ⟨oc21, od21, .func (PySem.W.fnOf "_law_draw" "_law_draw" (defArgs s_draw) (defBody s_draw) (defScope s_draw) .none kV21 dc21 pm21 an21 cd21 ct21), sl21⟩) (c21 : PySem.W.codeIn K cd21 "_law_draw" = true) (k21 : PySem.W.keepIn K (.ref f21) = true)
    {f22 : Addr} {od22 an22 : Option Addr} {sl22 : Array (Option Value)} {oc22 kV22 dc22 pm22 cd22 ct22 : Value} (a22 : PySem.W.nsIn K mainGlobals "_law_scale" = some (some (.ref f22))) (l22 : K.lookup f22 = some ⟨oc22, od22, .func (PySem.W.fnOf "_law_scale" "_law_scale" (defArgs s_scale) (defBody s_scale) (defScope s_scale) .none kV22 dc22 pm22 an22 cd22 ct22), sl22⟩) (c22 : PySem.W.codeIn K cd22 "_law_scale" = true) (k22 : PySem.W.keepIn K (.ref f22) = true)
    {f23 : Addr} {od23 an23 : Option Addr} {sl23 : Array (Option Value)} {oc23 kV23 dc23 pm23 cd23 ct23 : Value} (a23 : PySem.W.nsIn K mainGlobals "_law_change" = some (some (.ref f23))) (l23 : K.lookup f23 = some ⟨oc23, od23, .func (PySem.W.fnOf "_law_change" "_law_change" (defArgs s_change) (defBody s_change) (defScope s_change) .none kV23 dc23 pm23 an23 cd23 ct23), sl23⟩) (c23 : PySem.W.codeIn K cd23 "_law_change" = true) (k23 : PySem.W.keepIn K (.ref f23) = true)
    {f24 : Addr} {od24 an24 : Option Addr} {sl24 : Array (Option Value)} {oc24 kV24 dc24 pm24 cd24 ct24 : Value} (a24 : PySem.W.nsIn K mainGlobals "_law_land" = some (some (.ref f24))) (l24 : K.lookup f24 = some ⟨oc24, od24, .func (PySem.W.fnOf "_law_land" "_law_land" (defArgs s_land) (defBody s_land) (defScope s_land) .none kV24 dc24 pm24 an24 cd24 ct24), sl24⟩) (c24 : PySem.W.codeIn K cd24 "_law_land" = true) (k24 : PySem.W.keepIn K (.ref f24) = true)
    {f25 : Addr} {od25 an25 : Option Addr} {sl25 : Array (Option Value)} {oc25 kV25 dc25 pm25 cd25 ct25 : Value} (a25 : PySem.W.nsIn K mainGlobals "_law_store" = some (some (.ref f25))) (l25 : K.lookup f25 = some ⟨oc25, od25, .func (PySem.W.fnOf "_law_store" "_law_store" (defArgs s_store) (defBody s_store) (defScope s_store) .none kV25 dc25 pm25 an25 cd25 ct25), sl25⟩) (c25 : PySem.W.codeIn K cd25 "_law_store" = true) (k25 : PySem.W.keepIn K (.ref f25) = true)
    {f26 : Addr} {od26 an26 : Option Addr} {sl26 : Array (Option Value)} {oc26 kV26 dc26 pm26 cd26 ct26 : Value} (a26 : PySem.W.nsIn K mainGlobals "_law_level" = some (some (.ref f26))) (l26 : K.lookup f26 = some ⟨oc26, od26, .func (PySem.W.fnOf "_law_level" "_law_level" (defArgs s_level) (defBody s_level) (defScope s_level) .none kV26 dc26 pm26 an26 cd26 ct26), sl26⟩) (c26 : PySem.W.codeIn K cd26 "_law_level" = true) (k26 : PySem.W.keepIn K (.ref f26) = true)
    {f27 : Addr} {od27 an27 : Option Addr} {sl27 : Array (Option Value)} {oc27 kV27 dc27 pm27 cd27 ct27 : Value} (a27 : PySem.W.nsIn K mainGlobals "_law_trip" = some (some (.ref f27))) (l27 : K.lookup f27 = some ⟨oc27, od27, .func (PySem.W.fnOf "_law_trip" "_law_trip" (defArgs s_trip) (defBody s_trip) (defScope s_trip) .none kV27 dc27 pm27 an27 cd27 ct27), sl27⟩) (c27 : PySem.W.codeIn K cd27 "_law_trip" = true) (k27 : PySem.W.keepIn K (.ref f27) = true)
    {f28 : Addr} {od28 an28 : Option Addr} {sl28 : Array (Option Value)} {oc28 kV28 dc28 pm28 cd28 ct28 : Value} (a28 : PySem.W.nsIn K mainGlobals "_law_is_trip" = some (some (.ref f28))) (l28 : K.lookup f28 = some ⟨oc28, od28, .func (PySem.W.fnOf "_law_is_trip" "_law_is_trip" (defArgs s_is_trip) (defBody s_is_trip) (defScope s_is_trip) .none kV28 dc28 pm28 an28 cd28 ct28), sl28⟩) (c28 : PySem.W.codeIn K cd28 "_law_is_trip" = true) (k28 : PySem.W.keepIn K (.ref f28) = true)
    {f29 : Addr} {od29 an29 : Option Addr} {sl29 : Array (Option Value)} {oc29 kV29 dc29 pm29 cd29 ct29 : Value} (a29 : PySem.W.nsIn K mainGlobals "_law_comes" = some (some (.ref f29))) (l29 : K.lookup f29 = some ⟨oc29, od29, .func (PySem.W.fnOf "_law_comes" "_law_comes" (defArgs s_comes) (defBody s_comes) (defScope s_comes) .none kV29 dc29 pm29 an29 cd29 ct29), sl29⟩) (c29 : PySem.W.codeIn K cd29 "_law_comes" = true) (k29 : PySem.W.keepIn K (.ref f29) = true)
    {f30 : Addr} {od30 an30 : Option Addr} {sl30 : Array (Option Value)} {oc30 kV30 dc30 pm30 cd30 ct30 : Value} (a30 : PySem.W.nsIn K mainGlobals "_law_levels_right" = some (some (.ref f30))) (l30 : K.lookup f30 = some ⟨oc30, od30, .func (PySem.W.fnOf "_law_levels_right" "_law_levels_right" (defArgs s_levels_right) (defBody s_levels_right) (defScope s_levels_right) .none kV30 dc30 pm30 an30 cd30 ct30), sl30⟩) (c30 : PySem.W.codeIn K cd30 "_law_levels_right" = true) (k30 : PySem.W.keepIn K (.ref f30) = true)
    {f31 : Addr} {od31 an31 : Option Addr} {sl31 : Array (Option Value)} {oc31 kV31 dc31 pm31 cd31 ct31 : Value} (a31 : PySem.W.nsIn K mainGlobals "law" = some (some (.ref f31))) (l31 : K.lookup f31 = some ⟨oc31, od31, .func (PySem.W.fnOf "law" "law" (defArgs s_law) (defBody s_law) (defScope s_law) .none kV31 dc31 pm31 an31 cd31 ct31), sl31⟩) (c31 : PySem.W.codeIn K cd31 "law" = true) (k31 : PySem.W.keepIn K (.ref f31) = true)
    {tk_LEAST : Tok} (q_LEAST : PySem.W.nsIn K mainGlobals "LEAST" = some (some (.int 0 tk_LEAST)))
    {tk_GAIN : Tok} (q_GAIN : PySem.W.nsIn K mainGlobals "GAIN" = some (some (.int 1 tk_GAIN)))
    {tk_TOP : Tok} (q_TOP : PySem.W.nsIn K mainGlobals "TOP" = some (some (.int 2 tk_TOP)))
    {tk_MANY : Tok} (q_MANY : PySem.W.nsIn K mainGlobals "MANY" = some (some (.int 0 tk_MANY)))
    {tk_WAYS : Tok} (q_WAYS : PySem.W.nsIn K mainGlobals "WAYS" = some (some (.int 1 tk_WAYS)))
    {tk_START : Tok} (q_START : PySem.W.nsIn K mainGlobals "START" = some (some (.int 0 tk_START)))
    {tk_END : Tok} (q_END : PySem.W.nsIn K mainGlobals "END" = some (some (.int 1 tk_END)))
    {tk_CHANGE : Tok} (q_CHANGE : PySem.W.nsIn K mainGlobals "CHANGE" = some (some (.int 2 tk_CHANGE)))
    {tk_NUMBERS : Tok} (q_NUMBERS : PySem.W.nsIn K mainGlobals "NUMBERS" = some (some (.int 0 tk_NUMBERS)))
    {tk_TIMES : Tok} (q_TIMES : PySem.W.nsIn K mainGlobals "TIMES" = some (some (.int 1 tk_TIMES)))
    (z_abs : PySem.W.nsIn K mainGlobals "abs" = some none)
    (z_bool : PySem.W.nsIn K mainGlobals "bool" = some none)
    (z_enumerate : PySem.W.nsIn K mainGlobals "enumerate" = some none)
    (z_int : PySem.W.nsIn K mainGlobals "int" = some none)
    (z_isinstance : PySem.W.nsIn K mainGlobals "isinstance" = some none)
    (z_len : PySem.W.nsIn K mainGlobals "len" = some none)
    (z_list : PySem.W.nsIn K mainGlobals "list" = some none)
    (z_max : PySem.W.nsIn K mainGlobals "max" = some none)
    (z_min : PySem.W.nsIn K mainGlobals "min" = some none)
    (z_range : PySem.W.nsIn K mainGlobals "range" = some none)
    (z_reversed : PySem.W.nsIn K mainGlobals "reversed" = some none)
    (z_sum : PySem.W.nsIn K mainGlobals "sum" = some none)
    (z_tuple : PySem.W.nsIn K mainGlobals "tuple" = some none) :
    ∃ fd : FuncData, (∀ (s : Shared) (v : Value), BindsTo s fd ⟨[v], []⟩ [("_law_script", v)]) ∧ ∀ base : Heap, K.In base → base.Ns mainGlobals mg → FnOk l.prog w K mg base CX0 10 fa fd ["_law_script"] (spLaw K) := by
  have e := hfa.symm.trans (PySem.W.mg_of X G a31)
  cases e
  let T : Txt K mg := {
    n_abs := PySem.W.mg_none_of X G z_abs,
    n_bool := PySem.W.mg_none_of X G z_bool,
    n_enumerate := PySem.W.mg_none_of X G z_enumerate,
    n_int := PySem.W.mg_none_of X G z_int,
    n_isinstance := PySem.W.mg_none_of X G z_isinstance,
    n_len := PySem.W.mg_none_of X G z_len,
    n_list := PySem.W.mg_none_of X G z_list,
    n_max := PySem.W.mg_none_of X G z_max,
    n_min := PySem.W.mg_none_of X G z_min,
    n_range := PySem.W.mg_none_of X G z_range,
    n_reversed := PySem.W.mg_none_of X G z_reversed,
    n_sum := PySem.W.mg_none_of X G z_sum,
    n_tuple := PySem.W.mg_none_of X G z_tuple,
    t_LEAST := tk_LEAST, mg_LEAST := PySem.W.mg_of X G q_LEAST,
    t_GAIN := tk_GAIN, mg_GAIN := PySem.W.mg_of X G q_GAIN,
    t_TOP := tk_TOP, mg_TOP := PySem.W.mg_of X G q_TOP,
    t_MANY := tk_MANY, mg_MANY := PySem.W.mg_of X G q_MANY,
    t_WAYS := tk_WAYS, mg_WAYS := PySem.W.mg_of X G q_WAYS,
    t_START := tk_START, mg_START := PySem.W.mg_of X G q_START,
    t_END := tk_END, mg_END := PySem.W.mg_of X G q_END,
    t_CHANGE := tk_CHANGE, mg_CHANGE := PySem.W.mg_of X G q_CHANGE,
    t_NUMBERS := tk_NUMBERS, mg_NUMBERS := PySem.W.mg_of X G q_NUMBERS,
    t_TIMES := tk_TIMES, mg_TIMES := PySem.W.mg_of X G q_TIMES,
    a_is_whole := f0, d_is_whole := _, F_is_whole := fun_mk (st := s_is_whole) l0 c0 k0, mg_is_whole := PySem.W.mg_of X G a0, kp_is_whole := k0,
    a_effect_of_none := f1, d_effect_of_none := _, F_effect_of_none := fun_mk (st := s_effect_of_none) l1 c1 k1, mg_effect_of_none := PySem.W.mg_of X G a1, kp_effect_of_none := k1,
    a_effect_of_one := f2, d_effect_of_one := _, F_effect_of_one := fun_mk (st := s_effect_of_one) l2 c2 k2, mg_effect_of_one := PySem.W.mg_of X G a2, kp_effect_of_one := k2,
    a_effect_of := f3, d_effect_of := _, F_effect_of := fun_mk (st := s_effect_of) l3 c3 k3, mg_effect_of := PySem.W.mg_of X G a3, kp_effect_of := k3,
    a_passed := f4, d_passed := _, F_passed := fun_mk (st := s_passed) l4 c4 k4, mg_passed := PySem.W.mg_of X G a4, kp_passed := k4,
    a_joined := f5, d_joined := _, F_joined := fun_mk (st := s_joined) l5 c5 k5, mg_joined := PySem.W.mg_of X G a5, kp_joined := k5,
    a_repeated := f6, d_repeated := _, F_repeated := fun_mk (st := s_repeated) l6 c6 k6, mg_repeated := PySem.W.mg_of X G a6, kp_repeated := k6,
    a_mirrored := f7, d_mirrored := _, F_mirrored := fun_mk (st := s_mirrored) l7 c7 k7, mg_mirrored := PySem.W.mg_of X G a7, kp_mirrored := k7,
    a_is_place := f8, d_is_place := _, F_is_place := fun_mk (st := s_is_place) l8 c8 k8, mg_is_place := PySem.W.mg_of X G a8, kp_is_place := k8,
    a_turned_land := f9, d_turned_land := _, F_turned_land := fun_mk (st := s_turned_land) l9 c9 k9, mg_turned_land := PySem.W.mg_of X G a9, kp_turned_land := k9,
    a_changes_of := f10, d_changes_of := _, F_changes_of := fun_mk (st := s_changes_of) l10 c10 k10, mg_changes_of := PySem.W.mg_of X G a10, kp_changes_of := k10,
    a_behind_ways := f11, d_behind_ways := _, F_behind_ways := fun_mk (st := s_behind_ways) l11 c11 k11, mg_behind_ways := PySem.W.mg_of X G a11, kp_behind_ways := k11,
    a_behind_part := f12, d_behind_part := _, F_behind_part := fun_mk (st := s_behind_part) l12 c12 k12, mg_behind_part := PySem.W.mg_of X G a12, kp_behind_part := k12,
    a_end_of := f13, d_end_of := _, F_end_of := fun_mk (st := s_end_of) l13 c13 k13, mg_end_of := PySem.W.mg_of X G a13, kp_end_of := k13,
    a_length_of := f14, d_length_of := _, F_length_of := fun_mk (st := s_length_of) l14 c14 k14, mg_length_of := PySem.W.mg_of X G a14, kp_length_of := k14,
    a_effect_by := f15, d_effect_by := _, F_effect_by := fun_mk (st := s_effect_by) l15 c15 k15, mg_effect_by := PySem.W.mg_of X G a15, kp_effect_by := k15,
    a_arrival := f16, d_arrival := _, F_arrival := fun_mk (st := s_arrival) l16 c16 k16, mg_arrival := PySem.W.mg_of X G a16, kp_arrival := k16,
    a_backward := f17, d_backward := _, F_backward := fun_mk (st := s_backward) l17 c17 k17, mg_backward := PySem.W.mg_of X G a17, kp_backward := k17,
    a_hand := f18, d_hand := _, F_hand := fun_mk (st := s_hand) l18 c18 k18, mg_hand := PySem.W.mg_of X G a18, kp_hand := k18,
    a_next := f19, d_next := _, F_next := fun_mk (st := s_next) l19 c19 k19, mg_next := PySem.W.mg_of X G a19, kp_next := k19,
    a_take := f20, d_take := _, F_take := fun_mk (st := s_take) l20 c20 k20, mg_take := PySem.W.mg_of X G a20, kp_take := k20,
    a_draw := f21, d_draw := _, F_draw := fun_mk (st := s_draw) l21 c21 k21, mg_draw := PySem.W.mg_of X G a21, kp_draw := k21,
    a_scale := f22, d_scale := _, F_scale := fun_mk (st := s_scale) l22 c22 k22, mg_scale := PySem.W.mg_of X G a22, kp_scale := k22,
    a_change := f23, d_change := _, F_change := fun_mk (st := s_change) l23 c23 k23, mg_change := PySem.W.mg_of X G a23, kp_change := k23,
    a_land := f24, d_land := _, F_land := fun_mk (st := s_land) l24 c24 k24, mg_land := PySem.W.mg_of X G a24, kp_land := k24,
    a_store := f25, d_store := _, F_store := fun_mk (st := s_store) l25 c25 k25, mg_store := PySem.W.mg_of X G a25, kp_store := k25,
    a_level := f26, d_level := _, F_level := fun_mk (st := s_level) l26 c26 k26, mg_level := PySem.W.mg_of X G a26, kp_level := k26,
    a_trip := f27, d_trip := _, F_trip := fun_mk (st := s_trip) l27 c27 k27, mg_trip := PySem.W.mg_of X G a27, kp_trip := k27,
    a_is_trip := f28, d_is_trip := _, F_is_trip := fun_mk (st := s_is_trip) l28 c28 k28, mg_is_trip := PySem.W.mg_of X G a28, kp_is_trip := k28,
    a_comes := f29, d_comes := _, F_comes := fun_mk (st := s_comes) l29 c29 k29, mg_comes := PySem.W.mg_of X G a29, kp_comes := k29,
    a_levels_right := f30, d_levels_right := _, F_levels_right := fun_mk (st := s_levels_right) l30 c30 k30, mg_levels_right := PySem.W.mg_of X G a30, kp_levels_right := k30,
    a_law := fa, d_law := _, F_law := fun_mk (st := s_law) l31 c31 k31, mg_law := PySem.W.mg_of X G a31, kp_law := k31 }
  exact ⟨PySem.W.fnOf "law" "law" (defArgs s_law) (defBody s_law) (defScope s_law) .none kV31 dc31 pm31 an31 cd31 ct31, fun s v => .of_eq rfl, fun base _ _ => ok_law T⟩
end
theorem walk {l : PySem.W.OpenLaw} {q : Program} {loose : List Str} {XP : (Str → Option Value) → Heap → Prop} {YP : World → Heap → Prop} {d : DefRec} {K : Params → PySem.W.Frag} (hn : l.most = some 63) (hdf : d.params.defaults = [])
    (hY : ∀ (w : World) (h : Heap), YP w h → (K w.params).In h)
    (F : ∀ (w : World) (mg : Str → Option Value) (fa : Addr) (h : Heap), (K w.params).In h → h.Ns mainGlobals mg → mg d.name = some (.ref fa) →
      ∃ fd : FuncData, (∀ (s : Shared) (u : Value), BindsTo s fd ⟨[u], []⟩ [("_law_script", u)]) ∧ ∀ base : Heap, (K w.params).In base → base.Ns mainGlobals mg → FnOk l.prog w (K w.params) mg base CX0 10 fa fd ["_law_script"] (spLaw (K w.params))) :
    PySem.W.WalkO q loose XP YP l.row.toRowW d [] (fun f vs => PySem.call f vs) :=
  L2.walk_of (n := 63) (k := 10) (x := "_law_script") (CX := fun _ => CX0) (sp := fun w => spLaw (K w.params)) hn (by decide) hdf ⟨rfl, by decide, by decide⟩ hY F (fun _ _ a ns hl _ hS => ⟨a, ns, rfl, hS, hl, fun _ => rfl⟩) fun _ _ _ _ _ z => z
end My
open PySem PySem.W PyProof.Rows
set_option maxRecDepth 100000 in
set_option maxHeartbeats 0 in
theorem PySem.Challenge.cw_trudge_k26_whole_backward_holds : PySem.Challenge.rw_trudge_k26_whole_backward.Holds := by
  w_on; o_law; k_head; (case hw => w_witness2)
  k_fill
  refine My.walk (l := PySem.Challenge.rw_trudge_k26_whole_backward) rfl rfl (fun w h Y => PySem.W.kIn_of Y) ?F
  case F =>
    intro w mg fa h KX G hmg
    refine' My.all_mk KX G hmg ?a0 ?l0 ?c0 ?k0 ?a1 ?l1 ?c1 ?k1 ?a2 ?l2 ?c2 ?k2 ?a3 ?l3 ?c3 ?k3 ?a4 ?l4 ?c4 ?k4 ?a5 ?l5 ?c5 ?k5 ?a6 ?l6 ?c6 ?k6 ?a7 ?l7 ?c7 ?k7 ?a8 ?l8 ?c8 ?k8 ?a9 ?l9 ?c9 ?k9 ?a10 ?l10 ?c10 ?k10 ?a11 ?l11 ?c11 ?k11 ?a12 ?l12 ?c12 ?k12 ?a13 ?l13 ?c13 ?k13 ?a14 ?l14 ?c14 ?k14 ?a15 ?l15 ?c15 ?k15 ?a16 ?l16 ?c16 ?k16 ?a17 ?l17 ?c17 ?k17 ?a18 ?l18 ?c18 ?k18 ?a19 ?l19 ?c19 ?k19 ?a20 ?l20 ?c20 ?k20 ?a21 ?l21 ?c21 ?k21 ?a22 ?l22 ?c22 ?k22 ?a23 ?l23 ?c23 ?k23 ?a24 ?l24 ?c24 ?k24 ?a25 ?l25 ?c25 ?k25 ?a26 ?l26 ?c26 ?k26 ?a27 ?l27 ?c27 ?k27 ?a28 ?l28 ?c28 ?k28 ?a29 ?l29 ?c29 ?k29 ?a30 ?l30 ?c30 ?k30 ?a31 ?l31 ?c31 ?k31 ?q_LEAST ?q_GAIN ?q_TOP ?q_MANY ?q_WAYS ?q_START ?q_END ?q_CHANGE ?q_NUMBERS ?q_TIMES ?z_abs ?z_bool ?z_enumerate ?z_int ?z_isinstance ?z_len ?z_list ?z_max ?z_min ?z_range ?z_reversed ?z_sum ?z_tuple
    (case a0 => k_is); (case l0 => k_is); (case c0 => k_is); (case k0 => k_is)
    (case a1 => k_is); (case l1 => k_is); (case c1 => k_is); (case k1 => k_is)
    (case a2 => k_is); (case l2 => k_is); (case c2 => k_is); (case k2 => k_is)
    (case a3 => k_is); (case l3 => k_is); (case c3 => k_is); (case k3 => k_is)
    (case a4 => k_is); (case l4 => k_is); (case c4 => k_is); (case k4 => k_is)
    (case a5 => k_is); (case l5 => k_is); (case c5 => k_is); (case k5 => k_is)
    (case a6 => k_is); (case l6 => k_is); (case c6 => k_is); (case k6 => k_is)
    (case a7 => k_is); (case l7 => k_is); (case c7 => k_is); (case k7 => k_is)
    (case a8 => k_is); (case l8 => k_is); (case c8 => k_is); (case k8 => k_is)
    (case a9 => k_is); (case l9 => k_is); (case c9 => k_is); (case k9 => k_is)
    (case a10 => k_is); (case l10 => k_is); (case c10 => k_is); (case k10 => k_is)
    (case a11 => k_is); (case l11 => k_is); (case c11 => k_is); (case k11 => k_is)
    (case a12 => k_is); (case l12 => k_is); (case c12 => k_is); (case k12 => k_is)
    (case a13 => k_is); (case l13 => k_is); (case c13 => k_is); (case k13 => k_is)
    (case a14 => k_is); (case l14 => k_is); (case c14 => k_is); (case k14 => k_is)
    (case a15 => k_is); (case l15 => k_is); (case c15 => k_is); (case k15 => k_is)
    (case a16 => k_is); (case l16 => k_is); (case c16 => k_is); (case k16 => k_is)
    (case a17 => k_is); (case l17 => k_is); (case c17 => k_is); (case k17 => k_is)
    (case a18 => k_is); (case l18 => k_is); (case c18 => k_is); (case k18 => k_is)
    (case a19 => k_is); (case l19 => k_is); (case c19 => k_is); (case k19 => k_is)
    (case a20 => k_is); (case l20 => k_is); (case c20 => k_is); (case k20 => k_is)
    (case a21 => k_is); (case l21 => k_is); (case c21 => k_is); (case k21 => k_is)
    (case a22 => k_is); (case l22 => k_is); (case c22 => k_is); (case k22 => k_is)
    (case a23 => k_is); (case l23 => k_is); (case c23 => k_is); (case k23 => k_is)
    (case a24 => k_is); (case l24 => k_is); (case c24 => k_is); (case k24 => k_is)
    (case a25 => k_is); (case l25 => k_is); (case c25 => k_is); (case k25 => k_is)
    (case a26 => k_is); (case l26 => k_is); (case c26 => k_is); (case k26 => k_is)
    (case a27 => k_is); (case l27 => k_is); (case c27 => k_is); (case k27 => k_is)
    (case a28 => k_is); (case l28 => k_is); (case c28 => k_is); (case k28 => k_is)
    (case a29 => k_is); (case l29 => k_is); (case c29 => k_is); (case k29 => k_is)
    (case a30 => k_is); (case l30 => k_is); (case c30 => k_is); (case k30 => k_is)
    (case a31 => k_is); (case l31 => k_is); (case c31 => k_is); (case k31 => k_is)
    (case q_LEAST => k_is); (case q_GAIN => k_is); (case q_TOP => k_is); (case q_MANY => k_is); (case q_WAYS => k_is); (case q_START => k_is); (case q_END => k_is); (case q_CHANGE => k_is); (case q_NUMBERS => k_is); (case q_TIMES => k_is)
    (case z_abs => k_is); (case z_bool => k_is); (case z_enumerate => k_is); (case z_int => k_is); (case z_isinstance => k_is); (case z_len => k_is); (case z_list => k_is); (case z_max => k_is); (case z_min => k_is); (case z_range => k_is); (case z_reversed => k_is); (case z_sum => k_is); (case z_tuple => k_is)
