import PyProof.Rows.All
import Wide.All
import OpenK.AllK
import Wide.FinOn
import Lean
import PyProof.EqAt
import PyProof.EqKinds
import PyProof.NeData
import PyProof.TupleCall
import KE.KRevIter
import KE.KRevSl
import PyProof.MinMaxWalk
import PyProof.ZipIter
import PyProof.Rows.Range3
import PyProof.Rows.CallKwBuiltin
import PyProof.DictWalks
import PyProof.ReprRoads
import PyProof.ReprLen
import PyProof.CallFns
import KE.KEqDict
import PyProof.P3In
import PyProof.MeetsDictList
import PyProof.Cells
import PySem.Challenge.RW_trudge_k73_cheapest_paid
set_option Elab.async false
set_option linter.all false
set_option maxRecDepth 100000
set_option genInjectivity false
set_option genSizeOf false
namespace L2
open PySem PySem.Spec PyProof.Rows
theorem el3 {α β γ : Type} {R T K : α → β → γ → Prop} {p : Prop} (h : ∃ a b c, R a b c ∧ T a b c ∧ K a b c) (f : ∀ a b c, R a b c → T a b c → K a b c → p) : p := h.elim fun a h => h.elim fun b h => h.elim fun c h => f a b c h.1 h.2.1 h.2.2
theorem el5 {α β : Type} {R T K : α → β → Prop} {p : Prop} (h : ∃ a b, R a b ∧ T a b ∧ K a b) (f : ∀ a b, R a b → T a b → K a b → p) : p := h.elim fun a h => h.elim fun b h => f a b h.1 h.2.1 h.2.2
theorem el2 {α : Type} {A B : α → Prop} {p : Prop} (h : ∃ a, A a ∧ B a) (f : ∀ a, A a → B a → p) : p := h.elim fun a h => f a h.1 h.2
abbrev Key := Sum Int Str
def keyIs : Key → Value → Bool
 | .inl k, v => Value.isInt k v
 | .inr x, v => Value.isStrOf x v
def keyH (w : World) : Key → Int
 | .inl k => hashInt k
 | .inr x => hashStr w x
theorem keyIs_shape : ∀ {k : Key} {v : Value}, keyIs k v = true → (∃ i t, k = Sum.inl i ∧ v = Value.int i t) ∨ (∃ x t, k = Sum.inr x ∧ v = Value.str x t)
 | .inl i, v, h => by
  obtain ⟨t, e⟩ := Value.isInt_shape (k := i) (v := v) h
  exact .inl ⟨i, t, rfl, e⟩
 | .inr x, v, h => by
  obtain ⟨t, e⟩ := Value.isStrOf_shape (x := x) (v := v) h
  exact .inr ⟨x, t, rfl, e⟩
theorem keyIs_int (i : Int) (t : Tok) : keyIs (.inl i) (.int i t) = true := by simp [keyIs, Value.isInt]
theorem keyIs_str (x : Str) (t : Tok) : keyIs (.inr x) (.str x t) = true := by simp [keyIs, Value.isStrOf]
theorem key_ll (a b : Int) : decide ((Sum.inl a : Key) = Sum.inl b) = (a == b) := by
 by_cases e : a = b
 ·subst e; simp
 ·have h : ¬ (Sum.inl a : Key) = Sum.inl b := fun q => e (Sum.inl.inj q)
  rw [decide_eq_false h]
  exact (beq_eq_false_iff_ne.mpr e).symm
theorem key_rr (a b : Str) : decide ((Sum.inr a : Key) = Sum.inr b) = decide (a = b) := by
 by_cases e : a = b
 ·subst e; simp
 ·have h : ¬ (Sum.inr a : Key) = Sum.inr b := fun q => e (Sum.inr.inj q)
  rw [decide_eq_false h, decide_eq_false e]
theorem key_lr (a : Int) (b : Str) : decide ((Sum.inl a : Key) = Sum.inr b) = false := decide_eq_false (fun q => nomatch q)
theorem key_rl (a : Str) (b : Int) : decide ((Sum.inr a : Key) = Sum.inl b) = false := decide_eq_false (fun q => nomatch q)
def mixKind (prog : Program) (w : World) : PySem.KeyKind prog w Key where
 is := keyIs
 hash := keyH w
 inj := fun v a b ha hb => by
  rcases keyIs_shape ha with ⟨i, t, rfl, rfl⟩ | ⟨x, t, rfl, rfl⟩
  ·rcases keyIs_shape hb with ⟨j, u, rfl, e⟩ | ⟨y, u, rfl, e⟩
   ·injection e with e1 _; rw [e1]
   ·exact nomatch e
  ·rcases keyIs_shape hb with ⟨j, u, rfl, e⟩ | ⟨y, u, rfl, e⟩
   ·exact nomatch e
   ·injection e with e1 _; rw [e1]
 byValue := fun k v h => by
  rcases keyIs_shape h with ⟨i, t, rfl, rfl⟩ | ⟨x, t, rfl, rfl⟩ <;> rfl
 pyHash := fun hv h => by
  rcases keyIs_shape hv with ⟨i, t, rfl, rfl⟩ | ⟨x, t, rfl, rfl⟩
  ·exact wpAny_pyHash_int h
  ·exact wpAny_pyHash_str h
 eqBool := fun hu hv h => by
  rcases keyIs_shape hu with ⟨i, t, rfl, rfl⟩ | ⟨x, t, rfl, rfl⟩
  ·rcases keyIs_shape hv with ⟨j, u, rfl, rfl⟩ | ⟨y, u, rfl, rfl⟩
   ·rw [key_ll] at h; exact wpAny_eqBool_int h
   ·rw [key_lr] at h; exact SeqAt.EqAt.int_str i t y u _ _ _ _ h
  ·rcases keyIs_shape hv with ⟨j, u, rfl, rfl⟩ | ⟨y, u, rfl, rfl⟩
   ·rw [key_rl] at h; exact SeqAt.EqAt.str_int x t j u _ _ _ _ h
   ·rw [key_rr] at h; exact wpAny_eqBool_str h
 «strs» := fun k x t v h => by
  rcases keyIs_shape h with ⟨i, u, rfl, e⟩ | ⟨y, u, rfl, e⟩
  ·exact nomatch e
  ·injection e with e1 _
   subst e1
   cases v <;> rfl
theorem mixKind_int (prog : Program) (w : World) (i : Int) (t : Tok) : (mixKind prog w).is (.inl i) (.int i t) = true := keyIs_int i t
theorem mixKind_str (prog : Program) (w : World) (x : Str) (t : Tok) : (mixKind prog w).is (.inr x) (.str x t) = true := keyIs_str x t
end L2
namespace L2
open PySem PySem.Spec PyProof.Rows
set_option genInjectivity true in
inductive V where
 | non | bl (b : Bool) | int (i : Int) | str (x : Str) | byt (b : Array UInt8) | flt (b : UInt64) | ref (a : Addr) | ty (n : String)
 deriving DecidableEq
def RelV : V → Value → Prop
 | .non, u => u = Value.none
 | .bl b, u => u = Value.bool b
 | .int i, u => ∃ t, u = Value.int i t
 | .str x, u => ∃ t, u = Value.str x t
 | .byt b, u => ∃ t, u = Value.bytes b t
 | .flt b, u => ∃ t, u = Value.float b t
 | .ref a, u => u = Value.ref a
 | .ty n, u => u = Value.type n
abbrev Vals : List V → List Value → Prop := Paired RelV
theorem Vals.length {xs : List V} {us : List Value} (r : Vals xs us) : xs.length = us.length := Paired.length r
theorem Vals.get : ∀ {xs : List V} {us : List Value} {i : Nat} {x : V}, Vals xs us → xs[i]? = some x → ∃ u, us[i]? = some u ∧ RelV x u
 | _, _, _, _, .nil, e => by simp at e
 | _, _, 0, _, .cons r _, e => by simp at e; subst e; exact ⟨_, rfl, r⟩
 | _, _, i + 1, x, .cons _ t, e => by
  obtain ⟨u, h1, h2⟩ := Vals.get (i := i) (x := x) t (by simpa using e)
  exact ⟨u, by simpa using h1, h2⟩
theorem Vals.set {x : V} {u : Value} (r : RelV x u) : ∀ {xs : List V} {us : List Value} (i : Nat), Vals xs us → Vals (xs.set i x) (us.set i u)
 | _, _, _, .nil => .nil
 | _, _, 0, .cons _ t => .cons r t
 | _, _, i + 1, .cons q t => .cons q (Vals.set r i t)
theorem Vals.append {xs ys : List V} {us ws : List Value} (h : Vals xs us) (s : Vals ys ws) : Vals (xs ++ ys) (us ++ ws) := by
 induction h with
 | nil => exact s
 | cons r t ih => exact .cons r ih
theorem Vals.take : ∀ {xs : List V} {us : List Value} (n : Nat), Vals xs us → Vals (xs.take n) (us.take n)
 | _, _, 0, _ => .nil
 | _, _, _ + 1, .nil => .nil
 | _, _, n + 1, .cons r t => .cons r (Vals.take n t)
theorem Vals.drop : ∀ {xs : List V} {us : List Value} (n : Nat), Vals xs us → Vals (xs.drop n) (us.drop n)
 | _, _, 0, r => r
 | _, _, _ + 1, .nil => .nil
 | _, _, n + 1, .cons _ t => Vals.drop n t
def RelO : Option V → Option Value → Prop
 | some v, some u => RelV v u
 | none, none => True
 | _, _ => False
def KV {κ : Type} : List (κ × V) → List (κ × Value) → Prop := Paired fun (p : κ × V) (q : κ × Value) => p.1 = q.1 ∧ RelV p.2 q.2
def kV : Key → V
 | .inl i => .int i
 | .inr x => .str x
inductive HO where
 | lst (xs : List V)
 | tup (xs : List V)
 | dK (kvs : List (Key × V)) | dT (kvs : List (List Key × V))
 | set (S : Int → Bool) (n : Nat)
 | ins (C dx : Addr) (fs : List (Str × V))
 | own (x : Addr)
 | xd (fs : List (Str × V))
 | met (f x : Addr)
 | rng (lo hi : Int)
 | frz (o : Obj) (u : HO)
 | tbl (ps : Array Value)
 | ext (φ : Heap → Prop)
abbrev Hp := Addr → Option HO
def upd (H : Hp) (a : Addr) (o : HO) : Hp := fun b => if b = a then some o else H b
theorem upd_same {H : Hp} {a : Addr} {o : HO} : upd H a o a = some o := by unfold upd; rw [if_pos rfl]
theorem upd_ne {H : Hp} {a b : Addr} {o : HO} (h : b ≠ a) : upd H a o b = H b := by unfold upd; rw [if_neg h]
theorem ne_of {H : Hp} {a b : Addr} {o u : HO} (h : H a = some o) (h' : H b = some u) (d : o ≠ u) : a ≠ b := by
 intro e; subst e; rw [h] at h'; exact d (Option.some.inj h')
theorem ne_of_none {H : Hp} {a b : Addr} {o : HO} (h : H a = some o) (h' : H b = none) : a ≠ b := by
 intro e; subst e; rw [h] at h'; cases h'
section
variable (P : Program) (w : World)
def ObjOk (H : Hp) (h : Heap) (a : Addr) : HO → Prop
 | .lst xs => xs.length ≤ sizeLine ∧ ∃ (its : List Value) (n : Nat), Vals xs its ∧ h.get? a = some { cls := .type "list", data := .seq its.toArray n }
 | .tup xs => xs.length ≤ sizeLine ∧ ∃ its : List Value, Vals xs its ∧ IsTup h a its.toArray
 | .dK kvs => kvs.length ≤ sizeLine ∧ (a == sysModules) = false ∧ ∃ vs, KV kvs vs ∧ h.DictOf (mixKind P w) a vs
 | .dT kvs => kvs.length ≤ sizeLine ∧ (a == sysModules) = false ∧ ∃ xs : List (List Key × Addr × Value),
   Paired (fun (p : List Key × V) (q : List Key × Addr × Value) => p.1 = q.1 ∧ H q.2.1 = some (.tup (p.1.map kV)) ∧ RelV p.2 q.2.2) kvs xs ∧
   ∃ o es ep, h.get? a = some o ∧ o.ExactDict ∧ o.data = .dict es ep ∧ es.toList = xs.map (entryOfKey (tupleKind (mixKind P w))) ∧ (xs.map (·.1)).Nodup
 | .set S n => h.SetOf (intKind P w) a S n
 | .ins C dx fs => H dx = some (.own a) ∧ fs.length ≤ 1000 ∧ dx ≠ a ∧ h.get? a = some (PySem.W.instObj C dx) ∧
   ∃ mA, h.Ns1 dx mA ∧ (∀ f, RelO (fs.lookup f) (mA f)) ∧ PySem.Within mA (fs.map (·.1))
 | .own _ => ∃ o, h.get? a = some o
 | .xd fs => ∃ mA, h.Ns1 a mA ∧ ∀ f, RelO (fs.lookup f) (mA f)
 | .rng lo hi => ∃ t u v, h.get? a = some { cls := .type "range", data := .fields #[.int lo t, .int hi u, .int 1 v] }
 | .frz o u => h.get? a = some o ∧ ObjOk H h a u
 | .tbl ps => h.get? a = some { cls := .none, data := .fields ps }
 | .met f x => h.get? a = some (PySem.W.methodObj (.ref f) (.ref x))
 | .ext φ => φ h ∧ (∃ o, h.get? a = some o) ∧ ∀ h1 h2 : Heap, φ h1 → (∀ o, h1.get? a = some o → h2.get? a = some o) → φ h2
def HOk (H : Hp) (h : Heap) : Prop := ∀ a o, H a = some o → ObjOk P w H h a o
end
section
variable {P : Program} {w : World} {H H' : Hp} {h h' : Heap} {a : Addr} {o : HO}
theorem ObjOk.lt (x : ObjOk P w H h a o) : a < h.objs.size := by
 cases o with
 | lst xs => obtain ⟨_, _, _, _, e⟩ := x; exact Heap.lt_size e
 | tup xs => obtain ⟨_, _, _, p⟩ := x; exact p.lt
 | dK kvs => obtain ⟨_, _, _, _, o, _, _, e, _⟩ := x; exact Heap.lt_size e
 | dT kvs => obtain ⟨_, _, _, _, o, _, _, e, _⟩ := x; exact Heap.lt_size e
 | set S n => obtain ⟨o, _, _, _, e, _⟩ := x; exact Heap.lt_size e
 | ins C dx fs => obtain ⟨_, _, _, e, _⟩ := x; exact Heap.lt_size e
 | own y => obtain ⟨_, e⟩ := x; exact Heap.lt_size e
 | xd fs => obtain ⟨_, ⟨_, _, _, e, _⟩, _⟩ := x; exact Heap.lt_size e
 | rng lo hi => obtain ⟨_, _, _, e⟩ := x; exact Heap.lt_size e
 | frz ob u => obtain ⟨e, _⟩ := x; exact Heap.lt_size e
 | tbl ps => exact Heap.lt_size (show h.get? a = some _ from x)
 | met f y => exact Heap.lt_size (show h.get? a = some _ from x)
 | ext φ => obtain ⟨_, ⟨_, e⟩, _⟩ := x; exact Heap.lt_size e
theorem Paired.mapP {α β : Type} {F G : α → β → Prop} {l₁ : List α} {l₂ : List β} (h : Paired F l₁ l₂) (f : ∀ a b, F a b → G a b) : Paired G l₁ l₂ := by
 induction h with
 | nil => exact .nil
 | cons r t ih => exact .cons (f _ _ r) ih
theorem ObjOk.stay (x : ObjOk P w H h a o) (k : ∀ b u, (b = a ∨ H b = some (.own a)) → h.get? b = some u → h'.get? b = some u)
  (ho : ∀ b, H b = some (.own a) → H' b = some (.own a)) (ht : ∀ b xs, H b = some (.tup xs) → H' b = some (.tup xs)) : ObjOk P w H' h' a o := by
 induction o with
 | lst xs => obtain ⟨z, its, n, r, e⟩ := x; exact ⟨z, its, n, r, k _ _ (.inl rfl) e⟩
 | tup xs => obtain ⟨z, its, r, ob, e, c⟩ := x; exact ⟨z, its, r, ob, k _ _ (.inl rfl) e, c⟩
 | dK kvs => obtain ⟨z, y, vs, r, ob, es, ep, e, c⟩ := x; exact ⟨z, y, vs, r, ob, es, ep, k _ _ (.inl rfl) e, c⟩
 | dT kvs =>
  obtain ⟨z, y, xs, r, ob, es, ep, e, c⟩ := x
  exact ⟨z, y, xs, Paired.mapP r fun p q z => ⟨z.1, ht _ _ z.2.1, z.2.2⟩, ob, es, ep, k _ _ (.inl rfl) e, c⟩
 | set S n => obtain ⟨ob, es, ep, t, e, c⟩ := x; exact ⟨ob, es, ep, t, k _ _ (.inl rfl) e, c⟩
 | ins C dx fs =>
  obtain ⟨d, z, ne, e, mA, ⟨od, es, ep, e2, c⟩, r⟩ := x
  exact ⟨ho _ d, z, ne, k _ _ (.inl rfl) e, mA, ⟨od, es, ep, k _ _ (.inr d) e2, c⟩, r⟩
 | own y => obtain ⟨ob, e⟩ := x; exact ⟨ob, k _ _ (.inl rfl) e⟩
 | xd fs => obtain ⟨mA, ⟨od, es, ep, e, c⟩, r⟩ := x; exact ⟨mA, ⟨od, es, ep, k _ _ (.inl rfl) e, c⟩, r⟩
 | rng lo hi => obtain ⟨t, u, v, e⟩ := x; exact ⟨t, u, v, k _ _ (.inl rfl) e⟩
 | frz ob u ih => obtain ⟨e, q⟩ := x; exact ⟨k _ _ (.inl rfl) e, ih q⟩
 | tbl ps =>
  have e : h.get? a = some { cls := .none, data := .fields ps } := x
  show h'.get? a = some { cls := .none, data := .fields ps }
  exact k a _ (.inl rfl) e
 | met f y =>
  have e : h.get? a = some (PySem.W.methodObj (.ref f) (.ref y)) := x
  show h'.get? a = some (PySem.W.methodObj (.ref f) (.ref y))
  exact k a _ (.inl rfl) e
 | ext φ => obtain ⟨p, ⟨o, e⟩, st⟩ := x; exact ⟨st _ _ p fun o q => k _ _ (.inl rfl) q, ⟨o, k _ _ (.inl rfl) e⟩, st⟩
theorem HOk.lt (x : HOk P w H h) (e : H a = some o) : a < h.objs.size := (x a o e).lt
theorem HOk.fresh (x : HOk P w H h) (e : h.objs.size ≤ a) : H a = none := by
 cases q : H a with
 | none => rfl
 | some u => exact absurd (Nat.lt_of_lt_of_le (x.lt q) e) (Nat.lt_irrefl _)
theorem HOk.kept (x : HOk P w H h) (k : ∀ b u, h.get? b = some u → h'.get? b = some u) : HOk P w H h' := fun a o e =>
 (x a o e).stay (fun b u _ q => k b u q) (fun _ q => q) fun _ _ q => q
theorem HOk.laid (x : HOk P w H h) (k : ∀ b u, h.get? b = some u → h'.get? b = some u) (hp : h.objs.size ≤ a) (new : ObjOk P w (upd H a o) h' a o) : HOk P w (upd H a o) h' := fun b u e => by
 have hn := x.fresh hp
 by_cases hb : b = a
 ·subst hb; rw [upd_same] at e; cases e; exact new
 ·rw [upd_ne hb] at e
  exact (x b u e).stay (fun c v _ q => k c v q) (fun c q => by rw [upd_ne (ne_of_none q hn)]; exact q) fun c xs q => by rw [upd_ne (ne_of_none q hn)]; exact q
end
def Rd (H : Hp) (a : Addr) (u : HO) : Prop := H a = some u ∨ ∃ o, H a = some (.frz o u)
theorem Rd.ok {P : Program} {w : World} {H : Hp} {h : Heap} {a : Addr} {u : HO} (r : Rd H a u) (x : HOk P w H h) : ObjOk P w H h a u := by
 rcases r with r | ⟨o, r⟩
 ·exact x a u r
 ·obtain ⟨_, q⟩ := x a _ r
  exact q
def Mut : Option HO → Prop
 | some (.lst _) => True
 | some (.dK _) => True
 | some (.dT _) => True
 | some (.set _ _) => True
 | some (.ins _ _ _) => True
 | some (.ext _) => True
 | _ => False
section
variable {P : Program} {w : World} {H : Hp} {h h' : Heap} {x e : Addr} {o' : HO}
theorem HOk.write (ok : HOk P w H h) (mu : Mut (H x)) (he : e = x ∨ H e = some (.own x)) (k : ∀ b u, b ≠ e → h.get? b = some u → h'.get? b = some u) (heo : ∃ u, h'.get? e = some u)
  (new : ObjOk P w (upd H x o') h' x o') : HOk P w (upd H x o') h' := fun b u q => by
 have nown : ∀ c y, H c = some (.own y) → c ≠ x := fun c y r z => by subst z; rw [r] at mu; exact mu
 have ntup : ∀ c xs, H c = some (.tup xs) → c ≠ x := fun c xs r z => by subst z; rw [r] at mu; exact mu
 by_cases hb : b = x
 ·subst hb; rw [upd_same] at q; cases q; exact new
 ·rw [upd_ne hb] at q
  by_cases hbe : b = e
  ·have q' : H b = some (.own x) := by
    rcases he with z | z
    ·exact absurd (hbe.trans z) hb
    ·rw [hbe]; exact z
   rw [q] at q'; cases q'
   obtain ⟨v, hv⟩ := heo
   exact ⟨v, by rw [hbe]; exact hv⟩
  ·refine (ok b u q).stay (fun c v hc r => k c v ?_ r) (fun c r => by rw [upd_ne (nown c b r)]; exact r) fun c xs r => by rw [upd_ne (ntup c xs r)]; exact r
   rcases hc with rfl | hc
   ·exact hbe
   ·rintro rfl
    rcases he with z | z
    ·exact nown c b hc z
    ·rw [hc] at z; cases z; exact hb rfl
end
structure Un (fs ex : List Addr) (H H' : Hp) (h h' : Heap) : Prop where
 keep : ∀ b o, h.get? b = some o → H b = none → b ∉ fs → b ∉ ex → h'.get? b = some o
 slot : ∀ b o, h.get? b = some o → H b = none → b ∈ fs → b ∉ ex → ∃ sl, h'.get? b = some { o with slots := sl }
 free : ∀ b o, h.get? b = some o → H b = none → b ∉ ex → H' b = none
 there : ∀ b o, h.get? b = some o → b ∉ ex → ∃ o', h'.get? b = some o'
 tups : ∀ b xs, H b = some (.tup xs) → H' b = some (.tup xs)
 frzs : ∀ b o u, H b = some (.frz o u) → H' b = some (.frz o u)
 tbls : ∀ b ps, H b = some (.tbl ps) → ∃ more, H' b = some (.tbl (ps ++ more))
section
variable {fs fs' ex ex' : List Addr} {H H1 H2 : Hp} {h h1 h2 h' : Heap} {a x e : Addr} {o : HO}
theorem Un.any (u : Un fs ex H H1 h h1) {b : Addr} {ob : Obj} (q : h.get? b = some ob) (n : H b = none) (hx : b ∉ ex) : ∃ sl, h1.get? b = some { ob with slots := sl } := by
 by_cases hb : b ∈ fs
 ·exact u.slot b ob q n hb hx
 ·exact ⟨ob.slots, u.keep b ob q n hb hx⟩
theorem Un.kept (k : ∀ b u, h.get? b = some u → h'.get? b = some u) : Un fs ex H H h h' :=
 ⟨fun b ob q _ _ _ => k b ob q, fun b ob q _ _ _ => ⟨ob.slots, k b ob q⟩, fun _ _ _ n _ => n, fun b ob q _ => ⟨ob, k b ob q⟩, fun _ _ q => q, fun _ _ _ q => q, fun _ ps q => ⟨#[], by rw [q]; simp⟩⟩
theorem Un.refl : Un fs ex H H h h := Un.kept fun _ _ q => q
theorem Un.laid (k : ∀ b u, h.get? b = some u → h'.get? b = some u) (hp : h.objs.size ≤ a) (hn : H a = none) : Un fs ex H (upd H a o) h h' where
 keep := fun b u q _ _ _ => k b u q
 slot := fun b u q _ _ _ => ⟨u.slots, k b u q⟩
 free := fun b u q n _ => by rw [upd_ne (Nat.ne_of_lt (Nat.lt_of_lt_of_le (Heap.lt_size q) hp))]; exact n
 there := fun b u q _ => ⟨u, k b u q⟩
 tups := fun b xs q => by rw [upd_ne (ne_of_none q hn)]; exact q
 frzs := fun b u xs q => by rw [upd_ne (ne_of_none q hn)]; exact q
 tbls := fun b ps q => ⟨#[], by rw [upd_ne (ne_of_none q hn), q]; simp⟩
theorem Un.write (mu : Mut (H x)) (he : e = x ∨ H e = some (.own x)) (k : ∀ b u, b ≠ e → h.get? b = some u → h'.get? b = some u) (heo : ∃ u, h'.get? e = some u) : Un fs ex H (upd H x o) h h' := by
 have hx : ∀ b, H b = none → b ≠ x := fun b n z => by subst z; rw [n] at mu; exact mu
 have hb : ∀ b, H b = none → b ≠ e := fun b n z => by
  subst z
  rcases he with r | r
  ·exact hx b n r
  ·rw [n] at r; cases r
 have hm : ∀ b u, H b = some u → ¬ Mut (some u) → b ≠ x := fun b u q nm z => by subst z; rw [q] at mu; exact nm mu
 refine ⟨fun b u q n _ _ => k b u (hb b n) q, fun b u q n _ _ => ⟨u.slots, k b u (hb b n) q⟩, fun b u q n _ => by rw [upd_ne (hx b n)]; exact n, fun b u q _ => ?_,
  fun b xs q => by rw [upd_ne (hm b _ q fun z => z)]; exact q, fun b u xs q => by rw [upd_ne (hm b _ q fun z => z)]; exact q, fun b ps q => ⟨#[], by rw [upd_ne (hm b _ q fun z => z), q]; simp⟩⟩
 by_cases hbe : b = e
 ·subst hbe; exact heo
 ·exact ⟨u, k b u hbe q⟩
end
def trk (h : Heap) (H : Hp) : List Addr := (List.range h.objs.size).filter fun a => (H a).isSome
def hidT (h : Heap) (H : Hp) : Heap := PySem.W.hideAll h (trk h H)
theorem hidT_size (h : Heap) (H : Hp) : (hidT h H).objs.size = h.objs.size := PySem.W.hideAll_size _ _
theorem hidT_get {h : Heap} {H : Hp} {b : Addr} {o : Obj} (e : h.get? b = some o) (n : H b = none) : (hidT h H).get? b = some o :=
 PySem.W.hideAll_get _ e fun hm => by
  have q : (H b).isSome = true := (List.mem_filter.mp hm).2
  rw [n] at q; simp at q
theorem of_hidT {h : Heap} {H : Hp} {b : Addr} {o : Obj} (e : (hidT h H).get? b = some o) : h.get? b = some o ∧ H b = none := by
 have e' : h.get? b = some o := PySem.W.of_hideAll (trk h H) e
 refine ⟨e', ?_⟩
 cases q : H b with
 | none => rfl
 | some x =>
  have hm : b ∈ trk h H := List.mem_filter.mpr ⟨List.mem_range.mpr (Heap.lt_size e'), by simp [q]⟩
  have z : (hidT h H).get? b = none := PySem.W.hideAll_none (trk h H) hm
  rw [z] at e; cases e
def allNews (g h : Heap) (L : Addr) : List (Addr × Obj) := (List.range h.objs.size).filterMap fun a => if a = L ∨ (g.get? a).isSome = true then none else (h.get? a).map fun o => (a, o)
def rest (g h : Heap) (L d : Addr) : List (Addr × Obj) := (allNews g h L).filter fun p => decide (p.1 ≠ d)
end L2
namespace L2
open PySem PySem.Spec PyProof.Rows
structure Mod (K : PySem.W.Frag) (mg : Str → Option Value) (base : Heap) : Prop where
 kin : K.In base
 glob : base.Ns mainGlobals mg
 blt : ∃ mb, base.Ns builtinsNs mb ∧ ∀ x : Str, x ≠ "__name__" → mb x = bootBuiltins x
 nolimit : base.NoLimit
structure Cx where
 prog : Program
 w : World
 K : PySem.W.Frag
 mg : Str → Option Value
 base : Heap
 A : Around
 N : List Str
 s₀ : Shared
 H₀ : Hp
 env : Env
 outer : List Env
 stack : List Env
 ex : List Addr
 fn : Str → Bool
 calm : Bool
 pn : List (Addr × Obj)
 xe : Value → Shared → Prop
def frs (l : List Env) : List Addr := l.filterMap (·.frame)
abbrev Cx.fs (X : Cx) : List Addr := frs X.outer
def Vis (sc : Scope) (x : Str) : Prop := sc.names.lookup x = some .local ∨ sc.names.lookup x = some .cell ∨ sc.names.lookup x = some .free
def Loc (sc : Scope) (x : Str) : Prop := sc.names.lookup x = some .local ∨ sc.names.lookup x = some .cell
def Look (env : Env) (h : Heap) (m : Str → Option Value) (x : Str) (u : Value) : Prop :=
 (env.kindOf x = some .local ∧ m x = some u) ∨ ((env.kindOf x = some .cell ∨ env.kindOf x = some .free) ∧ ∃ c, env.cells.lookup x = some c ∧ h.IsCell c (some u))
structure Cx.Ok (X : Cx) : Prop where
 mod : Mod X.K X.mg X.base
 kind : X.env.scope.kind = .function
 glob : X.env.globals = mainGlobals
 blt : X.env.builtins = builtinsNs
 above : X.s₀.heap.objs.size ≤ X.env.locals
 inj : ∀ x y c, X.env.cells.lookup x = some c → X.env.cells.lookup y = some c → x = y
 has : ∀ x, (X.env.kindOf x = some .cell ∨ X.env.kindOf x = some .free) → ∃ c, X.env.cells.lookup x = some c
 cab : ∀ x c, X.fn x = true → X.env.cells.lookup x = some c → X.s₀.heap.objs.size ≤ c
 hd : X.calm = true → X.A.handled = none
 frames : X.A.frames = some X.stack
 stk : X.stack = X.outer ∨ (X.stack = X.env :: X.outer ∧ X.env.frame = some X.env.locals)
 exf : ∀ b ∈ X.ex, b ≠ X.env.locals ∧ ∀ x c, X.env.cells.lookup x = some c → c ≠ b
 bs : ∀ b o, X.base.get? b = some o → X.s₀.heap.get? b = some o ∧ X.H₀ b = none
 bsz : X.base.objs.size ≤ X.s₀.heap.objs.size
 noex : ∀ b o, X.base.get? b = some o → b ∉ X.ex
 exfs : ∀ b ∈ X.ex, b ∉ X.fs
 funs : X.s₀.heap.FunFrames X.base X.outer
 frf : ∀ b ∈ X.fs, X.H₀ b = none
structure Inv (X : Cx) (pins : List (Addr × Obj)) (σ : List (Option V)) (H : Hp) (s : Shared) : Prop where
 ok : X.Ok
 os : s.os = X.s₀.os
 bare : AllBare s.gens
 base : Un X.fs X.ex X.H₀ H X.s₀.heap s.heap
 loc : ∃ m, s.heap.Ns X.env.locals m ∧ ∀ (i : Nat) (x : Str) (v : V), X.N[i]? = some x → σ[i]? = some (some v) → Vis X.env.scope x → ∃ u, RelV v u ∧ Look X.env s.heap m x u
 cell : ∀ x c, X.env.cells.lookup x = some c → ∃ v, s.heap.IsCell c v
 free : H X.env.locals = none
 freeC : ∀ x c, X.env.cells.lookup x = some c → H c = none
 pin : ∀ p ∈ X.pn ++ pins, s.heap.get? p.1 = some p.2 ∧ H p.1 = none ∧ p.1 ≠ X.env.locals ∧ p.1 ∉ X.fs ∧ ∀ v, p.2.data ≠ .cell v
 hok : HOk X.prog X.w H s.heap
 len : σ.length = X.N.length
section
variable {X : Cx} {pins : List (Addr × Obj)} {σ : List (Option V)} {H H' : Hp} {s : Shared} {h' : Heap}
theorem Cx.Ok.nofr (ok : X.Ok) {b : Addr} {o : Obj} (e : X.base.get? b = some o) : b ∉ X.fs := fun hb => by
 have := (ok.funs.mem hb).1
 rw [e] at this; cases this
theorem Inv.bs (I : Inv X pins σ H s) : ∀ b o, X.base.get? b = some o → s.heap.get? b = some o ∧ H b = none := fun b o e =>
 ⟨I.base.keep b o (I.ok.bs b o e).1 (I.ok.bs b o e).2 (I.ok.nofr e) (I.ok.noex b o e), I.base.free b o (I.ok.bs b o e).1 (I.ok.bs b o e).2 (I.ok.noex b o e)⟩
theorem Inv.bk (I : Inv X pins σ H s) : ∀ b o, X.base.get? b = some o → s.heap.get? b = some o := fun b o e => (I.bs b o e).1
theorem Inv.mod (I : Inv X pins σ H s) : Mod X.K X.mg X.base := I.ok.mod
theorem Inv.kIn (I : Inv X pins σ H s) : X.K.In s.heap := I.ok.mod.kin.keeps I.bk
theorem Inv.lt (I : Inv X pins σ H s) : X.env.locals < s.heap.objs.size := let ⟨_, hn, _⟩ := I.loc; hn.lt
theorem Inv.sz (I : Inv X pins σ H s) : X.s₀.heap.objs.size ≤ s.heap.objs.size := Nat.le_trans I.ok.above (Nat.le_of_lt I.lt)
theorem Inv.nofs (I : Inv X pins σ H s) {a : Addr} (h : s.heap.objs.size ≤ a) : a ∉ X.fs := fun hb => by
 obtain ⟨_, o, ho, _⟩ := I.ok.funs.mem hb
 exact absurd (Nat.lt_of_lt_of_le (Heap.lt_size ho) (Nat.le_trans I.sz h)) (Nat.lt_irrefl _)
theorem Inv.cne (I : Inv X pins σ H s) : ∀ x c, X.env.cells.lookup x = some c → c ≠ X.env.locals := fun x c e z => by
 obtain ⟨v, o, ho, hd⟩ := I.cell x c e
 obtain ⟨m, ⟨o', es, ep, ho', hd', _⟩, _⟩ := I.loc
 rw [z, ho'] at ho; cases ho; rw [hd'] at hd; cases hd
theorem Inv.funs (I : Inv X pins σ H s) : s.heap.FunFrames X.base X.outer := by
 have all : ∀ (l : List Env), (∀ b ∈ frs l, b ∈ X.fs) → X.s₀.heap.FunFrames X.base l → s.heap.FunFrames X.base l := by
  intro l
  induction l with
  | nil => intro _ _; trivial
  | cons env r ih =>
   intro hs hl
   obtain ⟨hk, ⟨L, o, hf, hn, ho, hd⟩, hr⟩ := hl
   have hL : L ∈ X.fs := hs L (by unfold frs; rw [List.filterMap_cons, hf]; exact List.mem_cons_self)
   obtain ⟨sl, e⟩ := I.base.slot L o ho (I.ok.frf L hL) hL fun z => I.ok.exfs L z hL
   exact ⟨hk, ⟨L, _, hf, hn, e, hd⟩, ih (fun b hb => hs b (by unfold frs; rw [List.filterMap_cons, hf]; exact List.mem_cons_of_mem _ hb)) hr⟩
 exact all X.outer (fun _ hb => hb) I.ok.funs
theorem Inv.stack (I : Inv X pins σ H s) : s.heap.FunFrames X.base X.stack := by
 rcases I.ok.stk with e | ⟨e, hf⟩
 ·rw [e]; exact I.funs
 ·rw [e]
  obtain ⟨m, hn, _⟩ := I.loc
  refine .cons (by rw [I.ok.kind]; decide) hf hn ?_ I.funs
  exact Heap.get?_none_of_le (Nat.le_trans I.ok.bsz I.ok.above)
theorem Inv.stkSub (I : Inv X pins σ H s) : ∀ b ∈ frs X.stack, b ∈ X.env.locals :: X.fs := fun b hb => by
 rcases I.ok.stk with e | ⟨e, hf⟩
 ·rw [e] at hb; exact List.mem_cons_of_mem _ hb
 ·rw [e] at hb
  unfold frs at hb
  rw [List.filterMap_cons, hf] at hb
  exact hb
theorem Inv.stkFree (I : Inv X pins σ H s) : ∀ b ∈ frs X.stack, H b = none := fun b hb => by
 rcases List.mem_cons.mp (I.stkSub b hb) with e | hb
 ·rw [e]; exact I.free
 ·obtain ⟨_, o, ho, _⟩ := I.ok.funs.mem hb
  exact I.base.free b o ho (I.ok.frf b hb) fun z => I.ok.exfs b z hb
theorem Inv.step {g' : Array GenState} {t' : Nat} {d' : Drawn} {ch : List Addr} (I : Inv X pins σ H s)
  (hch : ∀ b ∈ ch, (b ∈ X.ex ∨ X.s₀.heap.objs.size ≤ b) ∧ b ≠ X.env.locals ∧ (∀ x c, X.env.cells.lookup x = some c → c ≠ b) ∧ ∀ p ∈ X.pn ++ pins, p.1 ≠ b)
  (keep : ∀ b o, b ≠ X.env.locals → b ∉ X.fs → b ∉ ch → s.heap.get? b = some o → H b = none → h'.get? b = some o)
  (slot : ∀ b o, b ≠ X.env.locals → b ∈ X.fs → b ∉ ch → s.heap.get? b = some o → H b = none → ∃ sl, h'.get? b = some { o with slots := sl }) (free : ∀ b o, b ∉ ch → s.heap.get? b = some o → H b = none → H' b = none)
  (there : ∀ b o, b ∉ ch → s.heap.get? b = some o → ∃ o', h'.get? b = some o')
  (tups : ∀ b xs, H b = some (.tup xs) → H' b = some (.tup xs)) (frzs : ∀ b o u, H b = some (.frz o u) → H' b = some (.frz o u)) (tbls : ∀ b ps, H b = some (.tbl ps) → ∃ more, H' b = some (.tbl (ps ++ more)))
  (ns : ∀ m, s.heap.Ns X.env.locals m → h'.Ns X.env.locals m) (hok : HOk X.prog X.w H' h') (hg : AllBare g') :
  Inv X pins σ H' { s with heap := h', gens := g', drawn := d', toks := t' } := by
 have neL : ∀ b o, X.s₀.heap.get? b = some o → b ≠ X.env.locals := fun b o e => Nat.ne_of_lt (Nat.lt_of_lt_of_le (Heap.lt_size e) I.ok.above)
 have neC : ∀ b o, X.s₀.heap.get? b = some o → b ∉ X.ex → b ∉ ch := fun b o e hx hb => by
  rcases (hch b hb).1 with z | z
  ·exact hx z
  ·exact absurd (Nat.lt_of_lt_of_le (Heap.lt_size e) z) (Nat.lt_irrefl _)
 have cellK : ∀ x c, X.env.cells.lookup x = some c → ∀ v, s.heap.IsCell c v → h'.IsCell c v := fun x c e v zz1 => el2 zz1 fun o ho hd => by
  have nch : c ∉ ch := fun z => (hch c z).2.2.1 x c e rfl
  by_cases hc : c ∈ X.fs
  ·obtain ⟨sl, q⟩ := slot c o (I.cne x c e) hc nch ho (I.freeC x c e)
   exact ⟨_, q, hd⟩
  ·exact ⟨o, keep c o (I.cne x c e) hc nch ho (I.freeC x c e), hd⟩
 refine ⟨I.ok, I.os, hg, ⟨fun b o e n hb hx => ?_, fun b o e n hb hx => ?_, fun b o e n hx => ?_, fun b o e hx => ?_, fun b xs e => tups b xs (I.base.tups b xs e), fun b o xs e => frzs b o xs (I.base.frzs b o xs e), fun b ps e => ?_⟩, ?_, fun x c e => ?_, ?_, fun x c e => ?_, fun p hp => ?_, hok, I.len⟩
 ·exact keep b o (neL b o e) hb (neC b o e hx) (I.base.keep b o e n hb hx) (I.base.free b o e n hx)
 ·obtain ⟨sl, e1⟩ := I.base.slot b o e n hb hx
  obtain ⟨sl', e2⟩ := slot b _ (neL b o e) hb (neC b o e hx) e1 (I.base.free b o e n hx)
  exact ⟨sl', e2⟩
 ·obtain ⟨o', e1⟩ := I.base.there b o e hx
  exact free b o' (neC b o e hx) e1 (I.base.free b o e n hx)
 ·obtain ⟨o', e1⟩ := I.base.there b o e hx
  exact there b o' (neC b o e hx) e1
 ·obtain ⟨m1, e1⟩ := I.base.tbls b ps e
  obtain ⟨m2, e2⟩ := tbls b _ e1
  exact ⟨m1 ++ m2, by rw [e2, Array.append_assoc]⟩
 ·obtain ⟨m, hn, hl⟩ := I.loc
  refine ⟨m, ns m hn, fun i x v e1 e2 e3 => ?_⟩
  obtain ⟨u, r, l⟩ := hl i x v e1 e2 e3
  refine ⟨u, r, ?_⟩
  rcases l with l | ⟨k, c, e, z⟩
  ·exact .inl l
  ·exact .inr ⟨k, c, e, cellK x c e _ z⟩
 ·obtain ⟨v, z⟩ := I.cell x c e
  exact ⟨v, cellK x c e v z⟩
 ·obtain ⟨m, ⟨o, _, _, ho, _⟩, _⟩ := I.loc
  exact free _ o (fun z => (hch _ z).2.1 rfl) ho I.free
 ·obtain ⟨v, o, ho, hd⟩ := I.cell x c e
  exact free c o (fun z => (hch c z).2.2.1 x c e rfl) ho (I.freeC x c e)
 ·obtain ⟨e, n, ne, nf, d⟩ := I.pin p hp
  have nch : p.1 ∉ ch := fun z => (hch p.1 z).2.2.2 p hp rfl
  exact ⟨keep p.1 p.2 ne nf nch e n, free p.1 p.2 nch e n, ne, nf, d⟩
theorem Inv.un {t' : Nat} (I : Inv X pins σ H s) (u : Un X.fs [] H H' s.heap h') (hok : HOk X.prog X.w H' h') : Inv X pins σ H' { s with heap := h', toks := t' } := by
 obtain ⟨m, ⟨o, es, ep, ho, r⟩, _⟩ := id I.loc
 obtain ⟨sl, hL⟩ := u.any ho I.free (by simp)
 exact I.step (g' := s.gens) (d' := s.drawn) (ch := []) (fun _ z => nomatch z) (fun b o _ hb _ e n => u.keep b o e n hb (by simp)) (fun b o _ hb _ e n => u.slot b o e n hb (by simp)) (fun b o _ e n => u.free b o e n (by simp)) (fun b o _ e => u.there b o e (by simp)) u.tups u.frzs u.tbls (fun m' hm => by
  obtain ⟨o', es', ep', ho', r'⟩ := hm
  rw [ho] at ho'; cases ho'
  exact ⟨_, es', ep', hL, r'⟩) hok I.bare
theorem Inv.call {g' : Array GenState} {t' : Nat} {d' : Drawn} {ch : List Addr} (I : Inv X pins σ H s) (u : Un (frs X.stack) ch H H' s.heap h') (hok : HOk X.prog X.w H' h') (hg : AllBare g')
  (hch : ∀ b ∈ ch, (b ∈ X.ex ∨ X.s₀.heap.objs.size ≤ b) ∧ b ≠ X.env.locals ∧ (∀ x c, X.env.cells.lookup x = some c → c ≠ b) ∧ ∀ p ∈ X.pn ++ pins, p.1 ≠ b) :
  Inv X pins σ H' { s with heap := h', gens := g', drawn := d', toks := t' } := by
 obtain ⟨m, ⟨o, es, ep, ho, r⟩, _⟩ := id I.loc
 obtain ⟨sl, hL⟩ := u.any ho I.free fun z => (hch _ z).2.1 rfl
 exact I.step (ch := ch) hch (fun b o hL hb hc e n => u.keep b o e n (fun z => (List.mem_cons.mp (I.stkSub b z)).elim hL hb) hc) (fun b o _ _ hc e n => u.any e n hc) (fun b o hc e n => u.free b o e n hc) (fun b o hc e => u.there b o e hc) u.tups u.frzs u.tbls (fun m' hm => by
  obtain ⟨o', es', ep', ho', r'⟩ := hm
  rw [ho] at ho'; cases ho'
  exact ⟨_, es', ep', hL, r'⟩) hok hg
theorem Inv.turned {t' : Nat} {it : Addr} (I : Inv X pins σ H s) (k : ∀ b o, b ≠ it → s.heap.get? b = some o → h'.get? b = some o) (hn : H it = none) (hL : it ≠ X.env.locals)
  (h1 : it ∈ X.ex ∨ X.s₀.heap.objs.size ≤ it) (h2 : ∀ x c, X.env.cells.lookup x = some c → c ≠ it) (h3 : ∀ p ∈ X.pn ++ pins, p.1 ≠ it) : Inv X pins σ H { s with heap := h', toks := t' } := by
 have nit : ∀ b u, H b = some u → b ≠ it := fun b u e z => by rw [z, hn] at e; cases e
 refine I.step (g' := s.gens) (d' := s.drawn) (ch := [it]) (fun b hb => ?_) (fun b o _ _ hc e _ => k b o (fun z => hc (by simp [z])) e) (fun b o _ _ hc e _ => ⟨o.slots, k b o (fun z => hc (by simp [z])) e⟩) (fun _ _ _ _ n => n)
  (fun b o hc e => ⟨o, k b o (fun z => hc (by simp [z])) e⟩) (fun _ _ e => e) (fun _ _ _ e => e) (fun b ps e => ⟨#[], by rw [e]; simp⟩) (fun m hm => ?_) (fun b u e => ?_) I.bare
 ·have e : b = it := by simpa using hb
  subst e
  exact ⟨h1, hL, h2, h3⟩
 ·obtain ⟨o, es, ep, ho, r⟩ := hm
  exact ⟨o, es, ep, k _ o (Ne.symm hL) ho, r⟩
 ·refine (I.hok b u e).stay (fun c v hc q => k c v ?_ q) (fun _ q => q) fun _ _ q => q
  rcases hc with z | z
  ·rw [z]; exact nit b u e
  ·exact nit c _ z
theorem Inv.tok (I : Inv X pins σ H s) (t : Nat) : Inv X pins σ H { s with toks := t } := I.un (h' := s.heap) (t' := t) Un.refl I.hok
theorem Inv.kept {t' : Nat} (I : Inv X pins σ H s) (k : ∀ b u, s.heap.get? b = some u → h'.get? b = some u) : Inv X pins σ H { s with heap := h', toks := t' } := I.un (Un.kept k) (I.hok.kept k)
theorem Inv.laid {a : Addr} {o : HO} {t' : Nat} (I : Inv X pins σ H s) (k : ∀ b u, s.heap.get? b = some u → h'.get? b = some u) (hp : s.heap.objs.size ≤ a) (new : ObjOk X.prog X.w (upd H a o) h' a o) :
  Inv X pins σ (upd H a o) { s with heap := h', toks := t' } := I.un (Un.laid k hp (I.hok.fresh hp)) (I.hok.laid k hp new)
theorem Inv.write {x e : Addr} {o : HO} {t' : Nat} (I : Inv X pins σ H s) (mu : Mut (H x)) (he : e = x ∨ H e = some (.own x)) (k : ∀ b u, b ≠ e → s.heap.get? b = some u → h'.get? b = some u) (heo : ∃ u, h'.get? e = some u)
  (new : ObjOk X.prog X.w (upd H x o) h' x o) : Inv X pins σ (upd H x o) { s with heap := h', toks := t' } := I.un (Un.write mu he k heo) (I.hok.write mu he k heo new)
theorem Inv.weak {σ' : List (Option V)} (I : Inv X pins σ H s) (hl : σ'.length = σ.length) (w : ∀ (i : Nat) v, σ'[i]? = some (some v) → σ[i]? = some (some v)) : Inv X pins σ' H s :=
 ⟨I.ok, I.os, I.bare, I.base, let ⟨m, hn, hl'⟩ := I.loc; ⟨m, hn, fun i x v e1 e2 e3 => hl' i x v e1 (w i v e2) e3⟩, I.cell, I.free, I.freeC, I.pin, I.hok, hl.trans I.len⟩
theorem Inv.pins_of {pins' : List (Addr × Obj)} (I : Inv X pins σ H s) (h : ∀ p ∈ pins', s.heap.get? p.1 = some p.2 ∧ H p.1 = none ∧ p.1 ≠ X.env.locals ∧ p.1 ∉ X.fs ∧ ∀ v, p.2.data ≠ .cell v) : Inv X pins' σ H s :=
 ⟨I.ok, I.os, I.bare, I.base, I.loc, I.cell, I.free, I.freeC, fun p hp => (List.mem_append.mp hp).elim (fun z => I.pin p (List.mem_append_left _ z)) (h p), I.hok, I.len⟩
theorem nodup_ix {N : List Str} (hN : N.Nodup) {i j : Nat} {x : Str} (a : N[i]? = some x) (b : N[j]? = some x) : i = j := by
 obtain ⟨h1, e1⟩ := List.getElem?_eq_some_iff.mp a
 obtain ⟨h2, e2⟩ := List.getElem?_eq_some_iff.mp b
 exact (List.getElem_inj hN).mp (e1.trans e2.symm)
theorem store_ok2 {M : Model} {A : Around} {E : Value → Shared → Prop} {i : Nat} {x : Str} {v : V} {u : Value} {Q : Unit → Shared → Prop} (I : Inv X pins σ H s) (hN : X.N.Nodup) (hi : X.N[i]? = some x) (hx : Loc X.env.scope x) (r : RelV v u)
  (h : ∀ s', Inv X pins (σ.set i (some v)) H s' → (∃ a, Heap.SameBut a s.heap s'.heap ∧ (a = X.env.locals ∨ X.env.cells.lookup x = some a)) → Q () s') (hf : X.fn x = true ∨ X.env.scope.names.lookup x = some .local := by first | exact .inl rfl | exact .inr rfl | assumption) : wpAny M A (storeName X.env x u) Q E s := by
 obtain ⟨m, hn, hl⟩ := id I.loc
 have hcls : (X.env.scope.kind == .class || (X.env.scope.kind == .module && X.env.locals != X.env.globals)) = false := by rw [I.ok.kind]; rfl
 have hiσ : i < σ.length := by rw [I.len]; exact (List.getElem?_eq_some_iff.mp hi).1
 have cne := I.cne
 have tracked : ∀ {a : Addr} {h' : Heap}, (∃ o, s.heap.get? a = some o ∧ H a = none) → Heap.SameBut a s.heap h' → HOk X.prog X.w H h' := fun {a h'} ha hs b ob e => by
  obtain ⟨_, _, hfree⟩ := ha
  refine (I.hok b ob e).stay (fun c w' hc q => (hs.2 c ?_).trans q) (fun _ q => q) fun _ _ q => q
  rintro rfl
  rcases hc with rfl | hc
  ·rw [hfree] at e; cases e
  ·rw [hfree] at hc; cases hc
 rcases hx with hk | hk
 ·refine wpAny_storeName_local hk hn (fun h' hn' hs => ?_) hcls
  obtain ⟨oL, _, _, hoL, _⟩ := id hn
  refine h _ ⟨I.ok, I.os, I.bare, ⟨fun b o e n hb hx => ?_, fun b o e n hb hx => ?_, I.base.free, fun b o e hx => ?_, I.base.tups, I.base.frzs, I.base.tbls⟩, ⟨_, hn', fun j y v' e1 e2 e3 => ?_⟩, fun y c e => ?_, I.free, I.freeC, fun p hp => ?_, tracked ⟨oL, hoL, I.free⟩ hs, by simpa using I.len⟩ ⟨_, hs, .inl rfl⟩
  ·exact (hs.2 b (Nat.ne_of_lt (Nat.lt_of_lt_of_le (Heap.lt_size e) I.ok.above))).trans (I.base.keep b o e n hb hx)
  ·obtain ⟨sl, e1⟩ := I.base.slot b o e n hb hx
   exact ⟨sl, (hs.2 b (Nat.ne_of_lt (Nat.lt_of_lt_of_le (Heap.lt_size e) I.ok.above))).trans e1⟩
  ·obtain ⟨o', e1⟩ := I.base.there b o e hx
   exact ⟨o', (hs.2 b (Nat.ne_of_lt (Nat.lt_of_lt_of_le (Heap.lt_size e) I.ok.above))).trans e1⟩
  ·by_cases hj : j = i
   ·subst hj
    rw [hi] at e1; cases e1
    rw [List.getElem?_set_self hiσ] at e2
    cases e2
    exact ⟨u, r, .inl ⟨hk, by simp⟩⟩
   ·rw [List.getElem?_set_ne (Ne.symm hj)] at e2
    obtain ⟨u', r', q⟩ := hl j y v' e1 e2 e3
    refine ⟨u', r', ?_⟩
    rcases q with ⟨k, e⟩ | ⟨k, c, e, z⟩
    ·refine .inl ⟨k, ?_⟩
     have : y ≠ x := fun e => hj (nodup_ix hN e1 (e ▸ hi))
     simp [this, e]
    ·exact .inr ⟨k, c, e, z.sameBut hs (cne y c e)⟩
  ·obtain ⟨w', z⟩ := I.cell y c e
   exact ⟨w', z.sameBut hs (cne y c e)⟩
  ·obtain ⟨e, n, ne, nf, d⟩ := I.pin p hp
   exact ⟨(hs.2 p.1 ne).trans e, n, ne, nf, d⟩
 ·have hfn : X.fn x = true := by
   rcases hf with z | z
   ·exact z
   ·rw [z] at hk; cases hk
  obtain ⟨c, hc⟩ := I.ok.has x (.inl hk)
  obtain ⟨w', z⟩ := I.cell x c hc
  refine wpAny_storeName_cell I.ok.kind hk hc z (fun h' hc' hs => ?_)
  obtain ⟨oc, hoc, hocd⟩ := id z
  refine h { s with heap := h' } ⟨I.ok, I.os, I.bare, ⟨fun b o e n hb hx => ?_, fun b o e n hb hx => ?_, I.base.free, fun b o e hx => ?_, I.base.tups, I.base.frzs, I.base.tbls⟩, ⟨m, hn.sameBut hs (Ne.symm (cne x c hc)), fun j y v' e1 e2 e3 => ?_⟩, fun y c' e => ?_, I.free, I.freeC, fun p hp => ?_, tracked ⟨oc, hoc, I.freeC x c hc⟩ hs, by simpa using I.len⟩ ⟨c, hs, .inr hc⟩
  ·exact (hs.2 b (Nat.ne_of_lt (Nat.lt_of_lt_of_le (Heap.lt_size e) (I.ok.cab x c hfn hc)))).trans (I.base.keep b o e n hb hx)
  ·obtain ⟨sl, e1⟩ := I.base.slot b o e n hb hx
   exact ⟨sl, (hs.2 b (Nat.ne_of_lt (Nat.lt_of_lt_of_le (Heap.lt_size e) (I.ok.cab x c hfn hc)))).trans e1⟩
  ·obtain ⟨o', e1⟩ := I.base.there b o e hx
   exact ⟨o', (hs.2 b (Nat.ne_of_lt (Nat.lt_of_lt_of_le (Heap.lt_size e) (I.ok.cab x c hfn hc)))).trans e1⟩
  ·by_cases hj : j = i
   ·subst hj
    rw [hi] at e1; cases e1
    rw [List.getElem?_set_self hiσ] at e2
    cases e2
    exact ⟨u, r, .inr ⟨.inl hk, c, hc, hc'⟩⟩
   ·rw [List.getElem?_set_ne (Ne.symm hj)] at e2
    obtain ⟨u', r', q⟩ := hl j y v' e1 e2 e3
    refine ⟨u', r', ?_⟩
    rcases q with q | ⟨k, c', e, z'⟩
    ·exact .inl q
    ·refine .inr ⟨k, c', e, z'.sameBut hs ?_⟩
     rintro rfl
     exact hj (nodup_ix hN e1 (I.ok.inj _ _ _ e hc ▸ hi))
  ·by_cases hcc : c' = c
   ·subst hcc; exact ⟨_, hc'⟩
   ·obtain ⟨w2, z2⟩ := I.cell y c' e
    exact ⟨w2, z2.sameBut hs hcc⟩
  ·obtain ⟨e, n, ne, nf, d⟩ := I.pin p hp
   refine ⟨(hs.2 p.1 ?_).trans e, n, ne, nf, d⟩
   intro q
   rw [q, hoc] at e
   have q' : oc = p.2 := Option.some.inj e
   exact d w' (by rw [← q']; exact hocd)
theorem store_ok {M : Model} {A : Around} {E : Value → Shared → Prop} {i : Nat} {x : Str} {v : V} {u : Value} {Q : Unit → Shared → Prop} (I : Inv X pins σ H s) (hN : X.N.Nodup) (hi : X.N[i]? = some x) (hx : Loc X.env.scope x) (r : RelV v u)
  (h : ∀ s', Inv X pins (σ.set i (some v)) H s' → Q () s') (hf : X.fn x = true ∨ X.env.scope.names.lookup x = some .local := by first | exact .inl rfl | exact .inr rfl | assumption) : wpAny M A (storeName X.env x u) Q E s :=
 store_ok2 I hN hi hx r (fun s' I' _ => h s' I') hf
theorem Inv.call' {s' : Shared} {ch : List Addr} (I : Inv X pins σ H s) (ho : s'.os = s.os) (u : Un (frs X.stack) ch H H' s.heap s'.heap) (hok : HOk X.prog X.w H' s'.heap) (hg : AllBare s'.gens)
  (hch : ∀ b ∈ ch, (b ∈ X.ex ∨ X.s₀.heap.objs.size ≤ b) ∧ b ≠ X.env.locals ∧ (∀ x c, X.env.cells.lookup x = some c → c ≠ b) ∧ ∀ p ∈ X.pn ++ pins, p.1 ≠ b) : Inv X pins σ H' s' := by
 obtain ⟨h', g', d', t', o'⟩ := s'
 have e : o' = s.os := ho
 subst e
 exact I.call (g' := g') (t' := t') (d' := d') u hok hg hch
end
abbrev XK := Value → Option Addr → Hp → Prop
abbrev St := List (Option V)
abbrev VK := V → Hp → Prop
abbrev TE := St → Hp → VK → Prop
abbrev TT := St → Hp → (Bool → Hp → Prop) → Prop
abbrev TA := St → Hp → (List V → Hp → Prop) → Prop
structure Ends where
 nx : St → Hp → Prop
 rt : VK
 bk : St → Hp → Prop := fun _ _ => False
 ct : St → Hp → Prop := fun _ _ => False
abbrev TS := Ends → St → Hp → Prop
def EP (X : Cx) (pins : List (Addr × Obj)) (σ : St) (Q : VK) (u : Value) (s' : Shared) : Prop := ∃ v H', Inv X pins σ H' s' ∧ RelV v u ∧ Q v H'
def TP (X : Cx) (pins : List (Addr × Obj)) (σ : St) (Q : Bool → Hp → Prop) (b : Bool) (s' : Shared) : Prop := ∃ H', Inv X pins σ H' s' ∧ Q b H'
def AP (X : Cx) (pins : List (Addr × Obj)) (σ : St) (Q : List V → Hp → Prop) (us : List Value) (s' : Shared) : Prop := ∃ vs H', Inv X pins σ H' s' ∧ Vals vs us ∧ Q vs H'
def SP (X : Cx) (pins : List (Addr × Obj)) (D : Ends) (f : Flow) (s' : Shared) : Prop :=
 match f with
 | .next => ∃ σ' H', Inv X pins σ' H' s' ∧ D.nx σ' H'
 | .brk => ∃ σ' H', Inv X pins σ' H' s' ∧ D.bk σ' H'
 | .cont => ∃ σ' H', Inv X pins σ' H' s' ∧ D.ct σ' H'
 | .ret u => ∃ v σ' H', Inv X pins σ' H' s' ∧ RelV v u ∧ D.rt v H'
def PE (X : Cx) (e : Expr) (t : TE) : Prop :=
 ∀ (pins : List (Addr × Obj)) (s : Shared) (σ : St) (H : Hp) (Q : VK), Inv X pins σ H s → t σ H Q → wpAny (model X.prog X.w) X.A (eval e X.env) (EP X pins σ Q) X.xe s
def PT (X : Cx) (e : Expr) (t : TT) : Prop :=
 ∀ (pins : List (Addr × Obj)) (s : Shared) (σ : St) (H : Hp) (Q : Bool → Hp → Prop), Inv X pins σ H s → t σ H Q → wpAny (model X.prog X.w) X.A (isTrue e X.env (eval e X.env)) (TP X pins σ Q) X.xe s
def PW (X : Cx) (e : Expr) (t : TT) : Prop :=
 ∀ (whole : Sem Value) (pins : List (Addr × Obj)) (s : Shared) (σ : St) (H : Hp) (Q : Bool → Hp → Prop), Inv X pins σ H s → t σ H Q → wpAny (model X.prog X.w) X.A (isTrue e X.env whole) (TP X pins σ Q) X.xe s
theorem PW.pt {X : Cx} {e : Expr} {t : TT} (h : PW X e t) : PT X e t := h _
def PA (X : Cx) (es : List Expr) (t : TA) : Prop :=
 ∀ (pos : Pos) (pins : List (Addr × Obj)) (s : Shared) (σ : St) (H : Hp) (Q : List V → Hp → Prop), Inv X pins σ H s → t σ H Q → wpAny (model X.prog X.w) X.A (spliced (backTo pos (starEach es X.env))) (AP X pins σ Q) X.xe s
def PS (X : Cx) (st : Stmt) (t : TS) : Prop :=
 ∀ (pins : List (Addr × Obj)) (s : Shared) (σ : St) (H : Hp) (D : Ends), Inv X pins σ H s → t D σ H → wpAny (model X.prog X.w) X.A (exec st X.env) (SP X pins D) X.xe s
def PSs (X : Cx) (st : List Stmt) (t : TS) : Prop :=
 ∀ (pins : List (Addr × Obj)) (s : Shared) (σ : St) (H : Hp) (D : Ends), Inv X pins σ H s → t D σ H → wpAny (model X.prog X.w) X.A (execs st X.env) (SP X pins D) X.xe s
theorem thn {α : Type} {t : Sem α} {Q Q' : α → Shared → Prop} {M : Model} {A : Around} {E : Value → Shared → Prop} {s : Shared} (h : wpAny M A t Q E s) (hQ : ∀ a s, Q a s → Q' a s) : wpAny M A t Q' E s := wpAny_mono h hQ fun _ _ x => x
end L2
namespace L2
open PySem PySem.Spec PyProof.Rows
section
variable {X : Cx}
def tVar (i : Nat) : TE := fun σ H Q => ∃ v, σ[i]? = some (some v) ∧ Q v H
def tC (v : V) : TE := fun _ H Q => Q v H
theorem pe_var {i : Nat} {x : Str} {pos : Pos} (hN : X.N[i]? = some x) (hv : Vis X.env.scope x) (hd : (x == ("__debug__" : Str)) = false := by decide) (hcd : (x == ("__classdict__" : Str)) = false := by decide) : PE X (.Name x pos) (tVar i) := by
 intro pins s σ H Q I h
 obtain ⟨v, e, h⟩ := h
 obtain ⟨m, hn, hl⟩ := I.loc
 obtain ⟨u, r, l⟩ := hl i x v hN e hv
 have fin : EP X pins σ Q u s := ⟨v, H, I, r, h⟩
 rcases l with ⟨hk, hm⟩ | ⟨hk, c, hc, hcell⟩
 ·exact wpAny_Name (wpAny_loadName_local I.ok.kind hk hn hm fin) hd
 ·rcases hk with hk | hk
  ·exact wpAny_Name (wpAny_loadName_cell I.ok.kind hk hc hcell fin) hd
  ·exact wpAny_Name (wpAny_loadName_free I.ok.kind hk hc hcell fin hcd) hd
theorem pe_int {i j pos} : PE X (.Constant (.int i) j pos) (tC (.int i)) := fun _ _ _ H _ I h => wpAny_Constant_int ⟨.int i, H, I.tok _, ⟨_, rfl⟩, h⟩
theorem pe_bl {b j pos} : PE X (.Constant (.bool b) j pos) (tC (.bl b)) := fun _ _ _ H _ I h => Constant_bool ⟨.bl b, H, I, rfl, h⟩
theorem pe_non {j pos} : PE X (.Constant .none j pos) (tC .non) := fun _ _ _ H _ I h => Constant_none ⟨.non, H, I, rfl, h⟩
theorem pe_str {x j pos} : PE X (.Constant (.str x) j pos) (tC (.str x)) := fun _ _ _ H _ I h => Calls.Constant_str ⟨.str x, H, I.tok _, ⟨_, rfl⟩, h⟩
def Gl (X : Cx) (x : Str) : Prop := X.env.kindOf x = some .globalImplicit
theorem ld_glob {E : Value → Shared → Prop} {pins : List (Addr × Obj)} {s : Shared} {σ : St} {H : Hp} {x : Str} {u : Value} {pos : Pos} {Q : Value → Shared → Prop} (I : Inv X pins σ H s) (hg : Gl X x) (hm : X.mg x = some u) (h : Q u s)
  (hd : (x == ("__debug__" : Str)) = false := by decide) : wpAny (model X.prog X.w) X.A (eval (.Name x pos) X.env) Q E s :=
 Calls.Name_function_global I.ok.kind hg (Calls.loadGlobal_global (by rw [I.ok.glob]; exact I.mod.glob.keeps I.bk) hm h) hd
theorem ld_blt {E : Value → Shared → Prop} {pins : List (Addr × Obj)} {s : Shared} {σ : St} {H : Hp} {x : Str} {u : Value} {pos : Pos} {Q : Value → Shared → Prop} (I : Inv X pins σ H s) (hg : Gl X x) (hm : X.mg x = none) (hv : bootBuiltins x = some u) (h : Q u s)
  (hn : x ≠ "__name__" := by decide) (hd : (x == ("__debug__" : Str)) = false := by decide) : wpAny (model X.prog X.w) X.A (eval (.Name x pos) X.env) Q E s := by
 obtain ⟨mb, h1, h2⟩ := I.mod.blt
 exact Calls.Name_function_global I.ok.kind hg (Calls.loadGlobal_builtin (by rw [I.ok.glob]; exact I.mod.glob.keeps I.bk) hm (by rw [I.ok.blt]; exact h1.keeps I.bk) ((h2 x hn).trans hv) h) hd
theorem pe_glob {x : Str} {v : V} {u : Value} {pos : Pos} (hg : Gl X x) (hm : X.mg x = some u) (r : RelV v u) (hd : (x == ("__debug__" : Str)) = false := by decide) : PE X (.Name x pos) (tC v) :=
 fun _ _ _ H _ I h => ld_glob I hg hm ⟨v, H, I, r, h⟩ hd
theorem pe_bltn {x : Str} {v : V} {u : Value} {pos : Pos} (hg : Gl X x) (hm : X.mg x = none) (hv : bootBuiltins x = some u) (r : RelV v u) (hn : x ≠ "__name__" := by decide) (hd : (x == ("__debug__" : Str)) = false := by decide) : PE X (.Name x pos) (tC v) :=
 fun _ _ _ H _ I h => ld_blt I hg hm hv ⟨v, H, I, r, h⟩ hn hd
variable {a b : Expr} {ta tb : TE} {pos : Pos}
def PC (X : Cx) (op : CmpOp) (a b : Expr) (t : TE) : Prop :=
 ∀ (pins : List (Addr × Obj)) (s : Shared) (σ : St) (H : Hp) (Q : VK), Inv X pins σ H s → t σ H Q →
  wpAny (model X.prog X.w) X.A (eval a X.env) (fun v s₁ => wpAny (model X.prog X.w) X.A (eval b X.env) (fun u s₂ => wpAny (model X.prog X.w) X.A (compareOp op v u) (EP X pins σ Q) X.xe s₂) X.xe s₁) X.xe s
def tB (t : TE) : TT := fun σ H Q => t σ H fun x H1 => ∃ c, x = .bl c ∧ Q c H1
theorem pt_cmp {op : CmpOp} {t : TE} (h : PC X op a b t) (h1 : behindInMarks op b = false := by first | exact nobehind _ (by decide) (by decide) | rfl) : PT X (.Compare a [op] [b] pos) (tB t) := by
 intro pins s σ H Q I hw
 refine wpAny_isTrue_Compare1 (thn (h pins s σ H _ I hw) fun v s1 h1 => thn h1 fun u s2 h2 => thn h2 fun c s3 zz6 => el5 zz6 fun x H1 I1 r1 q1 => ?_) h1
 obtain ⟨d, rfl, q⟩ := q1
 cases r1
 exact wpAny_truthy_bool ⟨H1, I1, q⟩
theorem pt_val {e : Expr} {t : TE} (h : PE X e t) (he : ∀ whole, isTrue e X.env whole = (do let v ← whole; standAt e.pos; holding [v] (truthy v)) := by intro _; rfl) : PT X e (tB t) := by
 intro pins s σ H Q I hw
 refine isTrue_plain (thn (h pins s σ H _ I hw) fun v s1 zz7 => el5 zz7 fun x H1 I1 r1 q1 => ?_) (he _)
 obtain ⟨d, rfl, q⟩ := q1
 cases r1
 exact wpAny_truthy_bool ⟨H1, I1, q⟩
variable {tA tB' : TT} {rest : List Expr}
def tAnd (t u : TT) : TT := fun σ H Q => t σ H fun c H1 => if c = true then u σ H1 Q else Q false H1
def tOr (t u : TT) : TT := fun σ H Q => t σ H fun c H1 => if c = true then Q true H1 else u σ H1 Q
def tNot (t : TT) : TT := fun σ H Q => t σ H fun c H1 => Q (!c) H1
theorem pw_and1 (ha : PT X a tA) : PW X (.BoolOp .And [a] pos) tA := by
 intro wh pins s σ H Q I h
 refine isTrue_and (thn (ha pins s σ H Q I h) fun c s1 e => ?_)
 cases c with
 | true => exact isTrue_and_nil e
 | false => exact e
theorem pw_or1 (ha : PT X a tA) : PW X (.BoolOp .Or [a] pos) tA := by
 intro wh pins s σ H Q I h
 refine isTrue_or (thn (ha pins s σ H Q I h) fun c s1 e => ?_)
 cases c with
 | false => exact isTrue_or_nil e
 | true => exact e
theorem pw_and (ha : PT X a tA) (hb : PW X (.BoolOp .And (b :: rest) pos) tB') : PW X (.BoolOp .And (a :: b :: rest) pos) (tAnd tA tB') := by
 intro wh pins s σ H Q I h
 refine isTrue_and (thn (ha pins s σ H _ I h) fun c s1 zz8 => el2 zz8 fun H1 I1 q1 => ?_)
 cases c with
 | true => exact hb wh pins s1 σ H1 Q I1 q1
 | false => exact ⟨H1, I1, q1⟩
theorem pw_or (ha : PT X a tA) (hb : PW X (.BoolOp .Or (b :: rest) pos) tB') : PW X (.BoolOp .Or (a :: b :: rest) pos) (tOr tA tB') := by
 intro wh pins s σ H Q I h
 refine isTrue_or (thn (ha pins s σ H _ I h) fun c s1 zz9 => el2 zz9 fun H1 I1 q1 => ?_)
 cases c with
 | true => exact ⟨H1, I1, q1⟩
 | false => exact hb wh pins s1 σ H1 Q I1 q1
theorem pt_not (ha : PT X a tA) : PT X (.UnaryOp .Not a pos) (tNot tA) := by
 intro pins s σ H Q I h
 exact isTrue_not (ha pins s σ H (fun c H1 => Q (!c) H1) I h)
def tAndV (ta tb : TE) : TE := fun σ H Q => ta σ H fun x H1 => ∃ c, x = .bl c ∧ if c = true then tb σ H1 Q else Q (.bl false) H1
def tOrV (ta tb : TE) : TE := fun σ H Q => ta σ H fun x H1 => ∃ c, x = .bl c ∧ if c = true then Q (.bl true) H1 else tb σ H1 Q
def tNotV (ta : TE) : TE := fun σ H Q => ta σ H fun x H1 => ∃ c, x = .bl c ∧ Q (.bl (!c)) H1
theorem pe_one {op} {t : TE} (h : PE X a t) : PE X (.BoolOp op [a] pos) t := fun pins s σ H Q I hw => BoolOp_one (h pins s σ H Q I hw)
theorem pe_and (ha : PE X a ta) (hb : PE X (.BoolOp .And (b :: rest) pos) tb) : PE X (.BoolOp .And (a :: b :: rest) pos) (tAndV ta tb) := by
 intro pins s σ H Q I h
 refine BoolOp_and (thn (ha pins s σ H _ I h) fun v s1 zz10 => el5 zz10 fun x H1 I1 r1 q1 => ?_)
 obtain ⟨c, rfl, q1⟩ := q1
 cases r1
 refine wpAny_truthy_bool ?_
 cases c with
 | true => exact hb pins s1 σ H1 Q I1 q1
 | false => exact ⟨.bl false, H1, I1, rfl, q1⟩
theorem pe_or (ha : PE X a ta) (hb : PE X (.BoolOp .Or (b :: rest) pos) tb) : PE X (.BoolOp .Or (a :: b :: rest) pos) (tOrV ta tb) := by
 intro pins s σ H Q I h
 refine BoolOp_or (thn (ha pins s σ H _ I h) fun v s1 zz11 => el5 zz11 fun x H1 I1 r1 q1 => ?_)
 obtain ⟨c, rfl, q1⟩ := q1
 cases r1
 refine wpAny_truthy_bool ?_
 cases c with
 | false => exact hb pins s1 σ H1 Q I1 q1
 | true => exact ⟨.bl true, H1, I1, rfl, q1⟩
theorem pe_not (ha : PE X a ta) : PE X (.UnaryOp .Not a pos) (tNotV ta) := by
 intro pins s σ H Q I h
 refine UnaryOp_ (thn (ha pins s σ H _ I h) fun v s1 zz12 => el5 zz12 fun x H1 I1 r1 q1 => ?_)
 obtain ⟨c, rfl, q1⟩ := q1
 cases r1
 exact not_of (wpAny_truthy_bool ⟨.bl (!c), H1, I1, rfl, q1⟩)
def tIf (t : TT) (ta tb : TE) : TE := fun σ H Q => t σ H fun c H1 => if c = true then ta σ H1 Q else tb σ H1 Q
theorem pe_ifExp {c : Expr} (hc : PT X c tA) (ha : PE X a ta) (hb : PE X b tb) : PE X (.IfExp c a b pos) (tIf tA ta tb) := by
 intro pins s σ H Q I h
 refine wpAny_IfExp (thn (hc pins s σ H _ I h) fun d s1 zz13 => el2 zz13 fun H1 I1 q1 => ?_)
 cases d with
 | true => exact ha pins s1 σ H1 Q I1 q1
 | false => exact hb pins s1 σ H1 Q I1 q1
end
end L2
namespace L2
open PySem PySem.Spec PyProof.Rows
def SqL (K : PySem.W.Frag) (H : Hp) (a : Addr) (xs : List V) : Prop :=
 Rd H a (.lst xs) ∨
  ∃ (o : Obj) (its : Array Value) (n : Nat), K.lookup a = some o ∧ o.cls = .type "list" ∧ o.dict = none ∧ o.data = .seq its n ∧ its.size ≤ sizeLine ∧ Vals xs its.toList
def SqT (K : PySem.W.Frag) (H : Hp) (a : Addr) (xs : List V) : Prop :=
 Rd H a (.tup xs) ∨
  ∃ (o : Obj) (its : Array Value) (n : Nat), K.lookup a = some o ∧ o.cls = .type "tuple" ∧ o.data = .seq its n ∧ its.size ≤ sizeLine ∧ Vals xs its.toList
def absV : Value → Option V
 | .none => some .non
 | .bool b => some (.bl b)
 | .int i _ => some (.int i)
 | .str x _ => some (.str x)
 | .bytes b _ => some (.byt b)
 | .float b _ => some (.flt b)
 | .ref a => some (.ref a)
 | .type n => some (.ty n)
 | _ => none
theorem RelV.abs {x : V} {u : Value} (r : RelV x u) : absV u = some x := by
 cases x with
 | non => cases r; rfl
 | bl _ => cases r; rfl
 | int _ => obtain ⟨t, rfl⟩ := r; rfl
 | str _ => obtain ⟨t, rfl⟩ := r; rfl
 | byt _ => obtain ⟨t, rfl⟩ := r; rfl
 | flt _ => obtain ⟨t, rfl⟩ := r; rfl
 | ref _ => cases r; rfl
 | ty _ => cases r; rfl
theorem RelV.inj {x y : V} {u : Value} (r : RelV x u) (q : RelV y u) : x = y := Option.some.inj (r.abs.symm.trans q.abs)
theorem Vals.inj {xs ys : List V} {us : List Value} (h : Vals xs us) (k : Vals ys us) : xs = ys := by
 induction h generalizing ys with
 | nil => cases k; rfl
 | cons r t ih =>
  cases k with
  | cons r' t' => rw [r.inj r', ih t']
section
variable {X : Cx} {pins : List (Addr × Obj)} {σ : St} {H : Hp} {s : Shared} {a : Addr} {xs ys : List V}
theorem SqL.of {K : PySem.W.Frag} (h : H a = some (.lst xs)) : SqL K H a xs := .inl (.inl h)
theorem SqT.of {K : PySem.W.Frag} (h : H a = some (.tup xs)) : SqT K H a xs := .inl (.inl h)
theorem Inv.list (I : Inv X pins σ H s) (h : SqL X.K H a xs) : ∃ its : List Value, Vals xs its ∧ PlainL s.heap a its.toArray ∧ xs.length ≤ sizeLine := by
 rcases h with h | ⟨o, its, n, hk, hc, hd, hs, hz, r⟩
 ·obtain ⟨z, its, n, r, e⟩ := h.ok I.hok
  exact ⟨its, r, ⟨_, n, e, rfl, rfl, rfl⟩, z⟩
 ·refine ⟨its.toList, r, ⟨o, n, I.kIn a o hk, hc, hd, by simpa using hs⟩, ?_⟩
  have e := r.length
  simp only [Array.length_toList] at e
  lia
theorem Inv.tuple (I : Inv X pins σ H s) (h : SqT X.K H a xs) : ∃ its : List Value, Vals xs its ∧ IsTup s.heap a its.toArray ∧ xs.length ≤ sizeLine := by
 rcases h with h | ⟨o, its, n, hk, hc, hs, hz, r⟩
 ·obtain ⟨z, its, r, p⟩ := h.ok I.hok
  exact ⟨its, r, p, z⟩
 ·refine ⟨its.toList, r, ⟨o, I.kIn a o hk, hc, n, by simpa using hs⟩, ?_⟩
  have e := r.length
  simp only [Array.length_toList] at e
  lia
theorem Inv.list_inj (I : Inv X pins σ H s) (h : SqL X.K H a xs) (h' : SqL X.K H a ys) : xs = ys := by
 obtain ⟨its, r, ⟨o, n, e, _, _, d⟩, _⟩ := I.list h
 obtain ⟨its', r', ⟨o', n', e', _, _, d'⟩, _⟩ := I.list h'
 rw [e] at e'; cases e'
 rw [d] at d'
 injection d' with d1 _
 have : its = its' := by simpa using congrArg Array.toList d1
 subst this
 exact r.inj r'
end
abbrev Cx.wish (X : Cx) (E : Value → Shared → Prop) : Cx := { X with xe := E }
abbrev Cx.nox (X : Cx) : Cx := X.wish fun _ _ => False
theorem Cx.Ok.wish {X : Cx} (ok : X.Ok) (E : Value → Shared → Prop) : (X.wish E).Ok :=
 ⟨ok.mod, ok.kind, ok.glob, ok.blt, ok.above, ok.inj, ok.has, ok.cab, ok.hd, ok.frames, ok.stk, ok.exf, ok.bs, ok.bsz, ok.noex, ok.exfs, ok.funs, ok.frf⟩
theorem Cx.Ok.unwish {X : Cx} {E : Value → Shared → Prop} (ok : (X.wish E).Ok) : X.Ok :=
 ⟨ok.mod, ok.kind, ok.glob, ok.blt, ok.above, ok.inj, ok.has, ok.cab, ok.hd, ok.frames, ok.stk, ok.exf, ok.bs, ok.bsz, ok.noex, ok.exfs, ok.funs, ok.frf⟩
section
variable {X : Cx} {pins : List (Addr × Obj)} {σ : St} {H : Hp} {s : Shared} {E : Value → Shared → Prop}
theorem Inv.wish (I : Inv X pins σ H s) (E : Value → Shared → Prop) : Inv (X.wish E) pins σ H s := ⟨I.ok.wish E, I.os, I.bare, I.base, I.loc, I.cell, I.free, I.freeC, I.pin, I.hok, I.len⟩
theorem Inv.unwish (I : Inv (X.wish E) pins σ H s) : Inv X pins σ H s := ⟨I.ok.unwish, I.os, I.bare, I.base, I.loc, I.cell, I.free, I.freeC, I.pin, I.hok, I.len⟩
theorem SP.unwish {D : Ends} {f : Flow} {s' : Shared} (h : SP (X.wish E) pins D f s') : SP X pins D f s' := by
 cases f with
 | next => obtain ⟨σ', H', I, q⟩ := h; exact ⟨σ', H', I.unwish, q⟩
 | brk => obtain ⟨σ', H', I, q⟩ := h; exact ⟨σ', H', I.unwish, q⟩
 | cont => obtain ⟨σ', H', I, q⟩ := h; exact ⟨σ', H', I.unwish, q⟩
 | ret u => obtain ⟨v, σ', H', I, r, q⟩ := h; exact ⟨v, σ', H', I.unwish, r, q⟩
theorem PSs.nox {st : List Stmt} {t : TS} (h : PSs X.nox st t) : PSs X st t := fun pins s σ H D I hw =>
 wpAny_mono (h pins s σ H D (I.wish _) hw) (fun _ _ q => q.unwish) fun _ _ z => False.elim z
end
section
variable {X : Cx} {st : Stmt} {rest : List Stmt} {t u : TS} {e : Expr} {te : TE} {pos : Pos}
def tNext : TS := fun D σ H => D.nx σ H
def tSeq (t u : TS) : TS := fun D σ H => t { D with nx := u D } σ H
theorem pss_nil : PSs X [] tNext := fun _ _ σ H _ I h => wpAny_execs_nil ⟨σ, H, I, h⟩
theorem pss_cons (h1 : PS X st t) (h2 : PSs X rest u) : PSs X (st :: rest) (tSeq t u) := by
 intro pins s σ H D I h
 refine wpAny_execs_cons (thn (h1 pins s σ H { D with nx := u D } I h) fun f s1 q => ?_)
 cases f with
 | next =>
  obtain ⟨σ', H', I', q⟩ := q
  exact h2 pins s1 σ' H' D I' q
 | ret v => exact q
 | brk => exact q
 | cont => exact q
theorem pss_one (h1 : PS X st t) : PSs X [st] t := by
 intro pins s σ H D I h
 refine wpAny_execs_cons (thn (h1 pins s σ H D I h) fun f s1 q => ?_)
 cases f with
 | next => exact wpAny_execs_nil q
 | ret v => exact q
 | brk => exact q
 | cont => exact q
theorem Inv.quiet {pins : List (Addr × Obj)} {σ : St} {H : Hp} {s : Shared} (I : Inv X pins σ H s) : interactive X.env = false := by simp [interactive, I.ok.kind]
def tDrop (te : TE) : TS := fun D σ H => te σ H fun _ H1 => D.nx σ H1
theorem ps_expr (he : PE X e te) (hs : swapsWith e none pos.line X.env = pure false := by rfl) : PS X (.Expr e pos) (tDrop te) := by
 intro pins s σ H D I h
 exact wpAny_Expr_any (thn (he pins s σ H _ I h) fun v s1 zz20 => el5 zz20 fun x H1 I1 r1 q1 => ⟨σ, H1, I1, q1⟩) I.quiet hs
def tRet (te : TE) : TS := fun D σ H => te σ H D.rt
theorem ps_ret (he : PE X e te) : PS X (.Return (some e) pos) (tRet te) := by
 intro pins s σ H D I h
 exact wpAny_Return_some (thn (he pins s σ H _ I h) fun v s1 zz21 => el5 zz21 fun x H1 I1 r1 q1 => ⟨x, σ, H1, I1, r1, q1⟩)
def tIfS (c : TT) (t u : TS) : TS := fun D σ H => c σ H fun b H1 => if b = true then t D σ H1 else u D σ H1
theorem ps_if {c : Expr} {a b : List Stmt} {tc : TT} (hc : PT X c tc) (ha : PSs X a t) (hb : PSs X b u) : PS X (.If c a b pos) (tIfS tc t u) := by
 intro pins s σ H D I h
 refine wpAny_If (thn (hc pins s σ H _ I h) fun d s1 zz22 => el2 zz22 fun H1 I1 q1 => ?_)
 cases d with
 | true => exact ha pins s1 σ H1 D I1 q1
 | false => exact hb pins s1 σ H1 D I1 q1
end
abbrev TG := V → St → Hp → (St → Hp → Prop) → Prop
abbrev TGs := List V → St → Hp → (St → Hp → Prop) → Prop
def PG (X : Cx) (target : Expr) (t : TG) : Prop :=
 ∀ (pins : List (Addr × Obj)) (s : Shared) (σ : St) (H : Hp) (v : V) (u : Value) (Q : St → Hp → Prop), Inv X pins σ H s → RelV v u → t v σ H Q →
  wpAny (model X.prog X.w) X.A (assign target X.env u) (fun _ s' => ∃ σ' H', Inv X pins σ' H' s' ∧ Q σ' H') X.xe s
def PGs (X : Cx) (ts : List Expr) (t : TGs) : Prop :=
 ∀ (pins : List (Addr × Obj)) (s : Shared) (σ : St) (H : Hp) (vs : List V) (us : List Value) (Q : St → Hp → Prop), Inv X pins σ H s → Vals vs us → t vs σ H Q →
  wpAny (model X.prog X.w) X.A (assignInOrder ((assignEach ts X.env).map (·.2)) us) (fun _ s' => ∃ σ' H', Inv X pins σ' H' s' ∧ Q σ' H') X.xe s
abbrev TSet := V → V → V → Hp → (Hp → Prop) → Prop
def PSet (X : Cx) (t : TSet) : Prop :=
 ∀ (pins : List (Addr × Obj)) (s : Shared) (σ : St) (H : Hp) (o i v : V) (ov iv u : Value) (Q : Hp → Prop), Inv X pins σ H s → RelV o ov → RelV i iv → RelV v u → t o i v H Q →
  wpAny (model X.prog X.w) X.A (setItem ov iv u) (fun _ s' => ∃ H', Inv X pins σ H' s' ∧ Q H') X.xe s
abbrev TIp := V → V → Hp → VK → Prop
def PIp (X : Cx) (op : Operator) (t : TIp) : Prop :=
 ∀ (pins : List (Addr × Obj)) (s : Shared) (σ : St) (H : Hp) (x y : V) (v u : Value) (Q : VK), Inv X pins σ H s → RelV x v → RelV y u → t x y H Q →
  wpAny (model X.prog X.w) X.A (inplaceOp op v u) (EP X pins σ Q) X.xe s
section
variable {X : Cx} {pos : Pos}
def gName (i : Nat) : TG := fun v σ H Q => Q (σ.set i (some v)) H
theorem pg_name {i : Nat} {x : Str} (hN : X.N.Nodup) (hi : X.N[i]? = some x) (hx : Loc X.env.scope x) (hf : X.fn x = true ∨ X.env.scope.names.lookup x = some .local := by first | exact .inl rfl | exact .inr rfl | assumption) : PG X (.Name x pos) (gName i) := by
 intro pins s σ H v u Q I r h
 exact wpAny_assign_Name (store_ok I hN hi hx r (fun s' I' => ⟨_, H, I', h⟩) hf)
def gNil : TGs := fun vs σ H Q => vs = [] ∧ Q σ H
def gCons (t : TG) (u : TGs) : TGs := fun vs σ H Q => ∃ v r, vs = v :: r ∧ t v σ H fun σ' H' => u r σ' H' Q
theorem pgs_nil : PGs X [] gNil := by
 intro pins s σ H vs us Q I r h
 obtain ⟨e, h⟩ := h
 subst e
 cases r
 exact assignInOrder_nil ⟨σ, H, I, h⟩
theorem pgs_cons {e : Expr} {es : List Expr} {t : TG} {u : TGs} (h1 : PG X e t) (h2 : PGs X es u)
  (hs : (assignEach (e :: es) X.env).map (·.2) = assign e X.env :: (assignEach es X.env).map (·.2) := by rfl) : PGs X (e :: es) (gCons t u) := by
 intro pins s σ H vs us Q I r h
 obtain ⟨v, vr, e1, h⟩ := h
 subst e1
 cases r with
 | cons r rr =>
  rw [hs]
  refine assignInOrder_cons (thn (h1 pins s σ H _ _ _ I r h) fun _ s1 zz23 => zz23.elim fun σ1 zz24 => zz24.elim fun H1 zz25 => zz25.elim fun I1 q1 => ?_)
  exact h2 pins s1 σ1 H1 _ _ Q I1 rr q1
def gTup (K : PySem.W.Frag) (n : Nat) (t : TGs) : TG := fun v σ H Q => ∃ a xs, v = .ref a ∧ SqT K H a xs ∧ xs.length = n ∧ t xs σ H Q
theorem pg_tup {es : List Expr} {k : Nat} {t : TGs} {n : Nat} (hc : X.calm = true) (h : PGs X es t)
  (hn : (assignEach es X.env).length = n := by rfl) (hst : (assignEach es X.env).findIdx? (·.1) = none := by rfl) : PG X (.Tuple es k pos) (gTup X.K n t) := by
 intro pins s σ H v u Q I r hw
 obtain ⟨a, xs, e1, hq, hl, hw⟩ := hw
 subst e1
 cases r
 obtain ⟨its, rv, ht, hz⟩ := I.tuple hq
 refine assign_Tuple_tuple (I.ok.hd hc) ht (by simp [hn, ← hl, rv.length]) hst fun h' hx => ?_
 have I1 : Inv X pins σ H { s with heap := h' } := I.kept (t' := s.toks) fun b o e => hx b o (Nat.ne_of_lt (Heap.lt_size e)) e
 exact h pins _ σ H xs _ Q I1 (by simpa using rv) hw
def gSub (to ti : TE) (t : TSet) : TG := fun v σ H Q => to σ H fun o H1 => ti σ H1 fun i H2 => t o i v H2 fun H3 => Q σ H3
theorem pg_sub {o i : Expr} {to ti : TE} {t : TSet} (ho : PE X o to) (hi : PE X i ti) (hs : PSet X t)
  (ha : ∀ v, assign (.Subscript o i pos) X.env v = (do
   let ov ← holding [v] (eval o X.env)
   let iv ← holding [v, ov] (eval i X.env)
   standAt pos
   holding [v, ov, iv] (setItem ov iv v)
   release [v, ov, iv] []) := by intro _; rfl) : PG X (.Subscript o i pos) (gSub to ti t) := by
 intro pins s σ H v u Q I r h
 rw [ha]
 refine wpAny_bind (wpAny_holding (thn (ho pins s σ H _ I h) fun ov s1 zz26 => el5 zz26 fun x H1 I1 r1 q1 => ?_))
 refine wpAny_bind (wpAny_holding (thn (hi pins s1 σ H1 _ I1 q1) fun iv s2 zz27 => el5 zz27 fun y H2 I2 r2 q2 => ?_))
 refine wpAny_bind (wpAny_standAt (wpAny_bind (wpAny_holding (thn (hs pins s2 σ H2 x y v ov iv u _ I2 r1 r2 r q2) fun _ s3 zz28 => el2 zz28 fun H3 I3 q3 => ?_))))
 exact wpAny_release ⟨σ, H3, I3, q3⟩
def tAsg (te : TE) (g : TG) : TS := fun D σ H => te σ H fun x H1 => g x σ H1 D.nx
theorem ps_asg {tg e : Expr} {te : TE} {g : TG} (he : PE X e te) (hg : PG X tg g) (hs : swapsWithSole [tg] e pos.line X.env = pure false := by rfl) (hw : swappedStores [tg] e X.env = pure none := by rfl)
  (h1 : (assignEach [tg] X.env).map (·.2) = [assign tg X.env] := by rfl) : PS X (.Assign [tg] e pos) (tAsg te g) := by
 intro pins s σ H D I h
 refine wpAny_Assign_stores (thn (he pins s σ H _ I h) fun v s1 zz29 => el5 zz29 fun x H1 I1 r1 q1 => ?_) hs hw
 rw [h1]
 exact thn (hg pins s1 σ H1 x v _ I1 r1 q1) fun _ s2 q => q
theorem ps_set {i : Nat} {x : Str} {e : Expr} {te : TE} {pos' : Pos} (hN : X.N.Nodup) (hi : X.N[i]? = some x) (hx : Loc X.env.scope x) (he : PE X e te) (hs : swapsWith e (some (.Name x pos')) pos.line X.env = pure false := by rfl) (hf : X.fn x = true ∨ X.env.scope.names.lookup x = some .local := by first | exact .inl rfl | exact .inr rfl | assumption) :
  PS X (.Assign [.Name x pos'] e pos) (tAsg te (gName i)) := by
 intro pins s σ H D I h
 refine wpAny_Assign_Name (thn (he pins s σ H _ I h) fun v s1 zz30 => el5 zz30 fun y H1 I1 r1 q1 => ?_) hs
 exact store_ok I1 hN hi hx r1 (fun s2 I2 => ⟨_, H1, I2, q1⟩) hf
def tAug (i : Nat) (te : TE) (ti : TIp) : TS := fun D σ H => ∃ x, σ[i]? = some (some x) ∧ te σ H fun y H1 => ti x y H1 fun z H2 => D.nx (σ.set i (some z)) H2
theorem ps_aug {i : Nat} {x : Str} {e : Expr} {te : TE} {op : Operator} {ti : TIp} {pos' : Pos} (hN : X.N.Nodup) (hi : X.N[i]? = some x) (hx : Loc X.env.scope x) (he : PE X e te) (ho : PIp X op ti) (hf : X.fn x = true ∨ X.env.scope.names.lookup x = some .local := by first | exact .inl rfl | exact .inr rfl | assumption) :
  PS X (.AugAssign (.Name x pos') op e pos) (tAug i te ti) := by
 intro pins s σ H D I h
 obtain ⟨v, e1, h⟩ := h
 obtain ⟨m, hn, hl⟩ := I.loc
 have vis : Vis X.env.scope x := by rcases hx with k | k; exact .inl k; exact .inr (.inl k)
 obtain ⟨u, r, l⟩ := hl i x v hi e1 vis
 refine wpAny_AugAssign_Name ?_
 have go : wpAny (model X.prog X.w) X.A (eval e X.env) (fun w s₂ => wpAny (model X.prog X.w) X.A (inplaceOp op u w) (fun r s₃ => wpAny (model X.prog X.w) X.A (storeName X.env x r) (fun _ => SP X pins D .next) X.xe s₃) X.xe s₂) X.xe s := by
  refine thn (he pins s σ H _ I h) fun w s1 zz32 => el5 zz32 fun y H1 I1 r1 q1 => ?_
  refine thn (ho pins s1 σ H1 v y u w _ I1 r r1 q1) fun z s2 zz33 => el5 zz33 fun zv H2 I2 r2 q2 => ?_
  exact store_ok I2 hN hi hx r2 (fun s3 I3 => ⟨_, H2, I3, q2⟩) hf
 rcases l with ⟨hk, hm⟩ | ⟨hk, c, hc, hcell⟩
 ·exact wpAny_loadName_local I.ok.kind hk hn hm go
 ·rcases hk with hk | hk
  ·exact wpAny_loadName_cell I.ok.kind hk hc hcell go
  ·rcases hx with k | k
   ·have : X.env.scope.names.lookup x = some .free := hk
    rw [k] at this; cases this
   ·have : X.env.scope.names.lookup x = some .free := hk
    rw [k] at this; cases this
def tAugS (to ti te : TE) (tget : V → V → Hp → VK → Prop) (tip : TIp) (tset : TSet) : TS := fun D σ H => to σ H fun o H1 => ti σ H1 fun i H2 => tget o i H2 fun x H3 => te σ H3 fun y H4 => tip x y H4 fun z H5 => tset o i z H5 fun H6 => D.nx σ H6
def PGet (X : Cx) (t : V → V → Hp → VK → Prop) : Prop :=
 ∀ (pins : List (Addr × Obj)) (s : Shared) (σ : St) (H : Hp) (o i : V) (ov iv : Value) (Q : VK), Inv X pins σ H s → RelV o ov → RelV i iv → t o i H Q →
  wpAny (model X.prog X.w) X.A (getItem ov iv) (EP X pins σ Q) X.xe s
theorem ps_augS {o i e : Expr} {to ti te : TE} {tget : V → V → Hp → VK → Prop} {tip : TIp} {tset : TSet} {op : Operator} {tpos : Pos} (ho : PE X o to) (hi : PE X i ti) (hg : PGet X tget) (he : PE X e te) (hp : PIp X op tip) (hs : PSet X tset)
  (ha : ∀ ov iv new, augStore i ov iv new = (do holding [new, ov, iv] (setItem ov iv new); release [new, ov, iv] []; pure .next) := by intros; rfl) : PS X (.AugAssign (.Subscript o i tpos) op e pos) (tAugS to ti te tget tip tset) := by
 intro pins s σ H D I h
 refine wpAny_AugAssign_SubscriptAny (thn (ho pins s σ H _ I h) fun ov s1 zz34 => el5 zz34 fun x1 H1 I1 r1 q1 => ?_) ha
 refine thn (hi pins s1 σ H1 _ I1 q1) fun iv s2 zz35 => el5 zz35 fun x2 H2 I2 r2 q2 => ?_
 refine thn (hg pins s2 σ H2 x1 x2 ov iv _ I2 r1 r2 q2) fun old s3 zz36 => el5 zz36 fun x3 H3 I3 r3 q3 => ?_
 refine thn (he pins s3 σ H3 _ I3 q3) fun v s4 zz37 => el5 zz37 fun x4 H4 I4 r4 q4 => ?_
 refine thn (hp pins s4 σ H4 x3 x4 old v _ I4 r3 r4 q4) fun new s5 zz38 => el5 zz38 fun x5 H5 I5 r5 q5 => ?_
 exact thn (hs pins s5 σ H5 x1 x2 x5 ov iv new _ I5 r1 r2 r5 q5) fun _ s6 zz39 => el2 zz39 fun H6 I6 q6 => ⟨σ, H6, I6, q6⟩
def ipI (f : Int → Int → Int) : TIp := fun x y H Q => ∃ i j, x = .int i ∧ y = .int j ∧ Q (.int (f i j)) H
theorem ip_add : PIp X .Add (ipI fun i j => i + j) := by
 intro pins s σ H x y v u Q I r1 r2 h
 obtain ⟨i, j, e1, e2, q⟩ := h
 subst e1; subst e2
 obtain ⟨t, rfl⟩ := r1
 obtain ⟨t', rfl⟩ := r2
 exact iadd_int ⟨.int _, H, I.tok _, ⟨_, rfl⟩, q⟩
theorem ip_sub : PIp X .Sub (ipI fun i j => i - j) := by
 intro pins s σ H x y v u Q I r1 r2 h
 obtain ⟨i, j, e1, e2, q⟩ := h
 subst e1; subst e2
 obtain ⟨t, rfl⟩ := r1
 obtain ⟨t', rfl⟩ := r2
 exact isub_int ⟨.int _, H, I.tok _, ⟨_, rfl⟩, q⟩
end
section
variable {X : Cx} {pos : Pos}
def tWhile (c : TT) (tb : TS) : TS := fun D σ H => ∃ W : Nat → St → Hp → Prop, (∃ m, W m σ H) ∧ ∀ m σ H, W m σ H →
 c σ H fun b H1 => if b = true then ∃ N : St → Hp → Prop, (∀ σ' H', N σ' H' → ∃ m', m' < m ∧ W m' σ' H') ∧ tb { D with nx := N, ct := N, bk := D.nx } σ H1 else D.nx σ H1
theorem ps_while {c : Expr} {body : List Stmt} {tc : TT} {tb : TS} (hp : PassesOwn (model X.prog X.w) X.A X.env X.xe) (hc : PT X c tc) (hb : PSs X body tb) : PS X (.While c body [] pos) (tWhile tc tb) := by
 intro pins s σ H D I h
 obtain ⟨W, ⟨m0, w0⟩, turn⟩ := h
 refine wpAny_While (codeAny_whileLoop (fun n s' => ∃ σ' H', Inv X pins σ' H' s' ∧ W n σ' H') ?_ m0 ⟨σ, H, I, w0⟩)
 rintro n s1 ⟨σ1, H1, I1, w1⟩
 refine wpAny_passesOwn hp (thn (hc pins s1 σ1 H1 _ I1 (turn n σ1 H1 w1)) fun b s2 zz40 => el2 zz40 fun H2 I2 q2 => ?_)
 cases b with
 | true =>
  obtain ⟨N, hN, q2⟩ := q2
  rw [if_pos rfl]
  refine wpAny_passesOwn hp (thn (hb pins s2 σ1 H2 _ I2 q2) fun f s3 q3 => ?_)
  cases f with
  | next =>
   obtain ⟨σ3, H3, I3, n3⟩ := q3
   obtain ⟨m', hm, w3⟩ := hN σ3 H3 n3
   exact ⟨m', hm, σ3, H3, I3, w3⟩
  | cont =>
   obtain ⟨σ3, H3, I3, n3⟩ := q3
   obtain ⟨m', hm, w3⟩ := hN σ3 H3 n3
   exact ⟨m', hm, σ3, H3, I3, w3⟩
  | brk => exact q3
  | ret v => exact q3
 | false =>
  rw [if_neg Bool.false_ne_true]
  exact wpAny_execs_nil ⟨σ1, H2, I2, q2⟩
end
structure It where
 go : Nat → Hp → Prop
 yld : Nat → Hp → V → Hp → Prop
 stop : Nat → Hp → Prop
def FpOk (X : Cx) (pins : List (Addr × Obj)) (H : Hp) (b : Addr) : Prop :=
 H b = none ∧ b ≠ X.env.locals ∧ b ∉ X.fs ∧ (b ∈ X.ex ∨ X.s₀.heap.objs.size ≤ b) ∧ (∀ x c, X.env.cells.lookup x = some c → c ≠ b) ∧ ∀ p ∈ X.pn ++ pins, p.1 ≠ b
theorem Inv.fpOk {X : Cx} {pins : List (Addr × Obj)} {σ : St} {H H' : Hp} {s : Shared} {b : Addr} (I : Inv X pins σ H s) (hb : s.heap.objs.size ≤ b) (hn : H' b = none) : FpOk X pins H' b := by
 refine ⟨hn, Nat.ne_of_gt (Nat.lt_of_lt_of_le I.lt hb), I.nofs hb, .inr (Nat.le_trans I.sz hb), fun x c e z => ?_, fun p hp z => ?_⟩
 ·obtain ⟨v, q⟩ := I.cell x c e
  exact absurd (Nat.lt_of_lt_of_le q.lt (by rw [z]; exact hb)) (Nat.lt_irrefl _)
 ·exact absurd (Nat.lt_of_lt_of_le (Heap.lt_size (I.pin p hp).1) (by rw [z]; exact hb)) (Nat.lt_irrefl _)
structure Turn (P : Program) (w : World) (K : PySem.W.Frag) (tg : Expr) (J : It) (fp : List Addr) (it : Addr) (tn : Nat → Heap → Prop) : Prop where
 mem : it ∈ fp
 obj : ∀ i h, tn i h → ∀ b ∈ fp, ∃ o, h.get? b = some o ∧ ∀ v, o.data ≠ .cell v
 keep : ∀ i h h', tn i h → (∀ b ∈ fp, ∀ o, h.get? b = some o → h'.get? b = some o) → tn i h'
 item : ∀ (X : Cx), X.prog = P → X.w = w → X.K = K → X.calm = true → ∀ (i : Nat) (pins : List (Addr × Obj)) (s : Shared) (σ : St) (H : Hp) (E : Value → Shared → Prop), Inv X pins σ H s → (∀ b ∈ fp, FpOk X pins H b) → tn i s.heap → J.go i H →
  wpAny (model P w) X.A (pyNext (.ref it)) (fun r s1 => ∃ u, r = some u ∧
   wpAny (model P w) X.A (letOwnedTupleGo tg (.ref it) u) (fun _ s2 => ∃ x H', Inv X pins σ H' s2 ∧ RelV x u ∧ J.yld i H x H' ∧ tn (i + 1) s2.heap ∧ ∀ b ∈ fp, H' b = none) E s1) E s
 done : ∀ (X : Cx), X.prog = P → X.w = w → X.K = K → X.calm = true → ∀ (i : Nat) (pins : List (Addr × Obj)) (s : Shared) (σ : St) (H : Hp) (E : Value → Shared → Prop), Inv X pins σ H s → (∀ b ∈ fp, FpOk X pins H b) → tn i s.heap → J.stop i H →
  wpAny (model P w) X.A (pyNext (.ref it)) (fun r s1 => r = none ∧ Inv X pins σ H s1) E s
 self : ∀ (A : Around) (i : Nat) (s : Shared) (Q : Value → Shared → Prop) (E : Value → Shared → Prop), tn i s.heap → Q (.ref it) s → wpAny (model P w) A (pyIter (.ref it)) Q E s
abbrev TI := St → Hp → (It → Hp → Prop) → Prop
def PIE (X : Cx) (pins : List (Addr × Obj)) (σ : St) (tg : Expr) (R : It → Hp → Prop) (itv : Value) (s2 : Shared) : Prop :=
 ∃ (it : Addr) (fp : List Addr) (tn : Nat → Heap → Prop) (J : It) (H' : Hp), itv = .ref it ∧ Inv X pins σ H' s2 ∧ Turn X.prog X.w X.K tg J fp it tn ∧ tn 0 s2.heap ∧ (∀ b ∈ fp, FpOk X pins H' b) ∧ R J H'
def PI (X : Cx) (tg iter : Expr) (wi : TI) : Prop :=
 ∀ (pins : List (Addr × Obj)) (s : Shared) (σ : St) (H : Hp) (R : It → Hp → Prop), Inv X pins σ H s → wi σ H R →
  wpAny (model X.prog X.w) X.A (eval iter X.env) (fun v s1 => wpAny (model X.prog X.w) X.A (pyIter v) (PIE X pins σ tg R) X.xe s1) X.xe s
theorem go_of {M : Model} {A : Around} {E : Value → Shared → Prop} {s : Shared} {tg : Expr} {it : Addr} {u : Value} {o : Obj} {n : String} {vs : Array Value} {Q : Unit → Shared → Prop} (ho : s.heap.get? it = some o) (hc : o.cls = .type n) (hd : o.data = .fields vs)
  (hn : ["enumerate", "zip", "dict_itemiterator", "dict_reverseitemiterator", "odict_iterator", "itertools.zip_longest", "itertools.pairwise"].contains n = false) (hQ : Q () s) : wpAny M A (letOwnedTupleGo tg (.ref it) u) Q E s := by
 unfold letOwnedTupleGo
 cases tg <;> first
  | exact wpAny_pure hQ
  | (cases u <;> first
    | exact wpAny_pure hQ
    | (refine wpAny_bind (wpAny_load ho ?_)
       rw [hc, hd]
       show wpAny M A (if (["enumerate", "zip", "dict_itemiterator", "dict_reverseitemiterator", "odict_iterator", "itertools.zip_longest", "itertools.pairwise"].contains n && vs[0]? == some (rawInt _)) = true then _ else _) Q E s
       rw [if_neg (by intro h; rw [hn, Bool.false_and] at h; cases h)]
       exact wpAny_pure hQ))
def Itl (K : PySem.W.Frag) (a : Addr) : It :=
 ⟨fun i H => ∃ xs x, SqL K H a xs ∧ xs[i]? = some x, fun i H x H' => H' = H ∧ ∀ xs, SqL K H a xs → xs[i]? = some x, fun i H => ∃ xs, SqL K H a xs ∧ xs.length ≤ i⟩
def Itr (lo : Int) (n : Nat) : It := ⟨fun i _ => i < n, fun i H x H' => H' = H ∧ x = .int (lo + i), fun i _ => n ≤ i⟩
theorem turn_list {P : Program} {w : World} {K : PySem.W.Frag} {tg : Expr} (a it : Addr) : Turn P w K tg (Itl K a) [it] it (fun i h => h.IsListIter it a i) where
 mem := by simp
 obj := fun i h st b hb => by
  have e : b = it := by simpa using hb
  subst e
  obtain ⟨o, e, c, d⟩ := st
  exact ⟨o, e, fun v z => by rw [d] at z; cases z⟩
 keep := fun i h h' st k => st.at fun o e => k it (by simp) o e
 item := by
  intro X hP hw hK hc i pins s σ H E I hf st hg
  subst hP hw hK
  obtain ⟨xs, x, hq, hx⟩ := hg
  obtain ⟨its, rv, p, hz⟩ := I.list hq
  obtain ⟨u, hu, ru⟩ := rv.get hx
  obtain ⟨f0, f1, f2, f3, f4, f5⟩ := hf it (by simp)
  refine wpAny_pyNext_list_item st p.isList (x := u) (by simpa using hu) fun h' st' sb => ?_
  have I1 : Inv X pins σ H { s with heap := h' } := I.turned (t' := s.toks) (fun b o hb e => (sb.2 b hb).trans e) f0 f1 f3 f4 f5
  obtain ⟨o, e, c, d⟩ := id st'
  exact ⟨u, rfl, go_of (s := { s with heap := h' }) e c d (by decide) ⟨x, H, I1, ru, ⟨rfl, fun ys hy => by rw [I.list_inj hy hq]; exact hx⟩, st', fun b hb => (hf b hb).1⟩⟩
 done := by
  intro X hP hw hK hc i pins s σ H E I hf st hg
  subst hP hw hK
  obtain ⟨xs, hq, hx⟩ := hg
  obtain ⟨its, rv, p, hz⟩ := I.list hq
  obtain ⟨f0, f1, f2, f3, f4, f5⟩ := hf it (by simp)
  have hl := rv.length
  exact wpAny_pyNext_list_end (I.ok.hd hc) st p.isList (by simp; lia) fun h' eb => ⟨rfl, I.turned (t' := s.toks) (fun b o hb e => eb b o hb e) f0 f1 f3 f4 f5⟩
 self := fun _ _ _ _ _ st h => wpAny_pyIter_listiter st h
theorem turn_range {P : Program} {w : World} {K : PySem.W.Frag} {tg : Expr} (it : Addr) (lo : Int) (n : Nat) : Turn P w K tg (Itr lo n) [it] it (fun i h => IsRangeIter h it (lo + (i : Nat) * 1) ((n : Int) - (i : Nat)) 1) where
 mem := by simp
 obj := fun i h st b hb => by
  have e : b = it := by simpa using hb
  subst e
  exact ⟨_, st, fun v z => by
   have z' : Data.fields _ = Data.cell v := z
   cases z'⟩
 keep := fun i h h' st k => k it (by simp) _ st
 item := by
  intro X hP hw hK hc i pins s σ H E I hf st hg
  subst hP hw hK
  obtain ⟨f0, f1, f2, f3, f4, f5⟩ := hf it (by simp)
  have W := Walks.range (prog := X.prog) (w := X.w) (I.ok.hd hc) it lo 1 n
  refine W.item i s _ _ hg st fun v h' tk hv st' kk => ?_
  obtain ⟨t, rfl⟩ := hv
  have I1 : Inv X pins σ H { s with heap := h', toks := tk } := I.turned (fun b o hb e => kk b o (by simpa using hb) e) f0 f1 f3 f4 f5
  refine ⟨_, rfl, go_of (s := { s with heap := h', toks := tk }) (n := "range_iterator") st' rfl rfl (by decide) ⟨.int (lo + i), H, I1, ⟨t, ?_⟩, ⟨rfl, rfl⟩, st', fun b hb => (hf b hb).1⟩⟩
  rw [Int.mul_one]
 done := by
  intro X hP hw hK hc i pins s σ H E I hf st hg
  subst hP hw hK
  obtain ⟨f0, f1, f2, f3, f4, f5⟩ := hf it (by simp)
  exact wpAny_pyNext_range_end (I.ok.hd hc) st (by have : n ≤ i := hg; lia) fun h' eb => ⟨rfl, I.turned (t' := s.toks) (fun b o hb e => eb b o hb e) f0 f1 f3 f4 f5⟩
 self := fun _ _ _ _ _ st h => wpAny_pyIter_rangeiter st h
end L2
namespace L2
open PySem PySem.Spec PyProof.Rows
section
variable {X : Cx} {tg : Expr}
def iList (K : PySem.W.Frag) (tl : TE) : TI := fun σ H R => tl σ H fun x H1 => ∃ a, x = .ref a ∧ (∃ xs, SqL K H1 a xs) ∧ R (Itl K a) H1
theorem pi_list {l : Expr} {tl : TE} (hl : PE X l tl) : PI X tg l (iList X.K tl) := by
 intro pins s σ H R I h
 refine thn (hl pins s σ H _ I h) fun v s1 zz41 => el5 zz41 fun x H1 I1 r1 q1 => ?_
 obtain ⟨a, e, ⟨xs, hq⟩, q⟩ := q1
 subst e
 cases r1
 obtain ⟨its, rv, p, hz⟩ := I1.list hq
 refine wpAny_pyIter_list p.isList ?_
 refine ⟨s1.heap.objs.size, [s1.heap.objs.size], _, _, H1, rfl, I1.kept (t' := s1.toks) fun b o e => Heap.get?_push_of_some _ e, turn_list a _, ⟨_, Heap.get?_push_size _ rfl, rfl, rfl⟩, fun b hb => ?_, q⟩
 have e : b = s1.heap.objs.size := by simpa using hb
 subst e
 exact I1.fpOk (Nat.le_refl _) (I1.hok.fresh (Nat.le_refl _))
theorem range_it {pins : List (Addr × Obj)} {σ : St} {H : Hp} {s : Shared} {R : It → Hp → Prop} {E : Value → Shared → Prop} {lo hi : Int} {t u v : Tok} {tk : Nat} (I : Inv X pins σ H s) (h1 : -(2 ^ 62) ≤ lo) (h2 : lo < 2 ^ 62) (h3 : -(2 ^ 62) ≤ hi) (h4 : hi < 2 ^ 62)
  (q : R (Itr lo (hi - lo).toNat) H) : wpAny (model X.prog X.w) X.A (pyIter (.ref s.heap.objs.size)) (PIE X pins σ tg R) E { s with heap := s.heap.push { cls := .type "range", data := .fields #[.int lo t, .int hi u, .int 1 v] }, toks := tk } := by
 refine wpAny_pyIter_range (IsRange.new ..) (small_one h1 h2 h3 h4) ?_
 have I1 : Inv X pins σ H { s with heap := s.heap.push { cls := .type "range", data := .fields #[.int lo t, .int hi u, .int 1 v] }, toks := tk } := I.kept fun b o e => Heap.get?_push_of_some _ e
 refine ⟨(s.heap.push { cls := .type "range", data := .fields #[.int lo t, .int hi u, .int 1 v] }).objs.size, [(s.heap.push { cls := .type "range", data := .fields #[.int lo t, .int hi u, .int 1 v] }).objs.size], _, _, H, rfl,
  I1.kept (t' := tk) fun b o e => Heap.get?_push_of_some _ e, turn_range _ lo (hi - lo).toNat, ?_, fun b hb => ?_, q⟩
 ·have e1 : lo + ((0 : Nat) : Int) * 1 = lo := by simp
  have e2 : (((hi - lo).toNat : Nat) : Int) - ((0 : Nat) : Int) = Builtin.Range.rangeSize lo hi 1 := by rw [rangeSize_one]; split <;> lia
  show IsRangeIter _ _ (lo + ((0 : Nat) : Int) * 1) ((((hi - lo).toNat : Nat) : Int) - ((0 : Nat) : Int)) 1
  rw [e1, e2]
  exact Heap.get?_push_size _ rfl
 ·have e : b = (s.heap.push { cls := .type "range", data := .fields #[.int lo t, .int hi u, .int 1 v] }).objs.size := by simpa using hb
  subst e
  exact I1.fpOk (Nat.le_refl _) (I1.hok.fresh (Nat.le_refl _))
def iRng1 (ta : TA) : TI := fun σ H R => ta σ H fun vs H1 => ∃ j : Int, vs = [.int j] ∧ -(2 ^ 62) ≤ j ∧ j < 2 ^ 62 ∧ R (Itr 0 j.toNat) H1
def iRng2 (ta : TA) : TI := fun σ H R => ta σ H fun vs H1 => ∃ i j : Int, vs = [.int i, .int j] ∧ (-(2 ^ 62) ≤ i ∧ i < 2 ^ 62 ∧ -(2 ^ 62) ≤ j ∧ j < 2 ^ 62) ∧ R (Itr i (j - i).toNat) H1
theorem pi_range1 {a : Expr} {ta : TA} {p pos : Pos} (hg : Gl X "range") (hm : X.mg "range" = none) (ha : PA X [a] ta) (hs : starEach [a] X.env = [(false, eval a X.env)] := by rfl) : PI X tg (.Call (.Name "range" p) [a] [] pos) (iRng1 ta) := by
 intro pins s σ H R I h
 refine Call_ (ld_blt I hg hm boot_range (PyProof.Rows.callWith_type1 (thn (ha pos pins s σ H _ I h) fun us s1 zz43 => el5 zz43 fun vs H1 I1 r1 q1 => ?_) hs rfl))
 obtain ⟨j, e, q1, q2, q⟩ := q1
 subst e
 cases r1 with
 | cons r rr =>
  cases rr
  obtain ⟨t, rfl⟩ := r
  exact call_range_1 (range_it I1 (by lia) (by lia) q1 q2 (by simpa using q))
theorem pi_range2 {a b : Expr} {ta : TA} {p pos : Pos} (hg : Gl X "range") (hm : X.mg "range" = none) (ha : PA X [a, b] ta) (hs : starEach [a, b] X.env = [(false, eval a X.env), (false, eval b X.env)] := by rfl) (hs2 : starEach [b] X.env = [(false, eval b X.env)] := by rfl) :
  PI X tg (.Call (.Name "range" p) [a, b] [] pos) (iRng2 ta) := by
 intro pins s σ H R I h
 refine Call_ (ld_blt I hg hm boot_range (PyProof.Rows.callWith_type1 (thn (ha pos pins s σ H _ I h) fun us s1 zz44 => el5 zz44 fun vs H1 I1 r1 q1 => ?_) (by rw [hs, hs2]) (by rw [hs2]; rfl)))
 obtain ⟨i, j, e, ⟨q1, q2, q3, q4⟩, q⟩ := q1
 subst e
 cases r1 with
 | cons r rr =>
  cases rr with
  | cons r' rr =>
   cases rr
   obtain ⟨t, rfl⟩ := r
   obtain ⟨t', rfl⟩ := r'
   exact call_range_2 (range_it I1 q1 q2 q3 q4 q)
def tFor (wi : TI) (g : TG) (tb : TS) : TS := fun D σ H => wi σ H fun J H1 => ∃ W : Nat → Nat → St → Hp → Prop, (∃ m, W 0 m σ H1) ∧ ∀ i m σ H, W i m σ H →
 (J.stop i H ∧ D.nx σ H) ∨ (J.go i H ∧ ∃ N : St → Hp → Prop, (∀ σ' H', N σ' H' → ∃ m', m' < m ∧ W (i + 1) m' σ' H') ∧ ∀ x H', J.yld i H x H' → g x σ H' fun σ2 H2 => tb { D with nx := N, ct := N, bk := D.nx } σ2 H2)
def pinsAt (fp : List Addr) (h : Heap) : List (Addr × Obj) := fp.filterMap fun b => (h.get? b).map fun o => (b, o)
theorem mem_pinsAt {fp : List Addr} {h : Heap} {b : Addr} {o : Obj} (hb : b ∈ fp) (e : h.get? b = some o) : (b, o) ∈ pinsAt fp h := List.mem_filterMap.mpr ⟨b, hb, by rw [e]; rfl⟩
theorem of_pinsAt {fp : List Addr} {h : Heap} {p : Addr × Obj} (hp : p ∈ pinsAt fp h) : p.1 ∈ fp ∧ h.get? p.1 = some p.2 := by
 obtain ⟨b, hb, e⟩ := List.mem_filterMap.mp hp
 cases q : h.get? b with
 | none => rw [q] at e; cases e
 | some o =>
  rw [q] at e
  have e' : (b, o) = p := Option.some.inj e
  subst e'
  exact ⟨hb, q⟩
theorem Inv.pinned {pins : List (Addr × Obj)} {σ : St} {H : Hp} {s : Shared} {fp : List Addr} (I : Inv X pins σ H s) (hf : ∀ b ∈ fp, FpOk X pins H b) (ho : ∀ b ∈ fp, ∃ o, s.heap.get? b = some o ∧ ∀ v, o.data ≠ .cell v) : Inv X (pins ++ pinsAt fp s.heap) σ H s :=
 I.pins_of fun p hp => (List.mem_append.mp hp).elim (fun z => I.pin p (List.mem_append_right _ z)) fun z => by
  obtain ⟨hb, e⟩ := of_pinsAt z
  obtain ⟨f0, f1, f2, _⟩ := hf p.1 hb
  obtain ⟨o, e', d⟩ := ho p.1 hb
  rw [e] at e'; cases e'
  exact ⟨e, f0, f1, f2, d⟩
theorem Inv.unpinned {pins pl : List (Addr × Obj)} {σ : St} {H : Hp} {s : Shared} (I : Inv X (pins ++ pl) σ H s) : Inv X pins σ H s := I.pins_of fun p hp => I.pin p (List.mem_append_right _ (List.mem_append_left _ hp))
theorem ps_for {iter : Expr} {body : List Stmt} {wi : TI} {g : TG} {tb : TS} {pos : Pos} (hp : PassesOwn (model X.prog X.w) X.A X.env X.xe) (hc : X.calm = true) (hi : PI X tg iter wi) (hg : PG X tg g) (hb : PSs X body tb)
  (hs : ∀ x, foldedSetIterable iter X.env x = pure x := by intro _; rfl) : PS X (.For tg iter body [] pos) (tFor wi g tb) := by
 intro pins s σ H D I h
 refine wpAny_For (thn (hi pins s σ H _ I h) fun v s1 h1 => thn h1 fun itv s2 h2 => ?_) hs
 obtain ⟨it, fp, tn, J, H2, e, I2, T, st2, f2, W, ⟨m0, w0⟩, turn⟩ := h2
 subst e
 have stat : ∀ {H' : Hp}, (∀ b ∈ fp, H' b = none) → ∀ b ∈ fp, FpOk X pins H' b := fun hn b hb => ⟨hn b hb, (f2 b hb).2⟩
 refine codeAny_forLoop_any (fun n s' => ∃ i σ' H', Inv X pins σ' H' s' ∧ tn i s'.heap ∧ (∀ b ∈ fp, H' b = none) ∧ W i n σ' H') ?_ m0 ⟨0, σ, H2, I2, st2, fun b hb => (f2 b hb).1, w0⟩
 rintro n s3 ⟨i, σ3, H3, I3, st3, fr3, w3⟩
 rcases turn i n σ3 H3 w3 with ⟨stop, qn⟩ | ⟨go, N, hN, step⟩
 ·refine wpAny_passesOwn hp (thn (T.done X rfl rfl rfl hc i pins s3 σ3 H3 X.xe I3 (stat fr3) st3 stop) fun r s4 zz45 => zz45.elim fun hr I4 => ?_)
  subst hr
  exact wpAny_execs_nil ⟨σ3, H3, I4, qn⟩
 ·refine wpAny_passesOwn hp (thn (T.item X rfl rfl rfl hc i pins s3 σ3 H3 X.xe I3 (stat fr3) st3 go) fun r s4 zz46 => el2 zz46 fun u hr h4 => ?_)
  subst hr
  refine wpAny_passesOwn hp (thn h4 fun _ s5 zz47 => zz47.elim fun x zz48 => zz48.elim fun H5 zz49 => zz49.elim fun I5 zz50 => zz50.elim fun r5 zz51 => zz51.elim fun y5 zz52 => zz52.elim fun st5 fr5 => ?_)
  have I5' := I5.pinned (stat fr5) (T.obj _ _ st5)
  refine wpAny_passesOwn hp (thn (hg _ s5 σ3 H5 x u _ I5' r5 (step x H5 y5)) fun _ s6 zz53 => zz53.elim fun σ6 zz54 => zz54.elim fun H6 zz55 => zz55.elim fun I6 q6 => ?_)
  refine wpAny_passesOwn hp (thn (hb _ s6 σ6 H6 _ I6 q6) fun f s7 q7 => ?_)
  have again : ∀ {σ7 : St} {H7 : Hp}, Inv X (pins ++ pinsAt fp s5.heap) σ7 H7 s7 → N σ7 H7 → ∃ m, m < n ∧ ∃ i σ' H', Inv X pins σ' H' s7 ∧ tn i s7.heap ∧ (∀ b ∈ fp, H' b = none) ∧ W i m σ' H' := fun {σ7 H7} I7 n7 => by
   obtain ⟨m', hm, w7⟩ := hN σ7 H7 n7
   refine ⟨m', hm, i + 1, σ7, H7, I7.unpinned, T.keep _ _ _ st5 fun b hb o e => (I7.pin (b, o) (List.mem_append_right _ (List.mem_append_right _ (mem_pinsAt hb e)))).1, fun b hb => ?_, w7⟩
   obtain ⟨o, e, d⟩ := T.obj _ _ st5 b hb
   exact (I7.pin (b, o) (List.mem_append_right _ (List.mem_append_right _ (mem_pinsAt hb e)))).2.1
  cases f with
  | next => obtain ⟨σ7, H7, I7, n7⟩ := q7; exact again I7 n7
  | cont => obtain ⟨σ7, H7, I7, n7⟩ := q7; exact again I7 n7
  | brk => obtain ⟨σ7, H7, I7, q7⟩ := q7; exact ⟨σ7, H7, I7.unpinned, q7⟩
  | ret v => obtain ⟨x7, σ7, H7, I7, r7, q7⟩ := q7; exact ⟨x7, σ7, H7, I7.unpinned, r7, q7⟩
end
theorem while_by {c : TT} {tb : TS} {D : Ends} {σ : St} {H : Hp} (Pv : St → Hp → Prop) (μ : St → Hp → Nat) (h0 : Pv σ H)
  (hs : ∀ σ H, Pv σ H → c σ H fun b H1 => if b = true then tb { D with nx := fun σ' H' => Pv σ' H' ∧ μ σ' H' < μ σ H, ct := fun σ' H' => Pv σ' H' ∧ μ σ' H' < μ σ H, bk := D.nx } σ H1 else D.nx σ H1)
  (mono : ∀ σ H Q Q', (∀ b H1, Q b H1 → Q' b H1) → c σ H Q → c σ H Q') : tWhile c tb D σ H := by
 refine ⟨fun m σ H => m = μ σ H ∧ Pv σ H, ⟨_, rfl, h0⟩, ?_⟩
 rintro m σ H ⟨rfl, p⟩
 refine mono σ H _ _ (fun b H1 q => ?_) (hs σ H p)
 cases b with
 | true => exact ⟨_, fun σ' H' zz56 => zz56.elim fun p' l => ⟨_, l, rfl, p'⟩, q⟩
 | false => exact q
end L2
namespace L2
open PySem PySem.Spec PyProof.Rows
abbrev R2 := V → V → Hp → VK → Prop
def OpR (X : Cx) (f : Value → Value → Sem Value) (r : R2) : Prop :=
 ∀ (pins : List (Addr × Obj)) (s : Shared) (σ : St) (H : Hp) (x y : V) (v u : Value) (Q : VK), Inv X pins σ H s → RelV x v → RelV y u → r x y H Q →
  wpAny (model X.prog X.w) X.A (f v u) (EP X pins σ Q) X.xe s
def UnR (X : Cx) (f : Value → Sem Value) (r : V → Hp → VK → Prop) : Prop :=
 ∀ (pins : List (Addr × Obj)) (s : Shared) (σ : St) (H : Hp) (x : V) (v : Value) (Q : VK), Inv X pins σ H s → RelV x v → r x H Q →
  wpAny (model X.prog X.w) X.A (f v) (EP X pins σ Q) X.xe s
def CallR (X : Cx) (f : Value) (r : List V → Hp → VK → Prop) : Prop :=
 ∀ (pins : List (Addr × Obj)) (s : Shared) (σ : St) (H : Hp) (xs : List V) (us : List Value) (Q : VK), Inv X pins σ H s → Vals xs us → r xs H Q →
  wpAny (model X.prog X.w) X.A (call f us) (EP X pins σ Q) X.xe s
def tOp (r : R2) (ta tb : TE) : TE := fun σ H Q => ta σ H fun x H1 => tb σ H1 fun y H2 => r x y H2 Q
def tUn (r : V → Hp → VK → Prop) (ta : TE) : TE := fun σ H Q => ta σ H fun x H1 => r x H1 Q
def rI (C : Int → Int → Prop) (g : Int → Int → V) : R2 := fun x y H Q => ∃ i j, x = .int i ∧ y = .int j ∧ C i j ∧ Q (g i j) H
def rI0 (g : Int → Int → V) : R2 := fun x y H Q => ∃ i j, x = .int i ∧ y = .int j ∧ Q (g i j) H
def rU (g : Int → V) : V → Hp → VK → Prop := fun x H Q => ∃ i, x = .int i ∧ Q (g i) H
section
variable {X : Cx} {a b c : Expr} {ta tb tc : TE} {pos : Pos}
theorem binT (ha : PE X a ta) (hb : PE X b tb) {pins : List (Addr × Obj)} {s : Shared} {σ : St} {H : Hp} {R : V → V → Hp → Prop} (I : Inv X pins σ H s)
  (h : ta σ H fun x H1 => tb σ H1 fun y H2 => R x y H2) {Q : Value → Shared → Prop} {f : Value → Value → Sem Value}
  (hf : ∀ v u s2 x y H2, Inv X pins σ H2 s2 → RelV x v → RelV y u → R x y H2 → wpAny (model X.prog X.w) X.A (f v u) Q X.xe s2) :
  wpAny (model X.prog X.w) X.A (eval a X.env) (fun v s₁ => wpAny (model X.prog X.w) X.A (eval b X.env) (fun u s₂ => wpAny (model X.prog X.w) X.A (f v u) Q X.xe s₂) X.xe s₁) X.xe s := by
 refine thn (ha pins s σ H _ I h) fun v s1 zz57 => el5 zz57 fun x H1 I1 r1 q1 => ?_
 refine thn (hb pins s1 σ H1 _ I1 q1) fun u s2 zz58 => el5 zz58 fun y H2 I2 r2 q2 => ?_
 exact hf v u s2 x y H2 I2 r1 r2 q2
theorem pe_op {op : Operator} {r : R2} (ho : OpR X (binaryOp op) r) (ha : PE X a ta) (hb : PE X b tb) : PE X (.BinOp a op b pos) (tOp r ta tb) := by
 intro pins s σ H Q I h
 exact wpAny_BinOp (binT ha hb I h fun v u s2 x y H2 I2 rx ry q => ho pins s2 σ H2 x y v u Q I2 rx ry q)
theorem pe_un {op : UnaryOp} {r : V → Hp → VK → Prop} (ho : UnR X (unaryOp op) r) (ha : PE X a ta) : PE X (.UnaryOp op a pos) (tUn r ta) := by
 intro pins s σ H Q I h
 exact UnaryOp_ (thn (ha pins s σ H _ I h) fun v s1 zz59 => el5 zz59 fun x H1 I1 r1 q1 => ho pins s1 σ H1 x v Q I1 r1 q1)
theorem opI {f : Value → Value → Sem Value} {C : Int → Int → Prop} {g : Int → Int → Int}
  (rule : ∀ (i j : Int) (t u : Tok) (s : Shared) (Q : Value → Shared → Prop) (E : Value → Shared → Prop), C i j → Q (.int (g i j) s.toks) { s with toks := s.toks + 1 } → wpAny (model X.prog X.w) X.A (f (.int i t) (.int j u)) Q E s) :
  OpR X f (rI C fun i j => .int (g i j)) := by
 intro pins s σ H x y v u Q I rx ry h
 obtain ⟨i, j, rfl, rfl, hc, q⟩ := h
 obtain ⟨t, rfl⟩ := rx
 obtain ⟨t', rfl⟩ := ry
 exact rule i j t t' s _ _ hc ⟨.int (g i j), H, I.tok _, ⟨_, rfl⟩, q⟩
theorem opI0 {f : Value → Value → Sem Value} {g : Int → Int → Int}
  (rule : ∀ (i j : Int) (t u : Tok) (s : Shared) (Q : Value → Shared → Prop) (E : Value → Shared → Prop), Q (.int (g i j) s.toks) { s with toks := s.toks + 1 } → wpAny (model X.prog X.w) X.A (f (.int i t) (.int j u)) Q E s) :
  OpR X f (rI0 fun i j => .int (g i j)) := by
 intro pins s σ H x y v u Q I rx ry h
 obtain ⟨i, j, rfl, rfl, q⟩ := h
 obtain ⟨t, rfl⟩ := rx
 obtain ⟨t', rfl⟩ := ry
 exact rule i j t t' s _ _ ⟨.int (g i j), H, I.tok _, ⟨_, rfl⟩, q⟩
theorem opB0 {f : Value → Value → Sem Value} {g : Int → Int → Bool}
  (rule : ∀ (i j : Int) (t u : Tok) (s : Shared) (Q : Value → Shared → Prop) (E : Value → Shared → Prop), Q (.bool (g i j)) s → wpAny (model X.prog X.w) X.A (f (.int i t) (.int j u)) Q E s) :
  OpR X f (rI0 fun i j => .bl (g i j)) := by
 intro pins s σ H x y v u Q I rx ry h
 obtain ⟨i, j, rfl, rfl, q⟩ := h
 obtain ⟨t, rfl⟩ := rx
 obtain ⟨t', rfl⟩ := ry
 exact rule i j t t' s _ _ ⟨.bl (g i j), H, I, rfl, q⟩
def CPow (i j : Int) : Prop := 0 ≤ j ∧ j ≤ 1000000 ∧ i.natAbs < 2 ^ 64
def CMul (i j : Int) : Prop := (-(2 ^ 64) < i ∧ i < 2 ^ 64) ∨ (-(2 ^ 64) < j ∧ j < 2 ^ 64)
theorem CMul.ok {i j : Int} (h : CMul i j) : IntMulOk i j := by
 rcases h with ⟨h1, h2⟩ | ⟨h1, h2⟩
 ·exact .of_left (intBits_le_64 h1 h2)
 ·exact .of_right (intBits_le_64 h1 h2)
theorem op_add : OpR X (binaryOp .Add) (rI0 fun i j => .int (i + j)) := opI0 fun _ _ _ _ _ _ _ q => add_int q
theorem op_sub : OpR X (binaryOp .Sub) (rI0 fun i j => .int (i - j)) := opI0 fun _ _ _ _ _ _ _ q => sub_int q
theorem op_mul : OpR X (binaryOp .Mult) (rI CMul fun i j => .int (i * j)) := opI fun _ _ _ _ _ _ _ hc q => mul_int q hc.ok
theorem op_mod : OpR X (binaryOp .Mod) (rI (fun _ j => 0 < j) fun i j => .int (i % j)) := opI fun i j _ _ _ _ _ hc q => by
 have h1 : (0 : Int) < j := hc
 exact mod_int' (by lia) (by rw [Int.fmod_eq_emod_of_nonneg i (by lia)]; exact q)
theorem op_pow : OpR X (binaryOp .Pow) (rI CPow fun i j => .int (i ^ j.toNat)) := opI fun _ _ _ _ _ _ _ hc q => pow_int_small hc.1 hc.2.1 hc.2.2 q
theorem unI {f : Value → Sem Value} {g : Int → Int}
  (rule : ∀ (i : Int) (t : Tok) (s : Shared) (Q : Value → Shared → Prop) (E : Value → Shared → Prop), Q (.int (g i) s.toks) { s with toks := s.toks + 1 } → wpAny (model X.prog X.w) X.A (f (.int i t)) Q E s) :
  UnR X f (rU fun i => .int (g i)) := by
 intro pins s σ H x v Q I rx h
 obtain ⟨i, rfl, q⟩ := h
 obtain ⟨t, rfl⟩ := rx
 exact rule i t s _ _ ⟨.int (g i), H, I.tok _, ⟨_, rfl⟩, q⟩
theorem un_neg : UnR X (unaryOp .USub) (rU fun i => .int (-i)) := unI fun _ _ _ _ _ q => neg_int q
end
def scal : V → V → Bool
 | .non, .non => true | .non, .int _ => true | .int _, .non => true | .non, .bl _ => true | .bl _, .non => true | .non, .str _ => true | .str _, .non => true
 | .int _, .int _ => true | .bl _, .bl _ => true | .str _, .str _ => true | .byt _, .byt _ => true
 | .int _, .str _ => true | .str _, .int _ => true | .bl _, .str _ => true | .str _, .bl _ => true
 | _, _ => false
def rEq : R2 := fun x y H Q => scal x y = true ∧ Q (.bl (decide (x = y))) H
theorem dec_int {i j : Int} : decide (V.int i = V.int j) = (i == j) := by
 rw [Bool.eq_iff_iff]
 simp
theorem dec_bl {i j : Bool} : decide (V.bl i = V.bl j) = (i == j) := by
 rw [Bool.eq_iff_iff]
 simp
theorem dec_str {i j : Str} : decide (V.str i = V.str j) = (i == j) := by
 rw [Bool.eq_iff_iff]
 simp
theorem dec_byt {i j : Array UInt8} : decide (V.byt i = V.byt j) = (i.toList == j.toList) := by
 rw [Bool.eq_iff_iff]
 cases i
 cases j
 simp
section
variable {X : Cx} {a b c : Expr} {ta tb tc : TE} {pos : Pos}
theorem fin_bl {pins : List (Addr × Obj)} {σ : St} {H : Hp} {s : Shared} {Q : VK} {k k' : Bool} (I : Inv X pins σ H s) (q : Q (.bl k) H) (e : k = k') : EP X pins σ Q (.bool k') s := by
 subst e
 exact ⟨.bl k, H, I, rfl, q⟩
theorem op_eq : OpR X (compareOp .Eq) rEq := by
 intro pins s σ H x y v u Q I rx ry h
 obtain ⟨hs, q⟩ := h
 cases x with
 | non =>
  cases rx
  cases y with
  | non => cases ry; exact PySem.EqNone.eq_none_none (fin_bl I q (by simp))
  | bl j => cases ry; exact PySem.EqNone.eq_none_bool (fin_bl I q (by simp))
  | int j => obtain ⟨t', rfl⟩ := ry; exact PySem.EqNone.eq_none_int (fin_bl I q (by simp))
  | str j => obtain ⟨t', rfl⟩ := ry; exact PySem.EqNone.eq_none_str (fin_bl I q (by simp))
  | _ => exact absurd (show false = true from hs) Bool.false_ne_true
 | bl i =>
  cases rx
  cases y with
  | non => cases ry; exact PySem.EqNone.eq_bool_none (fin_bl I q (by simp))
  | bl j => cases ry; exact eq_bool (fin_bl I q dec_bl)
  | str j => obtain ⟨t', rfl⟩ := ry; exact PySem.EqMixed.eq_bool_str (fin_bl I q (by simp))
  | _ => exact absurd (show false = true from hs) Bool.false_ne_true
 | int i =>
  obtain ⟨t, rfl⟩ := rx
  cases y with
  | non => cases ry; exact PySem.EqNone.eq_int_none (fin_bl I q (by simp))
  | int j => obtain ⟨t', rfl⟩ := ry; exact eq_int (fin_bl I q dec_int)
  | str j => obtain ⟨t', rfl⟩ := ry; exact PySem.EqMixed.eq_int_str (fin_bl I q (by simp))
  | _ => exact absurd (show false = true from hs) Bool.false_ne_true
 | str i =>
  obtain ⟨t, rfl⟩ := rx
  cases y with
  | non => cases ry; exact PySem.EqNone.eq_str_none (fin_bl I q (by simp))
  | bl j => cases ry; exact PySem.EqMixed.eq_str_bool (fin_bl I q (by simp))
  | int j => obtain ⟨t', rfl⟩ := ry; exact PySem.EqMixed.eq_str_int (fin_bl I q (by simp))
  | str j => obtain ⟨t', rfl⟩ := ry; exact eq_str (fin_bl I q dec_str)
  | _ => exact absurd (show false = true from hs) Bool.false_ne_true
 | byt i =>
  obtain ⟨t, rfl⟩ := rx
  cases y with
  | byt j => obtain ⟨t', rfl⟩ := ry; exact PySem.W.eq_bytes (fin_bl I q dec_byt)
  | _ => exact absurd (show false = true from hs) Bool.false_ne_true
 | _ => cases y <;> exact absurd (show false = true from hs) Bool.false_ne_true
theorem op_lt : OpR X (compareOp .Lt) (rI0 fun i j => .bl (decide (i < j))) := opB0 fun _ _ _ _ _ _ _ q => lt_int q
theorem op_le : OpR X (compareOp .LtE) (rI0 fun i j => .bl (decide (i ≤ j))) := opB0 fun _ _ _ _ _ _ _ q => le_int q
theorem op_gt : OpR X (compareOp .Gt) (rI0 fun i j => .bl (decide (j < i))) := opB0 fun _ _ _ _ _ _ _ q => gt_int q
theorem op_ge : OpR X (compareOp .GtE) (rI0 fun i j => .bl (decide (j ≤ i))) := opB0 fun _ _ _ _ _ _ _ q => ge_int q
theorem op_isN : OpR X (compareOp .Is) (fun x y H Q => y = .non ∧ Q (.bl (decide (x = .non))) H) := by
 intro pins s σ H x y v u Q I rx ry h
 obtain ⟨rfl, q⟩ := h
 cases ry
 refine is_none_gen (fin_bl I q ?_)
 cases x <;> first
  | (cases rx; rfl)
  | (obtain ⟨t, rfl⟩ := rx; rfl)
theorem op_notN : OpR X (compareOp .IsNot) (fun x y H Q => y = .non ∧ Q (.bl (!decide (x = .non))) H) := by
 intro pins s σ H x y v u Q I rx ry h
 obtain ⟨rfl, q⟩ := h
 cases ry
 refine isnot_none_gen (fin_bl I q ?_)
 cases x <;> first
  | (cases rx; rfl)
  | (obtain ⟨t, rfl⟩ := rx; rfl)
theorem nomark (b : Expr) {op : CmpOp} (h : op ≠ .In := by decide) (h2 : op ≠ .NotIn := by decide) : behindInMarks op b = false := by
 have e1 : (op == CmpOp.In) = false := by cases op <;> first | rfl | exact absurd rfl h
 have e2 : (op == CmpOp.NotIn) = false := by cases op <;> first | rfl | exact absurd rfl h2
 cases b <;> simp [behindInMarks, e1, e2]
theorem pe_cmpR {op : CmpOp} {r : R2} (ho : OpR X (compareOp op) r) (ha : PE X a ta) (hb : PE X b tb) (hm : behindInMarks op b = false) : PE X (.Compare a [op] [b] pos) (tOp r ta tb) := by
 intro pins s σ H Q I h
 exact wpAny_Compare1 (binT ha hb I h fun v u s2 x y H2 I2 rx ry q => ho pins s2 σ H2 x y v u Q I2 rx ry q) hm
def tTest (t : TE) : TT := fun σ H Q => t σ H fun x H' => ∃ k, x = .bl k ∧ Q k H'
theorem pt_cmpR {op : CmpOp} {r : R2} (ho : OpR X (compareOp op) r) (ha : PE X a ta) (hb : PE X b tb) (hm : behindInMarks op b = false) : PT X (.Compare a [op] [b] pos) (tTest (tOp r ta tb)) := by
 intro pins s σ H Q I h
 refine wpAny_isTrue_Compare1 (thn (ha pins s σ H _ I h) fun v s1 zz60 => el5 zz60 fun x H1 I1 r1 q1 => thn (hb pins s1 σ H1 _ I1 q1) fun u s2 zz61 => el5 zz61 fun y H2 I2 r2 q2 =>
  thn (ho pins s2 σ H2 x y v u _ I2 r1 r2 q2) fun c s3 zz62 => zz62.elim fun z zz63 => zz63.elim fun H3 zz64 => zz64.elim fun I3 zz65 => zz65.elim fun r3 zz66 => zz66.elim fun k zz67 => zz67.elim fun e q3 => ?_) hm
 subst e
 cases r3
 exact wpAny_truthy_bool ⟨H3, I3, q3⟩
def tChain (r r' : R2) (ta tb tc : TE) : TE := fun σ H Q => ta σ H fun x H1 => tb σ H1 fun y H2 => r x y H2 fun z H3 => ∃ k, z = .bl k ∧
 (if k = true then tc σ H3 fun w' H4 => r' y w' H4 Q else Q (.bl false) H3)
theorem pe_chain {op op' : CmpOp} {r r' : R2} (ho : OpR X (compareOp op) r) (ho' : OpR X (compareOp op') r') (ha : PE X a ta) (hb : PE X b tb) (hc : PE X c tc)
  (hm : lastMarks [op, op'] [b, c] = false := by with_unfolding_all rfl) : PE X (.Compare a [op, op'] [b, c] pos) (tChain r r' ta tb tc) := by
 intro pins s σ H Q I h
 refine Compare_chain (thn (ha pins s σ H _ I h) fun v s1 zz68 => el5 zz68 fun x H1 I1 r1 q1 => chain_link (thn (hb pins s1 σ H1 _ I1 q1) fun u s2 zz69 => el5 zz69 fun y H2 I2 r2 q2 =>
  thn (ho pins s2 σ H2 x y v u _ I2 r1 r2 q2) fun d s3 zz70 => zz70.elim fun z zz71 => zz71.elim fun H3 zz72 => zz72.elim fun I3 zz73 => zz73.elim fun r3 zz74 => zz74.elim fun k zz75 => zz75.elim fun e q3 => ?_)) hm
 subst e
 cases r3
 refine wpAny_truthy_bool ?_
 cases k with
 | false => exact ite_ff ⟨.bl false, H3, I3, rfl, q3⟩
 | true => exact ite_tt (chain_last (thn (hc pins s3 σ H3 _ I3 q3) fun w' s4 zz76 => el5 zz76 fun z' H4 I4 r4 q4 => ho' pins s4 σ H4 y z' u w' Q I4 r2 r4 q4))
theorem line63 : (sizeLine : Nat) < 2 ^ 63 := by rw [sizeLine_eq]; decide
theorem vals1 {x : V} {us : List Value} (r : Vals [x] us) : ∃ u, us = [u] ∧ RelV x u := by
 cases r with
 | cons r1 r2 => cases r2; exact ⟨_, rfl, r1⟩
theorem vals2 {x y : V} {us : List Value} (r : Vals [x, y] us) : ∃ u w', us = [u, w'] ∧ RelV x u ∧ RelV y w' := by
 cases r with
 | cons r1 r2 =>
  cases r2 with
  | cons r3 r4 => cases r4; exact ⟨_, _, rfl, r1, r3⟩
theorem call_abs : CallR X (.builtin "abs") (fun xs H Q => ∃ i, xs = [.int i] ∧ Q (.int (if i < 0 then -i else i)) H) := by
 intro pins s σ H xs us Q I r h
 obtain ⟨i, rfl, q⟩ := h
 obtain ⟨u, rfl, t, rfl⟩ := vals1 r
 exact call_abs_int fun u tk => ⟨.int (if i < 0 then -i else i), H, I.tok _, ⟨_, rfl⟩, q⟩
theorem call_min2 (hc : X.calm = true) : CallR X (.builtin "min") (fun xs H Q => ∃ i j, xs = [.int i, .int j] ∧ Q (.int (if j < i then j else i)) H) := by
 intro pins s σ H xs us Q I r h
 obtain ⟨i, j, rfl, q⟩ := h
 obtain ⟨u, w', rfl, ⟨t, rfl⟩, ⟨t', rfl⟩⟩ := vals2 r
 refine min_two_ints (I.ok.hd hc) fun h' tk k => ⟨_, H, I.kept k, ?_, q⟩
 by_cases hj : j < i
 ·rw [if_pos hj, if_pos hj]; exact ⟨_, rfl⟩
 ·rw [if_neg hj, if_neg hj]; exact ⟨_, rfl⟩
end
end L2
namespace L2
open PySem PySem.Spec PyProof.Rows
structure ObjM (h : Heap) (x dx C : Addr) (mA : Str → Option Value) : Prop where
 obj : h.get? x = some (PySem.W.instObj C dx)
 ns : h.Ns1 dx mA
 ne : dx ≠ x
theorem lookIn_ns {h : Heap} {dx : Addr} {mA : Str → Option Value} (n : h.Ns1 dx mA) : ∃ od, h.get? dx = some od ∧ ∀ name, PySem.W.lookIn name od = some (mA name) := by
 obtain ⟨o, es, ep, ho, hd, hk, _, hm⟩ := n
 refine ⟨o, ho, fun name => ?_⟩
 have e := hm name
 unfold nsFind findBy at e
 rw [← Array.find?_toList] at e
 unfold PySem.W.lookIn
 rw [hd]
 dsimp only
 split
 ·rename_i y q
  rw [q] at e
  exact congrArg some e
 ·rename_i q
  rw [q] at e
  have a : es.toList.any (·.refKey) = false := by
   rw [List.any_eq_false]
   intro y hy
   obtain ⟨z, t, hkey⟩ := hk y (Array.mem_toList_iff.mp hy)
   simp [DictEntry.refKey, hkey]
  have a' : ¬ es.toList.any (·.refKey) = true := by rw [a]; exact Bool.false_ne_true
  rw [if_neg a']
  exact congrArg some e
theorem ObjM.look {h : Heap} {x dx C : Addr} {mA : Str → Option Value} (I : ObjM h x dx C mA) : ∃ od, PySem.W.InstAt h x (PySem.W.instObj C dx) C (some od) ∧ ∀ name, PySem.W.lookIn name od = some (mA name) :=
 let ⟨od, ho, hl⟩ := lookIn_ns I.ns
 ⟨od, ⟨I.obj, rfl, rfl, ho⟩, hl⟩
section
variable {prog : Program} {w : World} {A : Around} {E : Value → Shared → Prop} {s : Shared} {K : PySem.W.Frag} {x dx C f : Addr} {mA : Str → Option Value} {name : Str} {v : Value}
end
theorem RelO.some_of {v : V} {o : Option Value} (r : RelO (some v) o) : ∃ u, o = some u ∧ RelV v u := by
 cases o with
 | none => exact (show False from r).elim
 | some u => exact ⟨u, rfl, r⟩
section
variable {P : Program} {w : World} {H H' : Hp} {h h' : Heap} {a C dx : Addr} {fs fs' : List (Str × V)}
theorem ins_get (hok : HOk P w H h) (e : H a = some (.ins C dx fs)) : ∃ mA, ObjM h a dx C mA ∧ (∀ f, RelO (fs.lookup f) (mA f)) ∧ PySem.Within mA (fs.map (·.1)) ∧ fs.length ≤ 1000 ∧ H dx = some (.own a) := by
 obtain ⟨d, z, ne, ob, mA, n, r, q⟩ := (show ObjOk P w H h a (.ins C dx fs) from hok a _ e)
 exact ⟨mA, ⟨ob, n, ne⟩, r, q, z, d⟩
end
structure Cls (K : PySem.W.Frag) (C : Addr) : Prop where
 pg : PySem.W.plainGet K C Str.empty = true
 hd : PySem.W.hasDictIn K C = true
 po : PySem.W.plainOver K C = true
 sa : PySem.W.findIn K (.ref C) "__setattr__" = some (some (.builtin "object.__setattr__"))
theorem Cls.get {K : PySem.W.Frag} {C : Addr} (c : Cls K C) (f : Str) : PySem.W.plainGet K C f = true := c.pg
section
variable {X : Cx} {pins : List (Addr × Obj)} {σ : St} {H : Hp} {s : Shared} {a C dx : Addr} {fs : List (Str × V)} {f : Str} {v : V} {A : Around} {E : Value → Shared → Prop}
end
section
variable {X : Cx} {o e value : Expr} {f : Str} {pos pos' tpos : Pos} {ta tv : TE}
end
section
variable {X : Cx} {pins : List (Addr × Obj)} {σ : St} {H : Hp} {s : Shared} {A : Around} {E : Value → Shared → Prop} {Q : Value → Shared → Prop} {c : Value} {b : Bool}
inductive TyOf (K : PySem.W.Frag) (H : Hp) : V → Value → Prop where
 | non : TyOf K H .non (.type "NoneType")
 | bl (x : Bool) : TyOf K H (.bl x) (.type "bool")
 | int (i : Int) : TyOf K H (.int i) (.type "int")
 | str (x : Str) : TyOf K H (.str x) (.type "str")
 | flt (x : UInt64) : TyOf K H (.flt x) (.type "float")
 | lst {a : Addr} {xs : List V} (e : H a = some (.lst xs)) : TyOf K H (.ref a) (.type "list")
 | frz {a : Addr} {o : Obj} {xs : List V} (e : H a = some (.frz o (.lst xs))) : TyOf K H (.ref a) (.type "list")
 | tup {a : Addr} {xs : List V} (e : H a = some (.tup xs)) : TyOf K H (.ref a) (.type "tuple")
 | dK {a : Addr} {kvs : List (Key × V)} (e : H a = some (.dK kvs)) : TyOf K H (.ref a) (.type "dict")
 | dT {a : Addr} {kvs : List (List Key × V)} (e : H a = some (.dT kvs)) : TyOf K H (.ref a) (.type "dict")
 | ins {a C dx : Addr} {fs : List (Str × V)} (e : H a = some (.ins C dx fs)) (cl : Cls K C) (ha : PySem.W.findIn K (.ref C) "__class__" = some (some (.builtin "object.__class__")))
   (hn : PySem.W.specialIn K (.builtin "object.__class__") "__get__" = some (some (.builtin "getset_descriptor.__get__"))) (htk : PySem.W.takesIn K (.builtin "object.__class__") = some true)
   (hm : PySem.W.mroIn K C (.type "object") = some true) : TyOf K H (.ref a) (.ref C)
theorem isinst_ok {x : V} {u t : Value} (I : Inv X pins σ H s) (rx : RelV x u) (ty : TyOf X.K H x t) (e : PySem.W.kitOne X.K t c = some b) (h : ∀ tk, Q (.bool b) { s with toks := tk }) :
  wpAny (model X.prog X.w) A (call (.builtin "isinstance") [u, c]) Q E s := by
 cases ty with
 | non => cases (show u = Value.none from rx); exact PySem.W.kia_one PySem.W.kitx_none I.kIn True.intro e (fun z => nomatch z) h
 | bl y => cases (show u = Value.bool y from rx); exact PySem.W.kia_one PySem.W.kitx_bool I.kIn True.intro e (fun z => nomatch z) h
 | int i => obtain ⟨t, q⟩ := (show ∃ t, u = Value.int i t from rx); cases q; exact PySem.W.kia_one PySem.W.kitx_int I.kIn True.intro e (fun z => nomatch z) h
 | str y => obtain ⟨t, q⟩ := (show ∃ t, u = Value.str y t from rx); cases q; exact PySem.W.kia_one PySem.W.kitx_str I.kIn True.intro e (fun z => nomatch z) h
 | flt y => obtain ⟨t, q⟩ := (show ∃ t, u = Value.float y t from rx); cases q; exact PySem.W.kia_one PySem.W.kitx_float I.kIn True.intro e (fun z => nomatch z) h
 | @lst a xs ea =>
  cases (show u = Value.ref a from rx)
  obtain ⟨_, _, n, _, h1⟩ := (show ObjOk X.prog X.w H s.heap a (.lst xs) from I.hok a _ ea)
  exact PySem.W.kia_one PySem.W.kitx_list I.kIn ⟨_, h1, rfl⟩ e (fun z => nomatch z) h
 | @frz a ob xs ea =>
  cases (show u = Value.ref a from rx)
  obtain ⟨_, _, _, n, _, h1⟩ := (show ObjOk X.prog X.w H s.heap a (.frz ob (.lst xs)) from I.hok a _ ea)
  exact PySem.W.kia_one PySem.W.kitx_list I.kIn ⟨_, h1, rfl⟩ e (fun z => nomatch z) h
 | @tup a xs ea =>
  cases (show u = Value.ref a from rx)
  obtain ⟨_, _, _, p⟩ := (show ObjOk X.prog X.w H s.heap a (.tup xs) from I.hok a _ ea)
  obtain ⟨o, h1, h2, _⟩ := p
  exact PySem.W.kia_one PySem.W.kitx_tuple I.kIn ⟨o, h1, h2⟩ e (fun z => nomatch z) h
 | @dK a kvs ea =>
  cases (show u = Value.ref a from rx)
  obtain ⟨_, _, vs, _, p⟩ := (show ObjOk X.prog X.w H s.heap a (.dK kvs) from I.hok a _ ea)
  obtain ⟨o, es, ep, h1, h2, _⟩ := p
  exact PySem.W.kia_one PySem.W.kitx_dict I.kIn ⟨o, h1, h2.1⟩ e (fun z => nomatch z) h
 | @dT a kvs ea =>
  cases (show u = Value.ref a from rx)
  obtain ⟨_, _, xs, _, o, es, ep, h1, h2, _⟩ := (show ObjOk X.prog X.w H s.heap a (.dT kvs) from I.hok a _ ea)
  exact PySem.W.kia_one PySem.W.kitx_dict I.kIn ⟨o, h1, h2.1⟩ e (fun z => nomatch z) h
 | @ins a C dx fs ea cl ha hn htk hm =>
  cases (show u = Value.ref a from rx)
  obtain ⟨mA, O, _⟩ := ins_get I.hok ea
  obtain ⟨od, J, _⟩ := O.look
  exact PySem.W.kia_one (PySem.W.kitx_own (cl.get _) cl.hd ha hn htk hm) I.kIn J e (fun z => nomatch z) h
end
end L2
namespace L2
open PySem PySem.Spec PyProof.Rows
structure Room (k : Nat) (A : Around) : Prop where
 hd : A.handled = none
 dp : A.depth + 3 * k + 5 < recursionLimit
 un : A.units + 16 * k + 200 < cLine
 gd : A.guards = some []
theorem Room.mono {j k : Nat} {A : Around} (r : Room k A) (h : j ≤ k) : Room j A := ⟨r.hd, by have := r.dp; lia, by have := r.un; lia, r.gd⟩
theorem Room.deeper {k : Nat} {A : Around} (r : Room (k + 1) A) (env : Env) : Room k (A.deeper env) :=
 ⟨r.hd, by have := r.dp; show A.depth + 1 + 3 * k + 5 < _; lia, by have := r.un; show A.units + 3 + 16 * k + 200 < _; lia, r.gd⟩
theorem Room.depth {k : Nat} {A : Around} (r : Room k A) : A.depth < recursionLimit := by have := r.dp; lia
theorem Room.units {k : Nat} {A : Around} (r : Room k A) : A.units + 64 < cLine := by have := r.un; lia
def tNil : TA := fun _ H Q => Q [] H
def tCons (ta : TE) (tr : TA) : TA := fun σ H Q => ta σ H fun x H1 => tr σ H1 fun xs H2 => Q (x :: xs) H2
section
variable {X : Cx} {e : Expr} {es : List Expr} {te : TE} {t : TA} {pos : Pos}
theorem pa_nil : PA X [] tNil := fun _ _ _ _ H Q I h => Calls.spliced_nil ⟨[], H, I, .nil, h⟩
theorem pa_cons (ha : PE X e te) (hr : PA X es t) (hs : starEach (e :: es) X.env = (false, eval e X.env) :: starEach es X.env := by rfl) : PA X (e :: es) (tCons te t) := by
 intro pos pins s σ H Q I h
 rw [hs]
 show wpAny _ _ (spliced ((false, eval e X.env) :: backTo pos (starEach es X.env))) _ _ s
 refine Calls.spliced_cons (thn (ha pins s σ H _ I h) fun u s1 zz173 => el5 zz173 fun x H1 I1 r1 q1 => ?_)
 exact thn (hr pos pins s1 σ H1 _ I1 q1) fun us s2 zz174 => el5 zz174 fun xs H2 I2 r2 q2 => ⟨x :: xs, H2, I2, .cons r1 r2, q2⟩
def tTup (t : TA) : TE := fun σ H Q => t σ H fun xs H1 => xs.length ≤ sizeLine ∧ ∀ p, H1 p = none → Q (.ref p) (upd H1 p (.tup xs))
def tLst (t : TA) : TE := fun σ H Q => t σ H fun xs H1 => xs.length ≤ sizeLine ∧ ∀ p, H1 p = none → Q (.ref p) (upd H1 p (.lst xs))
theorem pe_tup {x1} (h : PA X es t) : PE X (.Tuple es x1 pos) (tTup t) := by
 intro pins s σ H Q I hq
 refine wpAny_Tuple_spliced (thn (h pos pins s σ H _ I hq) fun us s1 zz175 => zz175.elim fun xs zz176 => zz176.elim fun H1 zz177 => zz177.elim fun I1 zz178 => zz178.elim fun r zz179 => zz179.elim fun z q => ⟨by rw [← r.length]; exact z, ?_⟩)
 have hf : H1 s1.heap.objs.size = none := I1.hok.fresh (Nat.le_refl _)
 refine ⟨.ref s1.heap.objs.size, upd H1 s1.heap.objs.size (.tup xs), I1.laid (t' := s1.toks) (fun b u e => Heap.get?_push_of_some _ e) (Nat.le_refl _) ?_, rfl, q _ hf⟩
 exact ⟨z, us, r, ⟨_, Heap.get?_push_size _ rfl, rfl, _, rfl⟩⟩
theorem pe_lst (h : PA X es t) : PE X (.List es pos) (tLst t) := by
 intro pins s σ H Q I hq
 refine wpAny_List_spliced (thn (h pos pins s σ H _ I hq) fun us s1 zz180 => zz180.elim fun xs zz181 => zz181.elim fun H1 zz182 => zz182.elim fun I1 zz183 => zz183.elim fun r zz184 => zz184.elim fun z q => ⟨by rw [← r.length]; exact z, ?_⟩)
 have hf : H1 s1.heap.objs.size = none := I1.hok.fresh (Nat.le_refl _)
 refine ⟨.ref s1.heap.objs.size, upd H1 s1.heap.objs.size (.lst xs), I1.laid (t' := s1.toks) (fun b u e => Heap.get?_push_of_some _ e) (Nat.le_refl _) ?_, rfl, q _ hf⟩
 exact ⟨z, us, 0, r, Heap.get?_push_size _ rfl⟩
end
abbrev Sp := List V → Hp → VK → XK → Prop
abbrev CXT := List Env → Hp → Shared → XK → Value → Shared → Prop
structure Env0 (P : Program) (w : World) (K : PySem.W.Frag) (mg : Str → Option Value) (base : Heap) (A : Around) (outer : List Env) (s : Shared) (H : Hp) : Prop where
 frames : A.frames = some outer
 mod : Mod K mg base
 bs : ∀ b o, base.get? b = some o → s.heap.get? b = some o ∧ H b = none
 bsz : base.objs.size ≤ s.heap.objs.size
 funs : s.heap.FunFrames base outer
 frf : ∀ b ∈ frs outer, H b = none
 hok : HOk P w H s.heap
 bare : AllBare s.gens
def CE (outer : List Env) (P : Program) (w : World) (H : Hp) (s : Shared) (Q : VK) (u : Value) (s' : Shared) : Prop :=
 ∃ v H', s'.os = s.os ∧ AllBare s'.gens ∧ Un (frs outer) [] H H' s.heap s'.heap ∧ HOk P w H' s'.heap ∧ RelV v u ∧ Q v H'
def CR (CX : CXT) (outer : List Env) (P : Program) (w : World) (H : Hp) (s : Shared) (Q : VK) (E : XK) (r : Result) (s' : Shared) : Prop :=
 match r with
 | .ok (.ret u) => CE outer P w H s Q u s'
 | .ok _ => False
 | .error e => CX outer H s E e s'
structure FnOk (P : Program) (w : World) (K : PySem.W.Frag) (mg : Str → Option Value) (base : Heap) (CX : CXT) (k : Nat) (f : Addr) (fd : FuncData) (ps : List Str) (sp : Sp) : Prop where
 len : ∀ vs H Q E, sp vs H Q E → vs.length = ps.length
 run : ∀ (A : Around) (outer : List Env) (s : Shared) (H : Hp) (args : Args) (us : List Value) (vs : List V) (Q : VK) (E : XK), Room k A → Env0 P w K mg base A outer s H → BindsTo s fd args (ps.zip us) → Vals vs us → sp vs H Q E →
  codeAny (model P w) A (.call (.ref f) args) (CR CX outer P w H s Q E) s
theorem FnOk.imp {P : Program} {w : World} {K : PySem.W.Frag} {mg : Str → Option Value} {base : Heap} {CX : CXT} {k : Nat} {f : Addr} {fd : FuncData} {ps : List Str} {sp sp' : Sp} (F : FnOk P w K mg base CX k f fd ps sp)
  (h : ∀ vs H Q E, sp' vs H Q E → sp vs H Q E) : FnOk P w K mg base CX k f fd ps sp' :=
 ⟨fun vs H Q E q => F.len vs H Q E (h _ _ _ _ q), fun A outer s H args us vs Q E hr he hb hv hs => F.run A outer s H args us vs Q E hr he hb hv (h _ _ _ _ hs)⟩
section
variable {X : Cx} {pins : List (Addr × Obj)} {σ : St} {H : Hp} {s s' : Shared}
theorem Inv.env0 (I : Inv X pins σ H s) : Env0 X.prog X.w X.K X.mg X.base X.A X.stack s H :=
 ⟨I.ok.frames, I.ok.mod, I.bs, Nat.le_trans I.ok.bsz I.sz, I.stack, I.stkFree, I.hok, I.bare⟩
theorem Inv.after {Q : VK} {u : Value} (I : Inv X pins σ H s) (h : CE X.stack X.prog X.w H s Q u s') : EP X pins σ Q u s' := by
 obtain ⟨v, H', os, bare, un, hok, r, q⟩ := h
 obtain ⟨hh, g, d, t, os'⟩ := s'
 obtain rfl : os' = s.os := os
 exact ⟨v, H', I.call (h' := hh) (g' := g) (d' := d) (t' := t) (ch := []) un hok bare (fun b z => absurd z (by simp)), r, q⟩
end
def tCall (sp : Sp) (dvs : List V) (E : XK) (t : TA) : TE := fun σ H Q => t σ H fun vs H1 => sp (vs ++ dvs) H1 Q E
def Binds (K : PySem.W.Frag) (fd : FuncData) (ps : List Str) (ds : List Value) : Prop :=
 ∀ (s : Shared) (us : List Value), K.In s.heap → (us ++ ds).length = ps.length → BindsTo s fd ⟨us, []⟩ (ps.zip (us ++ ds))
theorem Binds.all {K : PySem.W.Frag} {fd : FuncData} {ps : List Str} (h : ∀ us : List Value, us.length = ps.length → bindArgs fd ⟨us, []⟩ = pure (ps.zip us)) : Binds K fd ps [] := fun s us _ hl => by
 rw [List.append_nil] at hl ⊢
 exact .of_eq (h us hl)
def Passes (CX : CXT) (X : Cx) (E : XK) : Prop := ∀ (pins : List (Addr × Obj)) (σ : St) (H : Hp) (s : Shared) (e : Value) (s' : Shared), Inv X pins σ H s → CX X.stack H s E e s' → X.xe e s'
section
variable {X : Cx} {CX : CXT} {k : Nat} {f C : Addr} {fd : FuncData} {ps : List Str} {sp : Sp} {dvs : List V} {ds : List Value} {E : XK} {x m : Str} {p pos apos : Pos} {e o : Expr} {es : List Expr} {ta : TE} {t : TA}
theorem run_fn {pins : List (Addr × Obj)} {σ : St} {H : Hp} {s : Shared} {Q : VK} {us : List Value} {vs : List V} (F : FnOk X.prog X.w X.K X.mg X.base CX k f fd ps sp) (hr : Room k X.A) (hb : Binds X.K fd ps ds) (hd : Vals dvs ds) (hx : Passes CX X E)
  (I : Inv X pins σ H s) (r : Vals vs us) (h : sp (vs ++ dvs) H Q E) : wpAny (model X.prog X.w) X.A (call (.ref f) us) (EP X pins σ Q) X.xe s := by
 have r2 : Vals (vs ++ dvs) (us ++ ds) := r.append hd
 have hl : (us ++ ds).length = ps.length := by rw [← r2.length]; exact F.len _ _ _ _ h
 refine wpAny_call (codeAny_mono (F.run X.A X.stack s H ⟨us, []⟩ (us ++ ds) (vs ++ dvs) Q E hr I.env0 (hb s us I.kIn hl) r2 h) fun r s' hq => ?_)
 cases r with
 | error e => exact hx pins σ H s e s' I hq
 | ok fl =>
  cases fl with
  | ret u => exact I.after hq
  | next => exact False.elim hq
  | brk => exact False.elim hq
  | cont => exact False.elim hq
theorem pe_call (F : FnOk X.prog X.w X.K X.mg X.base CX k f fd ps sp) (hr : Room k X.A) (hg : Gl X x) (hm : X.mg x = some (.ref f)) (hk : PySem.W.keepIn X.K (.ref f) = true) (hb : Binds X.K fd ps ds) (hd : Vals dvs ds) (hx : Passes CX X E)
  (ha : PA X (e :: es) t) (hdb : (x == ("__debug__" : Str)) = false := by decide) (he : starEach (e :: es) X.env = (false, eval e X.env) :: starEach es X.env := by rfl) (hpl : (backTo pos (starEach es X.env)).any (·.1) = false := by rfl) :
  PE X (.Call (.Name x p) (e :: es) [] pos) (tCall sp dvs E t) := by
 intro pins s σ H Q I h
 refine wpAny_Call_Name_kw (ld_glob I hg hm ?_ hdb)
 refine PySem.W.callWith_K (h₀ := X.base) I.ok.mod.kin hk (thn (ha pos pins s σ H _ I h) fun us s1 zz185 => el5 zz185 fun vs H1 I1 r q => ⟨I1.kIn, ?_⟩) he hpl
 exact run_fn F hr hb hd hx I1 r q
end
section
variable {X : Cx} {CX : CXT} {k : Nat} {f C : Addr} {fd : FuncData} {ps ks : List Str} {sp : Sp} {E : XK} {x m : Str} {p pos apos kpos : Pos} {e o : Expr} {es : List Expr} {kws : List Keyword} {te ta : TE} {t tk : TA} {nm : Option Str}
variable {g : List Value → List Value → List Value} {gV : List V → List V → List V}
end
structure FnScope (N P : List Str) (sc : Scope) : Prop where
 kind : sc.kind = .function
 co : sc.isCoroutine = false
 gen : sc.isGenerator = false
 nd : N.Nodup
 pre : N.take P.length = P
 par : ∀ x ∈ P, sc.names.lookup x = some .local ∨ sc.names.lookup x = some .cell
 nofree : ∀ y ∈ sc.names, y.2 ≠ .free
theorem bindL_out {kindOf : Str → Option NameKind} {x : Str} : ∀ {binds : List (Str × Value)} {m : Str → Option Value}, (∀ v, (x, v) ∉ binds) → bindL kindOf binds m x = m x
 | [], _, _ => rfl
 | (n, v) :: r, m, h => by
  unfold bindL
  rw [bindL_out fun w hw => h w (List.mem_cons_of_mem _ hw)]
  split
  ·have : x ≠ n := by rintro rfl; exact h v List.mem_cons_self
   simp [this]
  ·rfl
theorem bindC_out {kindOf : Str → Option NameKind} {x : Str} : ∀ {binds : List (Str × Value)} {m : Str → Option Value}, (∀ v, (x, v) ∉ binds) → bindC kindOf binds m x = m x
 | [], _, _ => rfl
 | (n, v) :: r, m, h => by
  unfold bindC
  rw [bindC_out fun w hw => h w (List.mem_cons_of_mem _ hw)]
  split
  ·rfl
  ·have : x ≠ n := by rintro rfl; exact h v List.mem_cons_self
   simp [this]
theorem bindL_get {kindOf : Str → Option NameKind} {x : Str} {v : Value} : ∀ {P : List Str} {vs : List Value} {i : Nat} {m : Str → Option Value}, P.Nodup → P[i]? = some x → vs[i]? = some v → kindOf x = some .local →
  bindL kindOf (P.zip vs) m x = some v
 | [], _, _, _, _, h, _, _ => by simp at h
 | _ :: _, [], _, _, _, _, h, _ => by simp at h
 | p :: P, w :: vs, 0, m, nd, h1, h2, hk => by
  simp at h1 h2; subst h1; subst h2
  show bindL kindOf ((p, w) :: P.zip vs) m p = _
  unfold bindL
  rw [bindL_out fun v hv => (List.nodup_cons.mp nd).1 (List.of_mem_zip hv).1, if_pos hk]
  simp
 | p :: P, w :: vs, i + 1, m, nd, h1, h2, hk => by
  show bindL kindOf ((p, w) :: P.zip vs) m x = _
  unfold bindL
  exact bindL_get (i := i) (List.nodup_cons.mp nd).2 (by simpa using h1) (by simpa using h2) hk
theorem bindC_get {kindOf : Str → Option NameKind} {x : Str} {v : Value} : ∀ {P : List Str} {vs : List Value} {i : Nat} {m : Str → Option Value}, P.Nodup → P[i]? = some x → vs[i]? = some v → kindOf x ≠ some .local →
  bindC kindOf (P.zip vs) m x = some v
 | [], _, _, _, _, h, _, _ => by simp at h
 | _ :: _, [], _, _, _, _, h, _ => by simp at h
 | p :: P, w :: vs, 0, m, nd, h1, h2, hk => by
  simp at h1 h2; subst h1; subst h2
  show bindC kindOf ((p, w) :: P.zip vs) m p = _
  unfold bindC
  rw [bindC_out fun v hv => (List.nodup_cons.mp nd).1 (List.of_mem_zip hv).1, if_neg hk]
  simp
 | p :: P, w :: vs, i + 1, m, nd, h1, h2, hk => by
  show bindC kindOf ((p, w) :: P.zip vs) m x = _
  unfold bindC
  exact bindC_get (i := i) (List.nodup_cons.mp nd).2 (by simpa using h1) (by simpa using h2) hk
def start (N : List Str) (vs : List V) : St := vs.map some ++ List.replicate (N.length - vs.length) none
def cxOf (CX : CXT) (P : Program) (w : World) (K : PySem.W.Frag) (mg : Str → Option Value) (base : Heap) (N : List Str) (qual : Str) (scope : Scope) (f : Addr) (cd : Value) (A : Around) (outer : List Env) (s : Shared) (H : Hp) (E : XK) : Cx where
 prog := P
 w := w
 K := K
 mg := mg
 base := base
 A := A.deeper (envOfC qual scope s.heap.objs.size f cd)
 N := N
 s₀ := s
 H₀ := H
 env := envOfC qual scope s.heap.objs.size f cd
 outer := outer
 stack := envOfC qual scope s.heap.objs.size f cd :: outer
 ex := []
 calm := true
 fn := fun _ => true
 pn := []
 xe := fun e s' => wpAny (model P w) (A.deeper (envOfC qual scope s.heap.objs.size f cd)) (leaving (envOfC qual scope s.heap.objs.size f cd) e) (fun _ s'' => CX outer H s E e s'') (fun e' s'' => CX outer H s E e' s'') s'
theorem cell_has {sc : Scope} {n : Nat} {x : Str} (h : sc.names.lookup x = some .cell) : ∃ c, (cellsFrom n sc.names []).lookup x = some c := by
 have q := PySem.W.cellsFrom_some sc.names n [] (.inl h)
 exact Option.isSome_iff_exists.mp q
theorem inv_start {CX : CXT} {P : Program} {w : World} {K : PySem.W.Frag} {mg : Str → Option Value} {base : Heap} {N ps : List Str} {qual : Str} {scope : Scope} {f : Addr} {cd : Value} {A : Around} {outer : List Env} {s s1 : Shared} {H : Hp} {E : XK} {us : List Value} {vs : List V}
  (S : FnScope N ps scope) (hd : A.handled = none) (e0 : Env0 P w K mg base A outer s H) (hl : vs.length = ps.length) (r : Vals vs us)
  (x : InCallC s s.heap.objs.size (bindL (envOfC qual scope s.heap.objs.size f cd).kindOf (ps.zip us) fun _ => none) (cellsFrom (s.heap.objs.size + 1) scope.names []) (bindC (envOfC qual scope s.heap.objs.size f cd).kindOf (ps.zip us) fun _ => none) s1) :
  Inv (cxOf CX P w K mg base N qual scope f cd A outer s H E) [] (start N vs) H s1 := by
 have hpl : ps.length ≤ N.length := by have := congrArg List.length S.pre; rw [List.length_take] at this; lia
 obtain ⟨h1, tk, rfl, hk⟩ := x.done
 have noA : ∀ b : Addr, b ∉ (cxOf CX P w K mg base N qual scope f cd A outer s H E).ex := fun b z => absurd (show b ∈ ([] : List Addr) from z) (by simp)
 refine ⟨⟨e0.mod, S.kind, rfl, rfl, Nat.le_refl _, fun y z c h1 h2 => ?_, fun y hy => ?_, fun y c _ h => ?_, fun _ => hd, Around.frames_deeper e0.frames, .inr ⟨rfl, rfl⟩, fun b z => absurd z (noA b), e0.bs, e0.bsz, fun b _ _ => noA b, fun b z => absurd z (noA b), e0.funs, e0.frf⟩,
  rfl, e0.bare, Un.kept hk, ⟨_, x.toInCall.ns, fun i y v h1 h2 h3 => ?_⟩, fun y c h => ⟨_, x.cell y c h⟩, e0.hok.fresh (Nat.le_refl _), fun y c h => ?_, fun p hp => absurd (show p ∈ ([] : List (Addr × Obj)) from hp) (by simp), e0.hok.kept hk, ?_⟩
 ·exact name_of_addr x.apart (PySem.mem_of_lookup h1) (PySem.mem_of_lookup h2)
 ·have hy : scope.names.lookup y = some .cell ∨ scope.names.lookup y = some .free := hy
  rcases hy with hy | hy
  ·exact cell_has hy
  ·exact absurd rfl (S.nofree _ (PySem.mem_of_lookup hy))
 ·exact Nat.le_of_lt (x.above y c (PySem.mem_of_lookup h))
 ·have hi : i < vs.length := by
   unfold start at h2
   by_cases hi : i < vs.length
   ·exact hi
   ·rw [List.getElem?_append_right (by simpa using hi)] at h2
    rw [List.getElem?_replicate] at h2
    split at h2 <;> cases h2
  have ha : vs[i]? = some v := by
   unfold start at h2
   rw [List.getElem?_append_left (by simpa using hi), List.getElem?_map] at h2
   cases e : vs[i]? with
   | none => rw [e] at h2; cases h2
   | some a => rw [e] at h2; cases h2; rfl
  obtain ⟨u, hu, rv⟩ := r.get ha
  have hp : ps[i]? = some y := by
   rw [← S.pre, List.getElem?_take_of_lt (by lia)]; exact h1
  have ndP : ps.Nodup := by rw [← S.pre]; exact S.nd.sublist (List.take_sublist _ _)
  refine ⟨u, rv, ?_⟩
  rcases S.par y (List.mem_of_getElem? hp) with k | k
  ·exact .inl ⟨k, bindL_get ndP hp hu k⟩
  ·obtain ⟨c, e⟩ := cell_has (n := s.heap.objs.size + 1) k
   refine .inr ⟨.inl k, c, e, ?_⟩
   have q := x.cell y c e
   rw [bindC_get ndP hp hu (by show scope.names.lookup y ≠ _; rw [k]; decide)] at q
   exact q
 ·exact e0.hok.fresh (Nat.le_of_lt (x.above y c (PySem.mem_of_lookup h)))
 ·unfold start
  show _ = N.length
  rw [List.length_append, List.length_map, List.length_replicate]
  lia
theorem fn_of {CX : CXT} {P : Program} {w : World} {K : PySem.W.Frag} {mg : Str → Option Value} {base : Heap} {k : Nat} {f : Addr} {name qual : Str} {params : Arguments} {body : List Stmt} {scope : Scope} {dV kV doc pm cdv ct oc : Value} {an od : Option Addr}
  {osl : Array (Option Value)} {N ps : List Str} {sp : Sp} (lk : K.lookup f = some ⟨oc, od, .func (PySem.W.fnOf name qual params body scope dV kV doc pm an cdv ct), osl⟩) (hcd : PySem.W.codeIn K cdv qual = true) (S : FnScope N ps scope)
  (len : ∀ vs H Q E, sp vs H Q E → vs.length = ps.length)
  (hbody : ∀ (A : Around) (outer : List Env) (s : Shared) (H : Hp) (vs : List V) (Q : VK) (E : XK), Room k (A.deeper (envOfC qual scope s.heap.objs.size f cdv)) → sp vs H Q E →
   ∃ t, PSs (cxOf CX P w K mg base N qual scope f cdv A outer s H E) body t ∧ t { nx := fun _ H' => Q .non H', rt := Q } (start N vs) H) :
  FnOk P w K mg base CX (k + 1) f (PySem.W.fnOf name qual params body scope dV kV doc pm an cdv ct) ps sp := by
 refine ⟨len, fun A outer s H args us vs Q E hr e0 hb r hsp => ?_⟩
 have hl := len _ _ _ _ hsp
 have KX : K.In s.heap := e0.mod.kin.keeps fun b o e => (e0.bs b o e).1
 have lim : s.heap.NoLimit := e0.mod.nolimit.keeps fun b o e => (e0.bs b o e).1
 have hkind : ∀ y ∈ ps.zip us, scope.names.lookup y.1 = some .local ∨ (scope.names.lookup y.1 = some .cell ∧ ((cellsFrom (s.heap.objs.size + 1) scope.names []).lookup y.1).isSome = true) := fun ⟨n, v⟩ hy => by
  rcases S.par n (List.of_mem_zip hy).1 with q | q
  ·exact .inl q
  ·exact .inr ⟨q, PySem.W.cellsFrom_some _ _ _ (.inl q)⟩
 refine codeAny_call_function hr.depth (KX _ _ lk) rfl S.co S.gen rfl (PySem.W.codeRec_of KX hcd) (hb _ _ _ _ ?_)
 refine wpAny_newFunctionEnv_cells S.kind hkind fun env he s1 x => ?_
 subst he
 refine ⟨lim.keeps x.toInCall.keep, codeAny_func ?_⟩
 obtain ⟨t, ht, hq⟩ := hbody A outer s H vs Q E (hr.deeper _) hsp
 have I : Inv (cxOf CX P w K mg base N qual scope f cdv A outer s H E) [] (start N vs) H s1 := inv_start S hr.hd e0 hl r x
 refine wpAny_mono (ht [] s1 (start N vs) H _ I hq) (fun fl s' hs => ?_) fun e s' hs => hs
 have fin : ∀ {σ' : St} {H' : Hp} {v : V} {u : Value}, Inv (cxOf CX P w K mg base N qual scope f cdv A outer s H E) [] σ' H' s' → RelV v u → Q v H' → CE outer P w H s Q u s' :=
  fun {σ' H' v u} J rv q => ⟨v, H', J.os, J.bare, J.base, J.hok, rv, q⟩
 cases fl with
 | ret u =>
  obtain ⟨v, σ', H', J, rv, q⟩ := hs
  exact fin J rv q
 | next =>
  obtain ⟨σ', H', J, q⟩ := hs
  exact fin (v := V.non) (u := Value.none) J rfl q
 | brk =>
  obtain ⟨_, _, _, q⟩ := hs
  exact False.elim q
 | cont =>
  obtain ⟨_, _, _, q⟩ := hs
  exact False.elim q
end L2
namespace L2
open PySem PySem.Spec PyProof.Rows
section
variable {X : Cx} {x : Str} {p pos : Pos} {e : Expr} {es : List Expr} {t : TA} {id T : String} {r : List V → Hp → VK → Prop}
def tCB (r : List V → Hp → VK → Prop) (t : TA) : TE := fun σ H Q => t σ H fun vs H1 => r vs H1 Q
theorem pe_callB (hc : CallR X (.builtin id) r) (hg : Gl X x) (hm : X.mg x = none) (hv : bootBuiltins x = some (.builtin id)) (ha : PA X (e :: es) t) (hn : x ≠ "__name__" := by decide) (hdb : (x == ("__debug__" : Str)) = false := by decide)
  (he : starEach (e :: es) X.env = (false, eval e X.env) :: starEach es X.env := by rfl) (hpl : (backTo pos (starEach es X.env)).any (·.1) = false := by rfl) : PE X (.Call (.Name x p) (e :: es) [] pos) (tCB r t) := by
 intro pins s σ H Q I h
 refine wpAny_Call_Name_kw (ld_blt I hg hm hv ?_ hn hdb)
 exact PyProof.Rows.callWith_builtin1 (thn (ha pos pins s σ H _ I h) fun us s1 zz213 => el5 zz213 fun vs H1 I1 r1 q1 => hc pins s1 σ H1 vs us Q I1 r1 q1) he hpl
theorem pe_callTy (hc : CallR X (.type T) r) (hg : Gl X x) (hm : X.mg x = none) (hv : bootBuiltins x = some (.type T)) (ha : PA X (e :: es) t) (hn : x ≠ "__name__" := by decide) (hdb : (x == ("__debug__" : Str)) = false := by decide)
  (he : starEach (e :: es) X.env = (false, eval e X.env) :: starEach es X.env := by rfl) (hpl : (backTo pos (starEach es X.env)).any (·.1) = false := by rfl) : PE X (.Call (.Name x p) (e :: es) [] pos) (tCB r t) := by
 intro pins s σ H Q I h
 refine wpAny_Call_Name_kw (ld_blt I hg hm hv ?_ hn hdb)
 exact PyProof.Rows.callWith_type1 (thn (ha pos pins s σ H _ I h) fun us s1 zz214 => el5 zz214 fun vs H1 I1 r1 q1 => hc pins s1 σ H1 vs us Q I1 r1 q1) he hpl
end
end L2
namespace HT
open PySem PyProof.Rows
section
open PySem.SeqAt
open PySem.AutoSeq1 (wpAny_loadPart')
open PySem.MeetsSeq PySem.MeetsSeq2 PySem.MeetsSeq3
end
section
variable {prog : Program} {w : World} {A : Around} {E : Value → Shared → Prop} {s : Shared}
def sIx (n d : Nat) : Option Int → Nat
 | none => d
 | some v => if v < 0 then (v + (n : Int)).toNat else min v.toNat n
end
end HT
namespace L2
open PySem PySem.Spec PyProof.Rows
abbrev TO := St → Hp → (Option Int → Hp → Prop) → Prop
def PO (X : Cx) (e : Option Expr) (t : TO) : Prop :=
 ∀ (pins : List (Addr × Obj)) (s : Shared) (σ : St) (H : Hp) (Q : Option Int → Hp → Prop), Inv X pins σ H s → t σ H Q →
  wpAny (model X.prog X.w) X.A (evalPart e X.env) (fun u s' => ∃ o H', Inv X pins σ H' s' ∧ IsPart u o ∧ Q o H') X.xe s
def tNoPart : TO := fun _ H Q => Q none H
def tPart (t : TE) : TO := fun σ H Q => t σ H fun x H1 => ∃ i, x = .int i ∧ Q (some i) H1
section
variable {X : Cx} {e : Expr} {te : TE} {lo hi : Option Expr} {tl th : TO} {pos p2 : Pos}
theorem po_none : PO X none tNoPart := by
 intro pins s σ H Q I h
 rw [evalPart_none]
 exact wpAny_pure ⟨none, H, I, .none, h⟩
theorem po_some (h : PE X e te) : PO X (some e) (tPart te) := by
 intro pins s σ H Q I hw
 rw [evalPart_some]
 refine thn (h pins s σ H _ I hw) fun u s1 zz215 => el5 zz215 fun x H1 I1 r1 q1 => ?_
 obtain ⟨i, rfl, q⟩ := q1
 obtain ⟨t, rfl⟩ := r1
 exact ⟨some i, H1, I1, .int i t, q⟩
def SlR (X : Cx) (r : V → Option Int → Option Int → Hp → VK → Prop) : Prop :=
 ∀ (pins : List (Addr × Obj)) (s : Shared) (σ : St) (H : Hp) (x : V) (v vl vu : Value) (lo hi : Option Int) (sl : Addr) (Q : VK), Inv X pins σ H s → RelV x v → s.heap.IsSliceOf sl vl vu .none → IsPart vl lo → IsPart vu hi → r x lo hi H Q →
  ∃ T id, typeLookup (.type T) "__getitem__" = pure (some (.builtin id)) ∧ s.TypeIs v T ∧ wpAny (model X.prog X.w) X.A (getItem v (.ref sl)) (EP X pins σ Q) X.xe s
def tSl (r : V → Option Int → Option Int → Hp → VK → Prop) (te : TE) (tl th : TO) : TE := fun σ H Q => te σ H fun x H1 => tl σ H1 fun l H2 => th σ H2 fun u H3 => r x l u H3 Q
theorem pe_slice {r : V → Option Int → Option Int → Hp → VK → Prop} (hr : SlR X r) (he : PE X e te) (hl : PO X lo tl) (hu : PO X hi th) : PE X (.Subscript e (.Slice lo hi none p2) pos) (tSl r te tl th) := by
 intro pins s σ H Q I h
 refine Subscript_ (thn (he pins s σ H _ I h) fun v s1 zz216 => el5 zz216 fun x H1 I1 r1 q1 => ?_)
 refine wpAny_Slice (thn (hl pins s1 σ H1 _ I1 q1) fun vl s2 zz217 => el5 zz217 fun l H2 I2 pl q2 => thn (hu pins s2 σ H2 _ I2 q2) fun vu s3 zz218 => el5 zz218 fun u H3 I3 pu q3 => ?_)
 rw [evalPart_none]
 refine wpAny_pure ?_
 have I4 : Inv X pins σ H3 { s3 with heap := s3.heap.push { cls := .type "slice", data := .fields #[vl, vu, .none] } } := I3.kept (t' := s3.toks) fun b ob q => Heap.get?_push_of_some _ q
 obtain ⟨T, id, hT, ht, hg⟩ := hr pins { s3 with heap := s3.heap.push { cls := .type "slice", data := .fields #[vl, vu, .none] } } σ H3 x v vl vu l u s3.heap.objs.size Q I4 r1 (Heap.IsSliceOf.new ..) pl pu q3
 show wpAny (model X.prog X.w) X.A (subscriptTail e (.Slice lo hi none p2) v (.ref s3.heap.objs.size)) (EP X pins σ Q) X.xe { s3 with heap := s3.heap.push { cls := .type "slice", data := .fields #[vl, vu, .none] } }
 exact tail_any (ops := [.ref s3.heap.objs.size, v]) ht hT hg (by with_unfolding_all rfl)
def cutV (xs : List V) (lo hi : Option Int) : List V := (xs.drop (HT.sIx xs.length 0 lo)).take (HT.sIx xs.length xs.length hi - HT.sIx xs.length 0 lo)
theorem cutV_length (xs : List V) (lo hi : Option Int) : (cutV xs lo hi).length ≤ xs.length := by
 unfold cutV
 rw [List.length_take, List.length_drop]
 lia
end
end L2
namespace L2
open PySem PySem.Spec PyProof.Rows
def ixN (n : Nat) (i : Int) : Option Nat := if 0 ≤ i then (if i < n then some i.toNat else none) else if -(n : Int) ≤ i then some (i + n).toNat else none
def atI {α : Type} (xs : List α) (i : Int) : Option α := (ixN xs.length i).bind fun j => xs[j]?
theorem ixN_seq {n : Nat} {i : Int} {j : Nat} (h : ixN n i = some j) : seqIndex? i n = some j ∧ j < n ∧ -(n : Int) ≤ i ∧ i < n := by
 unfold ixN at h
 by_cases h0 : 0 ≤ i
 ·rw [if_pos h0] at h
  by_cases h1 : i < n
  ·rw [if_pos h1] at h
   have e : i.toNat = j := Option.some.inj h
   exact ⟨by rw [seqIndex_of h0 h1, e], by lia, by lia, h1⟩
  ·rw [if_neg h1] at h; cases h
 ·rw [if_neg h0] at h
  by_cases h1 : -(n : Int) ≤ i
  ·rw [if_pos h1] at h
   have e : (i + n).toNat = j := Option.some.inj h
   exact ⟨by rw [seqIndex_neg (by lia) h1, e], by lia, h1, by lia⟩
  ·rw [if_neg h1] at h; cases h
theorem atI_get {α : Type} {xs : List α} {i : Int} {v : α} (h : atI xs i = some v) : ∃ j, seqIndex? i xs.length = some j ∧ xs[j]? = some v ∧ j < xs.length ∧ -(xs.length : Int) ≤ i ∧ i < xs.length := by
 unfold atI at h
 cases e : ixN xs.length i with
 | none => rw [e] at h; cases h
 | some j =>
  rw [e] at h
  obtain ⟨h1, h2, h3, h4⟩ := ixN_seq e
  exact ⟨j, h1, h, h2, h3, h4⟩
theorem atI_nat {α : Type} {xs : List α} {j : Nat} {v : α} (h : xs[j]? = some v) : atI xs (j : Int) = some v := by
 have hj : j < xs.length := (List.getElem?_eq_some_iff.mp h).1
 have e : ixN xs.length (j : Int) = some j := by
  unfold ixN
  rw [if_pos (by lia), if_pos (by lia)]; simp
 unfold atI; rw [e]; exact h
theorem atI_last {α : Type} (xs : List α) (v : α) : atI (xs ++ [v]) (-1) = some v := by
 have hl : (xs ++ [v]).length = xs.length + 1 := by simp
 have e : ixN (xs ++ [v]).length (-1) = some xs.length := by
  unfold ixN
  rw [hl, if_neg (by decide), if_pos (by lia)]
  congr 1
  lia
 unfold atI
 rw [e]
 show (xs ++ [v])[xs.length]? = some v
 simp
def PlainIx (b : Expr) : Prop := ∀ o i, subscripted b false o i = operate [o, i] (getItem o i)
def IxR (X : Cx) (r : R2) : Prop :=
 ∀ (value slice : Expr) (pins : List (Addr × Obj)) (s : Shared) (σ : St) (H : Hp) (x y : V) (v u : Value) (Q : VK), Inv X pins σ H s → RelV x v → RelV y u → r x y H Q →
  subscripted slice false v u = operate [v, u] (getItem v u) → wpAny (model X.prog X.w) X.A (subscriptTail value slice v u) (EP X pins σ Q) X.xe s
def MtR (X : Cx) (id : String) (r : V → List V → Hp → VK → Prop) : Prop :=
 ∀ (pins : List (Addr × Obj)) (s : Shared) (σ : St) (H : Hp) (x : V) (xs : List V) (v : Value) (us : List Value) (Q : VK), Inv X pins σ H s → RelV x v → Vals xs us → r x xs H Q →
  wpAny (model X.prog X.w) X.A (call (.builtin id) (v :: us)) (EP X pins σ Q) X.xe s
section
variable {X : Cx} {a b : Expr} {ta tb : TE} {pos : Pos}
theorem IxR.or {r r' : R2} (h : IxR X r) (h' : IxR X r') : IxR X (fun x y H Q => r x y H Q ∨ r' x y H Q) := by
 intro value slice pins s σ H x y v u Q I rx ry q hs
 rcases q with q | q
 ·exact h value slice pins s σ H x y v u Q I rx ry q hs
 ·exact h' value slice pins s σ H x y v u Q I rx ry q hs
theorem pe_ix {r : R2} (hr : IxR X r) (ha : PE X a ta) (hb : PE X b tb) (hs : PlainIx b) : PE X (.Subscript a b pos) (tOp r ta tb) := by
 intro pins s σ H Q I h
 exact Subscript_ (binT ha hb I h fun v u s2 x y H2 I2 rx ry q => hr a b pins s2 σ H2 x y v u Q I2 rx ry q (hs _ _))
def rIxL (K : PySem.W.Frag) : R2 := fun x y H Q => ∃ p xs i v, x = .ref p ∧ y = .int i ∧ SqL K H p xs ∧ atI xs i = some v ∧ Q v H
def rIxT (K : PySem.W.Frag) : R2 := fun x y H Q => ∃ p xs i v, x = .ref p ∧ y = .int i ∧ SqT K H p xs ∧ atI xs i = some v ∧ Q v H
def rIxS : R2 := fun x y H Q => ∃ z i c, x = .str z ∧ y = .int i ∧ z.length ≤ sizeLine ∧ atI z.cps.toList i = some c ∧ Q (.str ⟨#[c]⟩) H
theorem ix_list : IxR X (rIxL X.K) := by
 intro value slice pins s σ H x y v u Q I rx ry h hs
 obtain ⟨p, xs, i, z, rfl, rfl, hq, he, q⟩ := h
 cases rx
 obtain ⟨t, rfl⟩ := ry
 obtain ⟨its, r, pl, hz⟩ := I.list hq
 obtain ⟨j, h1, h2, h3, h4, h5⟩ := atI_get he
 obtain ⟨w, ew, rw'⟩ := r.get h2
 have hl := r.length
 have hn := line63
 have fin : EP X pins σ Q w s := ⟨z, H, I, rw', q⟩
 by_cases h0 : 0 ≤ i
 ·have hj : i.toNat = j := by
   rw [seqIndex_of h0 h5] at h1
   exact Option.some.inj h1
  exact item_listR pl.isList h0 (by lia) (by rw [hj]; simpa using ew) fin hs
 ·have hj : (i + (its.toArray.size : Int)).toNat = j := by
   rw [seqIndex_neg (by lia) h4] at h1
   rw [List.size_toArray, ← hl]
   exact Option.some.inj h1
  exact subscriptTail_builtinR (x := w) pl.isList.typeIs slot_list_getitem.lookup
   (wpAny_getItem_list_neg (Q := fun r s' => r = w ∧ EP X pins σ Q r s') pl.isList (by lia) (by rw [List.size_toArray] <;> lia) (by lia) (by rw [hj]; simpa using ew) ⟨rfl, fin⟩) hs
theorem ix_tup : IxR X (rIxT X.K) := by
 intro value slice pins s σ H x y v u Q I rx ry h hs
 obtain ⟨p, xs, i, z, rfl, rfl, hq, he, q⟩ := h
 cases rx
 obtain ⟨t, rfl⟩ := ry
 obtain ⟨its, r, pl, hz⟩ := I.tuple hq
 obtain ⟨j, h1, h2, h3, h4, h5⟩ := atI_get he
 obtain ⟨w, ew, rw'⟩ := r.get h2
 have hl := r.length
 have hn := line63
 have fin : EP X pins σ Q w s := ⟨z, H, I, rw', q⟩
 exact subscriptTail_builtinR (x := w) pl.typeIs slot_tuple_getitem.lookup
  (getItem_tuple (j := j) (Q := fun r s' => r = w ∧ EP X pins σ Q r s') pl (by lia) (by lia) (by rw [List.size_toArray, ← hl]; exact h1) (by simpa using ew) ⟨rfl, fin⟩) hs
theorem ix_str : IxR X rIxS := by
 intro value slice pins s σ H x y v u Q I rx ry h hs
 obtain ⟨z, i, c, rfl, rfl, hz, he, q⟩ := h
 obtain ⟨t, rfl⟩ := rx
 obtain ⟨t', rfl⟩ := ry
 obtain ⟨j, h1, h2, h3, h4, h5⟩ := atI_get he
 have hl : z.cps.toList.length = z.length := by simp [Str.length]
 rw [hl] at h1 h4 h5
 have hn := line63
 exact tail_any (typeIs_str s z t) slot_str_getitem.lookup (getItem_str (c := c) (by
  have e1 : decide (i < -(2 ^ 63 : Int)) = false := decide_eq_false (by lia)
  have e2 : decide (i ≥ 2 ^ 63) = false := decide_eq_false (by lia)
  rw [e1, e2, Bool.or_false]) (by rw [h1]; simpa using h2) ⟨.str ⟨#[c]⟩, H, I.tok _, ⟨_, rfl⟩, q⟩) hs
def rIx (K : PySem.W.Frag) : R2 := fun x y H Q => rIxL K x y H Q ∨ rIxT K x y H Q ∨ rIxS x y H Q
theorem ix_seq : IxR X (rIx X.K) := ix_list.or (ix_tup.or ix_str)
theorem mapSeq_set (its : List Value) (n j : Nat) (u : Value) : Obj.mapSeq (·.setIfInBounds j u) { cls := .type "list", data := .seq its.toArray n } = { cls := .type "list", data := .seq (its.set j u).toArray n } := by
 simp [Obj.mapSeq]
theorem Inv.lst {pins : List (Addr × Obj)} {σ : St} {H : Hp} {s : Shared} {p : Addr} {xs : List V} (I : Inv X pins σ H s) (h : H p = some (.lst xs)) :
  ∃ (its : List Value) (n : Nat), Vals xs its ∧ s.heap.get? p = some { cls := .type "list", data := .seq its.toArray n } ∧ xs.length ≤ sizeLine := by
 obtain ⟨z, its, n, r, e⟩ := I.hok p _ h
 exact ⟨its, n, r, e, z⟩
theorem Inv.lstUpd {pins : List (Addr × Obj)} {σ : St} {H : Hp} {s : Shared} {p : Addr} {xs ys : List V} {its its' : List Value} {n n' : Nat} {f : Obj → Obj} (I : Inv X pins σ H s) (h : H p = some (.lst xs))
  (ho : s.heap.get? p = some { cls := .type "list", data := .seq its.toArray n }) (hf : f { cls := .type "list", data := .seq its.toArray n } = { cls := .type "list", data := .seq its'.toArray n' }) (r : Vals ys its') (hz : ys.length ≤ sizeLine) (t : Nat) :
  Inv X pins σ (upd H p (.lst ys)) { s with heap := s.heap.update p f, toks := t } := by
 have e : (s.heap.update p f).get? p = some { cls := .type "list", data := .seq its'.toArray n' } := by
  rw [Heap.get?_update_self f ho (by rw [hf] <;> rfl), hf]
 refine I.write (x := p) (e := p) (by rw [h]; trivial) (.inl rfl) (fun b u hb q => (Heap.get?_update_other _ _ (Ne.symm hb)).trans q) ⟨_, e⟩ ?_
 exact ⟨hz, its', n', r, e⟩
def rSetL : V → V → V → Hp → (Hp → Prop) → Prop := fun o i v H Q => ∃ p xs k j, o = .ref p ∧ i = .int k ∧ H p = some (.lst xs) ∧ ixN xs.length k = some j ∧ Q (upd H p (.lst (xs.set j v)))
theorem set_list : PSet X rSetL := by
 intro pins s σ H o i v ov iv u Q I ro ri rv h
 obtain ⟨p, xs, k, j, rfl, rfl, hp, hj, q⟩ := h
 cases ro
 obtain ⟨t, rfl⟩ := ri
 obtain ⟨its, n, r, ho, hz⟩ := I.lst hp
 obtain ⟨h1, h2, h3, h4⟩ := ixN_seq hj
 have hl := r.length
 have hn := line63
 have I' : Inv X pins σ (upd H p (.lst (xs.set j v))) { s with heap := s.heap.update p (Obj.mapSeq (·.setIfInBounds j u)) } :=
  I.lstUpd hp ho (mapSeq_set its n j u) (r.set rv j) (by rw [List.length_set]; exact hz) s.toks
 by_cases h0 : 0 ≤ k
 ·have hk : k.toNat = j := by
   rw [seqIndex_of h0 h4] at h1
   exact Option.some.inj h1
  exact PySem.W.ki_setAt ho h0 (by lia) (by rw [List.size_toArray, ← hl]; exact h4) (by rw [hk]; exact ⟨_, I', q⟩)
 ·have hk : (k + (its.toArray.size : Int)).toNat = j := by
   rw [seqIndex_neg (by lia) h3] at h1
   rw [List.size_toArray, ← hl]
   exact Option.some.inj h1
  exact PySem.W.ki_setBack ho (by lia) (by rw [List.size_toArray, ← hl]; exact h3) (by lia) (by rw [hk]; exact ⟨_, I', q⟩)
theorem slice_bounds (lo hi : Option Int) (n : Nat) : (sliceBounds lo hi none n).1 = ((HT.sIx n 0 lo : Nat) : Int) ∧ (sliceBounds lo hi none n).2.1 = ((HT.sIx n n hi : Nat) : Int) ∧ (sliceBounds lo hi none n).2.2 = 1 := by
 refine ⟨?_, ?_, rfl⟩
 ·cases lo with
  | none => simp [sliceBounds, HT.sIx]
  | some i =>
   simp only [sliceBounds, HT.sIx, Option.getD_none, show (1 : Int) > 0 by decide, if_true]
   by_cases h : i < 0
   ·simp only [h, if_true] <;> lia
   ·simp only [h, if_false] <;> lia
 ·cases hi with
  | none => simp [sliceBounds, HT.sIx]
  | some i =>
   simp only [sliceBounds, HT.sIx, Option.getD_none, show (1 : Int) > 0 by decide, if_true]
   by_cases h : i < 0
   ·simp only [h, if_true] <;> lia
   ·simp only [h, if_false] <;> lia
theorem slicePick_cut (its : List Value) (lo hi : Option Int) : slicePick its.toArray lo hi none = ((its.drop (HT.sIx its.length 0 lo)).take (HT.sIx its.length its.length hi - HT.sIx its.length 0 lo)).toArray := by
 obtain ⟨h1, h2, h3⟩ := slice_bounds lo hi its.toArray.size
 unfold slicePick
 rw [h1, h2, h3]
 simp only [sliceRange_one, pick_run, List.size_toArray] <;> rfl
def rSlL (K : PySem.W.Frag) : V → Option Int → Option Int → Hp → VK → Prop := fun x lo hi H Q => ∃ a xs, x = .ref a ∧ SqL K H a xs ∧ ∀ p, H p = none → Q (.ref p) (upd H p (.lst (cutV xs lo hi)))
theorem sl_list : SlR X (rSlL X.K) := by
 intro pins s σ H x v vl vu lo hi sl Q I rx hs pl pu h
 obtain ⟨a, xs, rfl, hx, q⟩ := h
 cases rx
 obtain ⟨its, r, ht, hz⟩ := I.list hx
 have hlen := r.length
 refine ⟨"list", _, slot_list_getitem.lookup, ht.isList.typeIs, ?_⟩
 refine wpAny_getItem_list_slice ht.isList hs pl pu .none (by simp) ?_ (by rw [List.size_toArray] <;> lia)
 rw [slicePick_cut, ← hlen]
 refine ⟨.ref s.heap.objs.size, _, I.laid (t' := s.toks) (o := .lst (cutV xs lo hi)) (fun b ob q => Heap.get?_push_of_some _ q) (Nat.le_refl _) ?_, rfl, q _ (I.hok.fresh (Nat.le_refl _))⟩
 exact ⟨Nat.le_trans (cutV_length xs lo hi) hz, _, 0, (r.drop (HT.sIx xs.length 0 lo)).take (HT.sIx xs.length xs.length hi - HT.sIx xs.length 0 lo), Heap.get?_push_size _ rfl⟩
def flatV : V → Bool
 | .non => true
 | .bl _ => true
 | .int _ => true
 | .str _ => true
 | _ => false
def eqV : V → V → Bool
 | .non, .non => true
 | .bl a, .bl b => a == b
 | .bl a, .int b => (if a then 1 else 0) == b
 | .int a, .bl b => a == (if b then 1 else 0)
 | .int a, .int b => a == b
 | .str a, .str b => a == b
 | _, _ => false
theorem eqAt_V {A : Around} {s : Shared} {y x : V} {u v : Value} (ry : RelV y u) (rx : RelV x v) (fy : flatV y = true) (fx : flatV x = true) : SeqAt.EqAt A s u v (eqV y x) := by
 cases y with
 | non =>
  cases ry
  cases x with
  | non => cases rx; exact SeqAt.EqAt.same _
  | bl b => cases rx; exact SeqAt.EqAt.none_bool b
  | int b => obtain ⟨t, rfl⟩ := rx; exact SeqAt.EqAt.none_int b t
  | str b => obtain ⟨t, rfl⟩ := rx; exact SeqAt.EqAt.none_str b t
  | _ => exact absurd (show false = true from fx) Bool.false_ne_true
 | bl a =>
  cases ry
  cases x with
  | non => cases rx; exact SeqAt.EqAt.bool_none a
  | bl b => cases rx; exact SeqAt.EqAt.bool_bool a b
  | int b => obtain ⟨t, rfl⟩ := rx; exact SeqAt.EqAt.bool_int a b t
  | str b => obtain ⟨t, rfl⟩ := rx; exact SeqAt.EqAt.bool_str a b t
  | _ => exact absurd (show false = true from fx) Bool.false_ne_true
 | int a =>
  obtain ⟨t', rfl⟩ := ry
  cases x with
  | non => cases rx; exact SeqAt.EqAt.int_none a t'
  | bl b => cases rx; exact SeqAt.EqAt.int_bool a t' b
  | int b => obtain ⟨t, rfl⟩ := rx; exact SeqAt.EqAt.int_int a t' b t
  | str b => obtain ⟨t, rfl⟩ := rx; exact SeqAt.EqAt.int_str a t' b t
  | _ => exact absurd (show false = true from fx) Bool.false_ne_true
 | str a =>
  obtain ⟨t', rfl⟩ := ry
  cases x with
  | non => cases rx; exact SeqAt.EqAt.str_none a t'
  | bl b => cases rx; exact SeqAt.EqAt.str_bool a t' b
  | int b => obtain ⟨t, rfl⟩ := rx; exact SeqAt.EqAt.str_int a t' b t
  | str b => obtain ⟨t, rfl⟩ := rx; exact SeqAt.EqAt.str_str a t' b t
  | _ => exact absurd (show false = true from fx) Bool.false_ne_true
 | _ => exact absurd (show false = true from fy) Bool.false_ne_true
def eqU (x : V) (u : Value) : Bool := match u with
 | .none => eqV .non x
 | .bool b => eqV (.bl b) x
 | .int i _ => eqV (.int i) x
 | .str z _ => eqV (.str z) x
 | _ => false
theorem eqU_of {x y : V} {u : Value} (r : RelV y u) (f : flatV y = true) : eqU x u = eqV y x := by
 cases y with
 | non => cases r; rfl
 | bl b => cases r; rfl
 | int i => obtain ⟨t, rfl⟩ := r; rfl
 | str z => obtain ⟨t, rfl⟩ := r; rfl
 | _ => exact absurd (show false = true from f) Bool.false_ne_true
theorem any_eqU {x : V} : ∀ {xs : List V} {us : List Value}, Vals xs us → xs.all flatV = true → us.any (eqU x) = xs.any fun y => eqV y x
 | _, _, .nil, _ => rfl
 | y :: xs, u :: us, .cons r t, f => by
  rw [List.all_cons, Bool.and_eq_true] at f
  rw [List.any_cons, List.any_cons, eqU_of r f.1, any_eqU t f.2]
theorem mem_eqAt {A : Around} {s : Shared} {x : V} {v : Value} (rx : RelV x v) (fx : flatV x = true) : ∀ {xs : List V} {us : List Value}, Vals xs us → xs.all flatV = true → ∀ u ∈ us, SeqAt.EqAt A s u v (eqU x u)
 | _, _, .nil, _ => fun u hu => by cases hu
 | y :: xs, u :: us, .cons r t, f => fun u' hu => by
  rw [List.all_cons, Bool.and_eq_true] at f
  rcases List.mem_cons.mp hu with rfl | hu
  ·rw [eqU_of r f.1]; exact eqAt_V r rx f.1 fx
  ·exact mem_eqAt rx fx t f.2 u' hu
def inV (x : V) (xs : List V) : Bool := xs.any fun y => eqV y x
def rIn (K : PySem.W.Frag) (neg : Bool) : R2 := fun x y H Q => ∃ p xs, y = .ref p ∧ (SqL K H p xs ∨ SqT K H p xs) ∧ flatV x = true ∧ xs.all flatV = true ∧ Q (.bl (if neg then !inV x xs else inV x xs)) H
theorem op_notIn_seq : OpR X (compareOp .NotIn) (rIn X.K true) := by
 intro pins s σ H x y v u Q I rx ry h
 obtain ⟨p, xs, rfl, hq, fx, fs, q⟩ := h
 cases ry
 rcases hq with hq | hq
 ·obtain ⟨its, r, pl, hz⟩ := I.list hq
  refine SeqAt.notIn_listAt (eqU x) pl.isList (fun w hw => mem_eqAt rx fx r fs w (by simpa using hw)) ⟨.bl _, H, I, rfl, ?_⟩
  rw [show its.toArray.any (eqU x) = its.any (eqU x) by simp, any_eqU r fs]
  exact q
 ·obtain ⟨its, r, pl, hz⟩ := I.tuple hq
  refine SeqAt.notIn_tupleAt (eqU x) pl (fun w hw => mem_eqAt rx fx r fs w (by simpa using hw)) ⟨.bl _, H, I, rfl, ?_⟩
  rw [show its.toArray.any (eqU x) = its.any (eqU x) by simp, any_eqU r fs]
  exact q
theorem call_len_seq : CallR X (.builtin "len") (fun xs H Q => ∃ p ys, xs = [.ref p] ∧ (SqL X.K H p ys ∨ SqT X.K H p ys) ∧ Q (.int ys.length) H) := by
 intro pins s σ H xs us Q I r h
 obtain ⟨p, ys, rfl, hq, q⟩ := h
 obtain ⟨u, rfl, rx⟩ := vals1 r
 cases rx
 have hn := line63
 rcases hq with hq | hq
 ·obtain ⟨its, r', pl, hz⟩ := I.list hq
  have hlen := r'.length
  exact Calls.call_len_list pl.isList (by simp only [List.size_toArray] <;> lia) ⟨.int ys.length, H, I.tok _, ⟨s.toks + 1, by rw [List.size_toArray, hlen]⟩, q⟩
 ·obtain ⟨its, r', pl, hz⟩ := I.tuple hq
  have hlen := r'.length
  exact len_tuple pl (by simp only [List.size_toArray] <;> lia) ⟨.int ys.length, H, I.tok _, ⟨s.toks + 1, by rw [List.size_toArray, hlen]⟩, q⟩
theorem call_list_of : CallR X (.type "list") (fun xs H Q => ∃ p ys, xs = [.ref p] ∧ (SqL X.K H p ys ∨ SqT X.K H p ys) ∧ ∀ l, H l = none → Q (.ref l) (upd H l (.lst ys))) := by
 intro pins s σ H xs us Q I r h
 obtain ⟨p, ys, rfl, hq, q⟩ := h
 obtain ⟨u, rfl, rx⟩ := vals1 r
 cases rx
 have fin : ∀ (its : List Value), Vals ys its → ys.length ≤ sizeLine → ∀ (h' : Heap) (c' : Nat), (∀ b o', s.heap.get? b = some o' → h'.get? b = some o') →
   h'.get? s.heap.objs.size = some { cls := .type "list", dict := none, data := .seq its.toArray c', slots := #[] } → EP X pins σ Q (.ref s.heap.objs.size) { s with heap := h' } := fun its r' hz h' c' kp e =>
  ⟨.ref s.heap.objs.size, _, I.laid (t' := s.toks) kp (Nat.le_refl _) (show ObjOk X.prog X.w _ h' _ (.lst ys) from ⟨hz, its, c', r', e⟩), rfl, q _ (I.hok.fresh (Nat.le_refl _))⟩
 rcases hq with hq | hq
 ·obtain ⟨its, r', pl, hz⟩ := I.list hq
  have hlen := r'.length
  obtain ⟨o, ho, hc, n, hd⟩ := pl.isList
  exact call_list_seq p (.inl rfl) ho hc hd (fun h' c' kp e => fin its r' hz h' c' kp e) (by simp only [List.size_toArray] <;> lia)
 ·obtain ⟨its, r', pl, hz⟩ := I.tuple hq
  have hlen := r'.length
  obtain ⟨o, ho, hc, n, hd⟩ := pl
  exact call_list_seq p (.inr rfl) ho hc hd (fun h' c' kp e => fin its r' hz h' c' kp e) (by simp only [List.size_toArray] <;> lia)
def tyV (K : PySem.W.Frag) (T : String) (x : V) (H : Hp) : Prop := match x with
 | .str _ => T = "str"
 | .int _ => T = "int"
 | .ref p => (T = "list" ∧ ∃ xs, SqL K H p xs) ∨ (T = "tuple" ∧ ∃ o, K.lookup p = some o ∧ o.cls = .type "tuple" ∧ o.dict = none) ∨
   (T = "dict" ∧ ((∃ kvs, H p = some (.dK kvs)) ∨ ∃ kvs, H p = some (.dT kvs))) ∨ (T = "set" ∧ ∃ S n, H p = some (.set S n))
 | _ => False
theorem tyV_is {pins : List (Addr × Obj)} {σ : St} {H : Hp} {s : Shared} {T : String} {x : V} {v : Value} (I : Inv X pins σ H s) (r : RelV x v) (ty : tyV X.K T x H) :
  s.TypeIs v T ∧ ∀ a, v = .ref a → ∃ ob, s.heap.get? a = some ob ∧ ob.dict = none := by
 cases x with
 | str z =>
  obtain ⟨t, rfl⟩ := r
  cases (show T = "str" from ty)
  exact ⟨typeIs_str s z t, fun _ e => nomatch e⟩
 | int i =>
  obtain ⟨t, rfl⟩ := r
  cases (show T = "int" from ty)
  exact ⟨typeIs_int s i t, fun _ e => nomatch e⟩
 | ref p =>
  cases r
  rcases ty with ⟨rfl, xs, hq⟩ | ⟨rfl, o, hk, hc, hd⟩ | ⟨rfl, hk⟩ | ⟨rfl, S, n, hk⟩
  ·obtain ⟨its, _, pl, _⟩ := I.list hq
   refine ⟨pl.isList.typeIs, fun a e => ?_⟩
   cases e
   obtain ⟨o, n, e, c, hd, _⟩ := pl
   exact ⟨o, e, hd⟩
  ·refine ⟨⟨o, I.kIn p o hk, hc⟩, fun a e => ?_⟩
   cases e
   exact ⟨o, I.kIn _ o hk, hd⟩
  ·have z : ∃ o, s.heap.get? p = some o ∧ o.ExactDict := by
    rcases hk with ⟨kvs, hk⟩ | ⟨kvs, hk⟩
    ·obtain ⟨_, _, _, _, o, _, _, e, ex, _⟩ := I.hok p _ hk
     exact ⟨o, e, ex⟩
    ·obtain ⟨_, _, _, _, o, _, _, e, ex, _⟩ := I.hok p _ hk
     exact ⟨o, e, ex⟩
   obtain ⟨o, e, ex⟩ := z
   refine ⟨⟨o, e, ex.1⟩, fun a e2 => ?_⟩
   cases e2
   exact ⟨o, e, ex.2.1⟩
  ·obtain ⟨o, _, _, _, e, ex, _⟩ := I.hok p _ hk
   refine ⟨⟨o, e, ex.1⟩, fun a e2 => ?_⟩
   cases e2
   exact ⟨o, e, ex.2.1⟩
 | _ => exact False.elim ty
def tBM0 (K : PySem.W.Frag) (T : String) (r : V → List V → Hp → VK → Prop) (to : TE) : TE := fun σ H Q => to σ H fun x H1 => tyV K T x H1 ∧ r x [] H1 Q
def tBM (K : PySem.W.Frag) (T : String) (r : V → List V → Hp → VK → Prop) (to : TE) (t : TA) : TE := fun σ H Q => to σ H fun x H1 => tyV K T x H1 ∧ t σ H1 fun xs H2 => r x xs H2 Q
variable {o e : Expr} {es : List Expr} {to : TE} {t : TA} {name : Str} {apos cpos : Pos} {T id : String} {r : V → List V → Hp → VK → Prop}
theorem pe_bm0 (pa : PlainAttrs T) (slot : Slot T name id) (hty : typeOf (.builtin id) = pure (.type "method_descriptor")) (hm : MtR X id r) (ho : PE X o to)
  (hbase : attributeBase o name X.env (eval o X.env) = eval o X.env := by rfl) (hline : (apos.endLine == cpos.line) = true := by rfl) : PE X (.Call (.Attribute o name apos) [] [] cpos) (tBM0 X.K T r to) := by
 intro pins s σ H Q I h
 refine wpAny_Call_method0_late hbase hline (thn (ho pins s σ H _ I h) fun v s1 zz219 => zz219.elim fun x zz220 => zz220.elim fun H1 zz221 => zz221.elim fun I1 zz222 => zz222.elim fun r1 zz223 => zz223.elim fun ty q1 => ?_)
 obtain ⟨h1, h2⟩ := tyV_is I1 r1 ty
 exact ⟨T, id, pa, slot, hty, h1, h2, Calls.callWith_builtin rfl (PySem.evalArgs_none (hm pins s1 σ H1 x [] v [] Q I1 r1 .nil q1))⟩
theorem pe_bm (pa : PlainAttrs T) (slot : Slot T name id) (hty : typeOf (.builtin id) = pure (.type "method_descriptor")) (hm : MtR X id r) (ho : PE X o to) (ha : PA X (e :: es) t)
  (hbase : attributeBase o name X.env (eval o X.env) = eval o X.env := by rfl)
  (hfew : ((backTo cpos (starEach (e :: es) X.env)).all (fun x => !x.1) && (backToKw cpos (keywordEach [] X.env)).all (fun x => x.1.isSome)
   && decide ((e :: es).length + ([] : List Keyword).length + (if ([] : List Keyword).isEmpty then 0 else 1) < 30)) = true := by rfl)
  (hline : (apos.endLine == cpos.line) = true := by rfl) (hs : starEach (e :: es) X.env = (false, eval e X.env) :: starEach es X.env := by rfl) (hplain : (backTo cpos (starEach es X.env)).any (·.1) = false := by rfl) :
  PE X (.Call (.Attribute o name apos) (e :: es) [] cpos) (tBM X.K T r to t) := by
 intro pins s σ H Q I h
 refine wpAny_Call_method_late hbase hfew hline rfl (thn (ho pins s σ H _ I h) fun v s1 zz224 => zz224.elim fun x zz225 => zz225.elim fun H1 zz226 => zz226.elim fun I1 zz227 => zz227.elim fun r1 zz228 => zz228.elim fun ty q1 => ?_)
 obtain ⟨h1, h2⟩ := tyV_is I1 r1 ty
 refine ⟨T, id, pa, slot, hty, h1, h2, ?_⟩
 have hA := ha cpos pins s1 σ H1 _ I1 q1
 rw [hs] at hA ⊢
 refine Calls.callWith_builtin (by show (false || (backTo cpos (starEach es X.env)).any (·.1)) = false; rw [hplain] <;> rfl) (Calls.evalArgs_plain ?_)
 exact thn hA fun us s2 zz229 => el5 zz229 fun vs H2 I2 r2 q2 => hm pins s2 σ H2 x vs v us Q I2 r1 r2 q2
end
end L2
namespace L2
open PySem PySem.Spec PyProof.Rows
def MtM (X : Cx) (id : String) (r : V → List V → Hp → VK → Prop) : Prop :=
 ∀ (pins : List (Addr × Obj)) (s : Shared) (σ : St) (H : Hp) (x : V) (xs : List V) (v : Value) (us : List Value) (Q : VK), Inv X pins σ H s → RelV x v → Vals xs us → r x xs H Q →
  wpAny (model X.prog X.w) X.A (call (.builtin id) (v :: us)) (EP X pins σ Q) X.xe s
theorem Vals.one {x : V} {us : List Value} (h : Vals [x] us) : ∃ u, us = [u] ∧ RelV x u := by
 cases h with
 | cons r t => cases t; exact ⟨_, rfl, r⟩
theorem Vals.two {x y : V} {us : List Value} (h : Vals [x, y] us) : ∃ u v, us = [u, v] ∧ RelV x u ∧ RelV y v := by
 cases h with
 | cons r t =>
  obtain ⟨v, rfl, q⟩ := Vals.one t
  exact ⟨_, _, rfl, r, q⟩
theorem Vals.zero : ∀ {us : List Value}, Vals [] us → us = []
 | _, .nil => rfl
theorem Vals.rep {xs : List V} {us : List Value} (h : Vals xs us) : ∀ k : Nat, Vals (List.replicate k xs).flatten (List.replicate k us).flatten
 | 0 => .nil
 | k + 1 => by
  rw [List.replicate_succ, List.replicate_succ, List.flatten_cons, List.flatten_cons]
  exact Vals.append h (Vals.rep h k)
theorem foldl_rep (its : List Value) : ∀ (k : Nat) (acc : List Value),
  List.foldl (fun x1 x2 => x1 ++ x2) acc.toArray (List.replicate k its.toArray) = (acc ++ (List.replicate k its).flatten).toArray
 | 0, acc => by simp
 | k + 1, acc => by
  have e : acc.toArray ++ its.toArray = (acc ++ its).toArray := by simp
  have e2 : (acc ++ its) ++ (List.replicate k its).flatten = acc ++ (List.replicate (k + 1) its).flatten := by
   rw [List.replicate_succ, List.flatten_cons, List.append_assoc]
  rw [← e2, ← foldl_rep its k (acc ++ its), ← e, List.replicate_succ, List.foldl_cons]
section
variable {X : Cx} {pins : List (Addr × Obj)} {σ : St} {H : Hp} {s : Shared} {l b : Addr} {xs ys zs : List V}
theorem Inv.lset {its its' : List Value} {n : Nat} {f : Array Value → Array Value} {t' : Nat} (I : Inv X pins σ H s) (hH : H l = some (.lst xs))
  (e : s.heap.get? l = some { cls := .type "list", data := .seq its.toArray n }) (hf : f its.toArray = its'.toArray) (hv : Vals ys its') (hz : ys.length ≤ sizeLine) :
  Inv X pins σ (upd H l (.lst ys)) { s with heap := s.heap.update l (Obj.mapSeq f), toks := t' } := by
 have q := PySem.IsL.update e f
 rw [hf] at q
 refine I.write (x := l) (e := l) (by rw [hH]; exact trivial) (.inl rfl) (fun b' u hb hu => (Heap.get?_update_other s.heap (Obj.mapSeq f) (Ne.symm hb)).trans hu) ⟨_, q⟩ ?_
 exact ⟨hz, its', _, hv, q⟩
theorem Inv.lnew {its : List Value} {t' : Nat} (I : Inv X pins σ H s) (hv : Vals ys its) (hz : ys.length ≤ sizeLine) :
  Inv X pins σ (upd H s.heap.objs.size (.lst ys)) { s with heap := s.heap.push { cls := .type "list", data := .seq its.toArray }, toks := t' } :=
 I.laid (fun _ _ q => Heap.get?_push_of_some _ q) (Nat.le_refl _) ⟨hz, its, 0, hv, Heap.get?_push_size _ rfl⟩
theorem Inv.fresh (I : Inv X pins σ H s) : H s.heap.objs.size = none := I.hok.fresh (Nat.le_refl _)
theorem Inv.lstM (I : Inv X pins σ H s) (hH : H l = some (.lst xs)) : xs.length ≤ sizeLine ∧ ∃ (its : List Value) (n : Nat), Vals xs its ∧ xs.length = its.length ∧ s.heap.get? l = some { cls := .type "list", data := .seq its.toArray n } := by
 obtain ⟨z, its, n, r, e⟩ := I.hok l _ hH
 exact ⟨z, its, n, r, r.length, e⟩
theorem notLongL {n : Nat} (h : n ≤ sizeLine) : Builtin.List.listTooLong n = false := by
 unfold Builtin.List.listTooLong
 exact decide_eq_false (by lia)
end
section
variable {X : Cx}
def rAppend : V → List V → Hp → VK → Prop := fun x vs H Q => ∃ l xs y, x = .ref l ∧ vs = [y] ∧ H l = some (.lst xs) ∧ xs.length < sizeLine ∧ Q .non (upd H l (.lst (xs ++ [y])))
theorem mt_append : MtM X "list.append" rAppend := by
 intro pins s σ H x vs v us Q I rx rv h
 obtain ⟨l, xs, y, rfl, rfl, hH, hz, q⟩ := h
 cases rx
 obtain ⟨u, rfl, ru⟩ := rv.one
 obtain ⟨z, its, n, r, hl, e⟩ := I.lstM hH
 refine call_meets F.slot_list_append ⟨_, e, rfl⟩ F.entry_list_append (F.args_list_append_2 _ _) (PySem.list_append l its.toArray n u (by rw [List.size_toArray]; lia)) ⟨e, ?_⟩
 refine ⟨.non, _, I.lset (its' := its ++ [u]) hH e (by simp) (r.append (.cons ru .nil)) ?_, rfl, q⟩
 rw [List.length_append, List.length_singleton]
 lia
def rExtend : V → List V → Hp → VK → Prop := fun x vs H Q => ∃ l b xs zs, x = .ref l ∧ vs = [.ref b] ∧ H l = some (.lst xs) ∧ H b = some (.lst zs) ∧ xs.length + zs.length ≤ sizeLine ∧ Q .non (upd H l (.lst (xs ++ zs)))
theorem mt_extend : MtM X "list.extend" rExtend := by
 intro pins s σ H x vs v us Q I rx rv h
 obtain ⟨l, b, xs, zs, rfl, rfl, hH, hB, hz, q⟩ := h
 cases rx
 obtain ⟨u, rfl, ru⟩ := rv.one
 cases ru
 obtain ⟨z, its, n, r, hl, e⟩ := I.lstM hH
 obtain ⟨z2, its2, n2, r2, hl2, e2⟩ := I.lstM hB
 have hsz : its.toArray.size + its2.toArray.size ≤ sizeLine := by rw [List.size_toArray, List.size_toArray]; lia
 have hlong : ¬ (!its.toArray.isEmpty && Builtin.List.listTooLong (its.toArray.size + its2.toArray.size)) = true := by
  rw [notLongL hsz, Bool.and_false]
  exact Bool.false_ne_true
 refine call_meets F.slot_list_extend ⟨_, e, rfl⟩ F.entry_list_extend (F.args_list_extend_2 _ _)
  (AutoSeq1.list_extend_list_list_0 l its.toArray n b its2.toArray n2 hlong (by rw [List.size_toArray]; lia) (by lia)) ⟨e, e2, ?_⟩
 refine ⟨.non, _, I.lset (its' := its ++ its2) hH e (by simp) (r.append r2) ?_, rfl, q⟩
 rw [List.length_append]
 lia
def rClear : V → List V → Hp → VK → Prop := fun x vs H Q => ∃ l xs, x = .ref l ∧ vs = [] ∧ H l = some (.lst xs) ∧ Q .non (upd H l (.lst []))
theorem mt_clear : MtM X "list.clear" rClear := by
 intro pins s σ H x vs v us Q I rx rv h
 obtain ⟨l, xs, rfl, rfl, hH, q⟩ := h
 cases rx
 have hus := rv.zero
 subst hus
 obtain ⟨z, its, n, r, hl, e⟩ := I.lstM hH
 refine call_meets F.slot_list_clear ⟨_, e, rfl⟩ F.entry_list_clear (F.args_list_clear_1 _) (AutoSeq1.list_clear_list_0 l its.toArray n (by rw [List.size_toArray]; lia)) ⟨e, ?_⟩
 exact ⟨.non, _, I.lset (its' := []) (ys := []) hH e rfl .nil (Nat.zero_le _), rfl, q⟩
def rCat : R2 := fun x y H Q => ∃ l b xs zs, x = .ref l ∧ y = .ref b ∧ H l = some (.lst xs) ∧ H b = some (.lst zs) ∧ xs.length + zs.length ≤ sizeLine ∧ ∀ p, H p = none → Q (.ref p) (upd H p (.lst (xs ++ zs)))
theorem op_cat : OpR X (binaryOp .Add) rCat := by
 intro pins s σ H x y v u Q I rx ry h
 obtain ⟨l, b, xs, zs, rfl, rfl, hH, hB, hz, q⟩ := h
 cases rx
 cases ry
 obtain ⟨z, its, n, r, hl, e⟩ := I.lstM hH
 obtain ⟨z2, its2, n2, r2, hl2, e2⟩ := I.lstM hB
 refine PySem.P.add_list e e2 ?_ (by rw [List.size_toArray, List.size_toArray]; lia)
 have ea : its.toArray ++ its2.toArray = (its ++ its2).toArray := by simp
 rw [ea]
 exact ⟨.ref _, _, I.lnew (t' := s.toks) (r.append r2) (by rw [List.length_append]; lia), rfl, q _ I.fresh⟩
def rRep : R2 := fun x y H Q => ∃ l k xs, x = .ref l ∧ y = .int k ∧ H l = some (.lst xs) ∧ -(2 ^ 63) ≤ k ∧ k < 2 ^ 63 ∧ xs.length * k.toNat ≤ sizeLine ∧
 ∀ p, H p = none → Q (.ref p) (upd H p (.lst (List.replicate k.toNat xs).flatten))
theorem len_rep {α : Type} (xs : List α) (k : Nat) : (List.replicate k xs).flatten.length = k * xs.length := by
 induction k with
 | zero => simp
 | succ k ih => rw [List.replicate_succ, List.flatten_cons, List.length_append, ih, Nat.succ_mul, Nat.add_comm]
theorem op_rep : OpR X (binaryOp .Mult) rRep := by
 intro pins s σ H x y v u Q I rx ry h
 obtain ⟨l, k, xs, rfl, rfl, hH, h1, h2, hz, q⟩ := h
 cases rx
 obtain ⟨t, rfl⟩ := ry
 obtain ⟨z, its, n, r, hl, e⟩ := I.lstM hH
 have hlen : its.toArray.size * k.toNat ≤ sizeLine := by rw [List.size_toArray, ← hl]; exact hz
 have hcap : ¬ its.toArray.size * k.toNat > (2 ^ 63 - 1) / 8 := by
  have : (sizeLine : Nat) ≤ (2 ^ 63 - 1) / 8 := by decide
  lia
 have hfit : ¬ (!Builtin.List.listFitsIndex k) = true := by
  rw [fitsIndex_both h1 h2]
  exact Bool.false_ne_true
 have hlong : ¬ Builtin.List.listTooLong (its.toArray.size * k.toNat) = true := by
  rw [notLongL hlen]
  exact Bool.false_ne_true
 have hnew : List.foldl (fun x1 x2 => x1 ++ x2) #[] (List.replicate (if its.toArray.isEmpty = true then 0 else k.toNat) its.toArray) = (List.replicate k.toNat its).flatten.toArray := by
  have f0 : ∀ m : Nat, List.foldl (fun x1 x2 => x1 ++ x2) #[] (List.replicate m its.toArray) = (List.replicate m its).flatten.toArray := fun m => by
   have := foldl_rep its m []
   rw [List.nil_append] at this
   exact this
  rw [f0]
  cases its with
  | nil => simp
  | cons a r' => rw [if_neg (by simp)]
 refine wpAny_binaryOp_repeat_ref (T := "list") (U := "int") (by decide) ⟨_, e, rfl⟩ (fun s' => typeIs_int s' k t) noFill_list_mul F.fills_int_mul F.slot_int_rmul repeat_list F.slot_int_index.lookup
  (call_meets F.slot_int_rmul (typeIs_int s k t) F.entry_int_rmul (F.args_int_rmul_2 _ _) (int___rmul___int_list k t l its.toArray n)
   ⟨e, rfl, ⟨_, e, rfl⟩, call_meets F.slot_list_mul ⟨_, e, rfl⟩ F.entry_list_mul (F.args_list_mul_2 _ _) (AutoListH.list___mul___list_int_3 l its.toArray n k t hfit hcap hlong) ⟨e, ?_⟩⟩)
 rw [hnew]
 exact ⟨.ref _, _, I.lnew (t' := s.toks) (r.rep k.toNat) (by rw [len_rep, Nat.mul_comm]; exact hz), rfl, q _ I.fresh⟩
end
section
variable {prog : Program} {w : World} {A : Around} {E : Value → Shared → Prop} {s : Shared}
set_option maxRecDepth 100000 in
end
section
variable {X : Cx}
end
end L2
namespace Att
open PySem PySem.W PySem.Calls PyProof.Rows
theorem ints_of_wellAll {P : Params} {h : Heap} : ∀ (ns : List Int) (vs : List Value), WellAll P h vs (ns.map WData.int) → IntsAre vs ns := by
 intro ns
 induction ns with
 | nil =>
  intro vs w
  rw [List.map_nil] at w
  cases w
  exact .nil
 | cons n ns ih =>
  intro vs w
  rw [List.map_cons] at w
  cases w with
  | cons a b =>
   cases a
   exact .cons _ _ (ih _ b)
theorem script_of {l : OpenLaw} {n : Nat} (hn : l.most = some n) {P : Params} {h : Heap} {args : List WData} {vals : List Value}
  (hpre : l.row.toRowW.claim.pre args = true) (hwl : WellAll P h vals args) :
  ∃ a vs ns, vals = [Value.ref a] ∧ args = [WData.list (ns.map WData.int)] ∧ h.get? a = some { cls := .type "list", data := .seq vs.toArray } ∧ IntsAre vs ns ∧ ns.length ≤ n := by
 have hsh : WShape.hasAll [] args [.list .int] = true := (pre_splitW hpre).1
 have hc : l.pre.holds [] { args := args } = true := (pre_splitW hpre).2
 obtain ⟨d, r, rfl, h1, h2⟩ := hasAllW_cons hsh
 obtain rfl := hasAllW_nil h2
 obtain ⟨xs, rfl, h3⟩ := hasW_list h1
 obtain ⟨ns, rfl⟩ := items_int h3
 have hlen : ns.length ≤ n := by
  unfold OpenLaw.pre at hc
  have h4 : (WTm.not (.lt (.lit (.int (n : Int))) (.len (.arg 0)))).holds [] { args := [.list (ns.map .int)] } = true := by
   have h4 := (holds_andW hc).1
   rw [hn] at h4
   exact h4
  have h5 := condW_of h4 (w_not (w_lt w_lit (w_len_list (w_arg rfl))))
  rw [List.length_map] at h5
  refine Nat.le_of_not_lt fun q => ?_
  have q' : (n : Int) < ((ns.length : Nat) : Int) := by lia
  first
   | (rw [decide_eq_true q'] at h5; exact absurd h5 (by decide))
   | (simp at h5; lia)
 cases hwl with
 | cons w1 w2 =>
  cases w2
  cases w1 with
  | list ho hall => exact ⟨_, _, ns, rfl, rfl, ho, ints_of_wellAll ns _ hall, hlen⟩
theorem post_true (l : OpenLaw) (args : List WData) : l.row.toRowW.claim.post args (.bool true) args = true :=
 postW_of (r := l.row.toRowW) (X := (true == true))
  (show WShape.has [] (.bool true) .bool = true by first | rfl | decide | simp [WShape.has, WShape.arms, WShape.armsAll])
  (show (WTm.eq .res (.lit (.bool true))).value [] { args := args, res := some (.bool true), after := args } = some (.bool (true == true)) from w_eq_bool (w_res rfl) w_lit) rfl
theorem attach_call {l : OpenLaw} {n : Nat} {q : Program} {loose : List Str} {XP : (Str → Option Value) → Heap → Prop} {YP : World → Heap → Prop} {d : DefRec}
  (hn : l.most = some n) (hdf : d.params.defaults = [])
  (call : ∀ (w : World) (s₀ s₁ : Shared) (mg mb : Str → Option Value) (fa : Addr) (o : Obj) (pm cd doc : Value) (a : Addr) (vs : List Value) (ns : List Int),
   Ground q loose [] XP w s₀ mg mb s₁.heap → YP w s₁.heap →
   s₁.heap.get? fa = some o → o.data = .func (docDef d.name d.params d.body d.scope pm cd doc) → s₁.heap.CodeRec cd d.name → mg d.name = some (.ref fa) →
   s₁.heap.get? a = some { cls := .type "list", data := .seq vs.toArray } → IntsAre vs ns → ns.length ≤ n → s₁.gens = #[] →
   codeAny (model l.prog w) callerA (.call (.ref fa) ⟨[.ref a], []⟩) (fun r s' => r = .ok (.ret (.bool true)) ∧ OldK s₁.heap s'.heap ∧ s'.os = s₁.os ∧ AllBare s'.gens) s₁) :
  WalkO q loose XP YP l.row.toRowW d [] (fun f vs => PySem.call f vs) := by
 intro w s₀ s₁ mg mb G Y fa o pm cd doc dV kV ho hd hcd hD hmg hg args vals as hpre hlay hrd hwl hlo
 obtain rfl : dV = .none := Dflts.none hD hdf
 obtain rfl : kV = .none := Dflts.noKw hD
 obtain ⟨a, vs, ns, rfl, rfl, hobj, hints, hlen⟩ := script_of hn hpre hwl
 refine enter_call (codeAny_mono (call w s₀ s₁ mg mb fa o pm cd doc a vs ns G Y ho (fd_plain hd) hcd hmg hobj hints hlen hg) fun r s' hq => ?_)
 obtain ⟨rfl, h2, h3, h4⟩ := hq
 exact ⟨.inl ⟨.bool true, .bool true, [], rfl, fun _ => rfl, .bool true, post_true l _, fun _ => ⟨List.Pairwise.nil, fun _ hm => (nomatch hm)⟩⟩, h2, h3, h4⟩
section
variable {prog : Program} {w : World} {A : Around} {E : Value → Shared → Prop} {s : Shared} {K : Frag}
def ledger (h : Heap) (L d : Addr) : List (Addr × Obj) := (List.range h.objs.size).filterMap fun a => if a = L ∨ a = d then none else (h.get? a).map fun o => (a, o)
end
end Att
namespace L2
open PySem PySem.Spec PyProof.Rows
theorem vals_ints : ∀ {vs : List Value} {ns : List Int}, IntsAre vs ns → Vals (ns.map V.int) vs
 | _, _, .nil => .nil
 | _, _, .cons n t h => .cons ⟨t, rfl⟩ (vals_ints h)
def Only (H : Hp) : Prop := ∀ b, H b = none ∨ ∃ o xs, H b = some (.frz o (.lst xs))
theorem law_call {P : Program} {w : World} {K : PySem.W.Frag} {mg mb : Str → Option Value} {CX : CXT} {k : Nat} {fa a : Addr} {fd : FuncData} {x : Str} {sp : Sp} {s₁ : Shared} {vs : List Value} {ns : List Int}
  (KX : K.In s₁.heap) (hns : s₁.heap.Ns mainGlobals mg) (hb : s₁.heap.Ns builtinsNs mb) (hbb : ∀ x : Str, x ≠ "__name__" → mb x = bootBuiltins x) (hlim : s₁.heap.NoLimit) (hg : s₁.gens = #[])
  (ha : s₁.heap.get? a = some { cls := .type "list", data := .seq vs.toArray }) (hi : IntsAre vs ns) (hl : ns.length ≤ sizeLine) (hr : Room k callerA)
  (F : ∀ base : Heap, K.In base → base.Ns mainGlobals mg → FnOk P w K mg base CX k fa fd [x] sp) (hbind : ∀ (s : Shared) (u : Value), BindsTo s fd ⟨[u], []⟩ [(x, u)])
  (hsp : ∀ H : Hp, Only H → SqL K H a (ns.map V.int) → sp [.ref a] H (fun v _ => v = .bl true) fun _ _ _ => False)
  (hCX : ∀ H e s', CX [] H s₁ (fun _ _ _ => False) e s' → False) :
  codeAny (model P w) callerA (.call (.ref fa) ⟨[.ref a], []⟩) (fun r s' => r = .ok (.ret (.bool true)) ∧ OldK s₁.heap s'.heap ∧ s'.os = s₁.os ∧ AllBare s'.gens) s₁ := by
 have rv := vals_ints hi
 have lenV := hi.length
 have core : ∀ H : Hp, Only H → SqL K H a (ns.map V.int) → HOk P w H s₁.heap → (∀ b, H b ≠ none → b = a) → (H a ≠ none → K.lookup a = none) →
   codeAny (model P w) callerA (.call (.ref fa) ⟨[.ref a], []⟩) (fun r s' => r = .ok (.ret (.bool true)) ∧ OldK s₁.heap s'.heap ∧ s'.os = s₁.os ∧ AllBare s'.gens) s₁ := by
  intro H hO hS hok hA hK
  have base_of : ∀ {b : Addr} {o : Obj}, s₁.heap.get? b = some o → H b = none → (hidT s₁.heap H).get? b = some o := fun e n => hidT_get e n
  have noA : ∀ {b : Addr} {o : Obj} {es : Array DictEntry} {ep : Nat}, s₁.heap.get? b = some o → o.data = .dict es ep → H b = none := fun {b o es ep} e d => by
   cases q : H b with
   | none => rfl
   | some u =>
    have e' : b = a := hA b (by rw [q]; simp)
    subst e'
    rw [ha] at e; cases e
    have d' : Data.seq vs.toArray _ = Data.dict es ep := d
    cases d'
  have nsK : ∀ {b : Addr} {m : Str → Option Value}, s₁.heap.Ns b m → (hidT s₁.heap H).Ns b m := fun {b m} ⟨o, es, ep, e, d, r⟩ => ⟨o, es, ep, base_of e (noA e d), d, r⟩
  have hKb : K.In (hidT s₁.heap H) := fun b o e => base_of (KX b o e) (by
   cases q : H b with
   | none => rfl
   | some u =>
    have e' : b = a := hA b (by rw [q]; simp)
    subst e'
    rw [hK (by rw [q]; simp)] at e; cases e)
  have hM : Mod K mg (hidT s₁.heap H) := ⟨hKb, nsK hns, ⟨mb, nsK hb, hbb⟩, let ⟨mc, h1, h2⟩ := hlim; ⟨mc, nsK h1, h2⟩⟩
  have e0 : Env0 P w K mg (hidT s₁.heap H) callerA [] s₁ H := ⟨rfl, hM, fun b o e => of_hidT e, Nat.le_of_eq (hidT_size _ _), trivial, fun b hb => absurd (show b ∈ ([] : List Addr) from hb) (by simp), hok, .of_eq hg⟩
  refine codeAny_mono ((F _ hKb (nsK hns)).run callerA [] s₁ H ⟨[.ref a], []⟩ [.ref a] [.ref a] _ _ hr e0 (hbind s₁ (.ref a)) (.cons rfl .nil) (hsp H hO hS)) fun r s' h => ?_
  cases r with
  | error e => exact (hCX H e s' h).elim
  | ok fl =>
   cases fl with
   | next => exact False.elim h
   | brk => exact False.elim h
   | cont => exact False.elim h
   | ret u =>
    obtain ⟨v, H', os, bare, un, hok', r', q⟩ := h
    have q' : v = .bl true := q
    subst q'
    obtain rfl : u = Value.bool true := r'
    refine ⟨rfl, OldK.of_keep fun b o e => ?_, os, bare⟩
    cases q : H b with
    | none => exact un.keep b o e q (by intro z; exact absurd (show b ∈ ([] : List Addr) from z) (by simp)) (by simp)
    | some u =>
     rcases hO b with z | ⟨ob, xs, z⟩
     ·rw [q] at z; cases z
     ·have z2 := un.frzs b ob _ z
      obtain ⟨e1, _⟩ := hok b _ z
      obtain ⟨e2, _⟩ := hok' b _ z2
      rw [e] at e1; cases e1
      exact e2
 cases hk : K.lookup a with
 | some o =>
  have e := KX a o hk
  rw [ha] at e
  cases e
  refine core (fun _ => none) (fun _ => .inl rfl) (.inr ⟨_, vs.toArray, _, hk, rfl, rfl, rfl, by rw [List.size_toArray, lenV]; exact hl, by simpa using rv⟩) (fun b u z => by have z' : (none : Option HO) = some u := z; cases z') (fun b z => absurd rfl z) fun z => absurd rfl z
 | none =>
  refine core (fun b => if b = a then some (.frz { cls := .type "list", data := .seq vs.toArray } (.lst (ns.map V.int))) else none) (fun b => ?_) (.inl (.inr ⟨{ cls := .type "list", data := .seq vs.toArray }, if_pos rfl⟩)) (fun b u z => ?_) (fun b z => ?_) fun _ => hk
  ·by_cases hb : b = a
   ·exact .inr ⟨_, _, if_pos hb⟩
   ·exact .inl (if_neg hb)
  ·by_cases hb : b = a
   ·have z' := (if_pos hb).symm.trans z
    cases z'
    subst hb
    exact ⟨ha, by rw [List.length_map]; exact hl, vs, _, rv, ha⟩
   ·have z' := (if_neg hb).symm.trans z
    cases z'
  ·by_cases hb : b = a
   ·exact hb
   ·exact absurd (if_neg hb) z
end L2
namespace L2
open PySem PySem.Spec PyProof.Rows
theorem walk_of {l : PySem.W.OpenLaw} {n k : Nat} {q : Program} {loose : List Str} {XP : (Str → Option Value) → Heap → Prop} {YP : World → Heap → Prop} {d : DefRec} {K : Params → PySem.W.Frag} {CX : World → CXT} {sp : World → Sp} {x : Str}
  (hn : l.most = some n) (hn2 : n ≤ sizeLine) (hdf : d.params.defaults = []) (hr : Room k callerA)
  (hY : ∀ (w : World) (h : Heap), YP w h → (K w.params).In h)
  (F : ∀ (w : World) (mg : Str → Option Value) (fa : Addr) (h : Heap), (K w.params).In h → h.Ns mainGlobals mg → mg d.name = some (.ref fa) →
   ∃ fd : FuncData, (∀ (s : Shared) (u : Value), BindsTo s fd ⟨[u], []⟩ [(x, u)]) ∧
    ∀ base : Heap, (K w.params).In base → base.Ns mainGlobals mg → FnOk l.prog w (K w.params) mg base (CX w) k fa fd [x] (sp w))
  (hsp : ∀ (w : World) (H : Hp) (a : Addr) (ns : List Int), ns.length ≤ n → Only H → SqL (K w.params) H a (ns.map V.int) → sp w [.ref a] H (fun v _ => v = .bl true) fun _ _ _ => False)
  (hCX : ∀ (w : World) (H : Hp) (s : Shared) (e : Value) (s' : Shared), CX w [] H s (fun _ _ _ => False) e s' → False) :
  PySem.W.WalkO q loose XP YP l.row.toRowW d [] (fun f vs => PySem.call f vs) := by
 refine Att.attach_call hn hdf fun w s₀ s₁ mg mb fa o pm cd doc a vs ns G Y ho hd hcd hmg hobj hints hlen hg => ?_
 have KX := hY w _ Y
 obtain ⟨fd, hb, hF⟩ := F w mg fa _ KX G.T.g hmg
 exact law_call KX G.T.g G.T.b G.T.builtins G.T.nolimit hg hobj hints (Nat.le_trans hlen hn2) hr hF hb (fun H hO hS => hsp w H a ns hlen hO hS) fun H e s' => hCX w H s₁ e s'
end L2
namespace L2
open PySem PySem.Spec PyProof.Rows
def defArgs (s : Stmt) : Arguments := match s with
 | .FunctionDef _ a _ _ _ _ _ _ _ _ => a
 | _ => { posonlyargs := [], args := [], vararg := none, kwonlyargs := [], kw_defaults := [], kwarg := none, defaults := [] }
def defBody (s : Stmt) : List Stmt := match s with
 | .FunctionDef _ _ b _ _ _ _ _ _ _ => b
 | _ => []
def defScope (s : Stmt) : Scope := match s with
 | .FunctionDef _ _ _ _ _ _ sc _ _ _ => sc
 | _ => { kind := .function, names := [], isGenerator := false, isCoroutine := false }
abbrev CX0 : CXT := fun _ _ _ _ _ _ => False
abbrev E0 : XK := fun _ _ _ => False
theorem pass0 {X : Cx} : Passes CX0 X E0 := fun _ _ _ _ _ _ _ h => h.elim
structure Fun (K : PySem.W.Frag) (x qual : Str) (st : Stmt) (f : Addr) (fd : FuncData) : Prop where
 ex : ∃ (oc : Value) (od : Option Addr) (kV doc pm : Value) (an : Option Addr) (cdv ct : Value) (osl : Array (Option Value)),
  fd = PySem.W.fnOf x qual (defArgs st) (defBody st) (defScope st) .none kV doc pm an cdv ct ∧ K.lookup f = some ⟨oc, od, .func fd, osl⟩ ∧ PySem.W.codeIn K cdv qual = true
 kp : PySem.W.keepIn K (.ref f) = true
section
variable {P : Program} {w : World} {K : PySem.W.Frag} {mg : Str → Option Value} {base : Heap}
theorem Fun.ok {x qual : Str} {st : Stmt} {f : Addr} {fd : FuncData} {N ps : List Str} {k : Nat} {sp : Sp} (F : Fun K x qual st f fd) (S : FnScope N ps (defScope st)) (len : ∀ vs H Q E, sp vs H Q E → vs.length = ps.length)
  (hbody : ∀ (cdv : Value) (A : Around) (outer : List Env) (s : Shared) (H : Hp) (vs : List V) (Q : VK) (E : XK), Room k (A.deeper (envOfC qual (defScope st) s.heap.objs.size f cdv)) → sp vs H Q E →
   ∃ t, PSs (cxOf CX0 P w K mg base N qual (defScope st) f cdv A outer s H E).nox (defBody st) t ∧ t { nx := fun _ H' => Q .non H', rt := Q } (start N vs) H) : FnOk P w K mg base CX0 (k + 1) f fd ps sp := by
 obtain ⟨oc, od, kV, doc, pm, an, cdv, ct, osl, rfl, lk, hcd⟩ := F.ex
 refine fn_of lk hcd S len fun A outer s H vs Q E hr hsp => ?_
 obtain ⟨t, h, q⟩ := hbody cdv A outer s H vs Q E hr hsp
 exact ⟨t, h.nox, q⟩
theorem Fun.binds {x qual : Str} {st : Stmt} {f : Addr} {fd : FuncData} {ps : List Str} (F : Fun K x qual st f fd)
  (h : ∀ (kV doc pm : Value) (an : Option Addr) (cdv ct : Value) (us : List Value), us.length = ps.length → bindArgs (PySem.W.fnOf x qual (defArgs st) (defBody st) (defScope st) .none kV doc pm an cdv ct) ⟨us, []⟩ = pure (ps.zip us)) : Binds K fd ps [] := by
 obtain ⟨oc, od, kV, doc, pm, an, cdv, ct, osl, rfl, lk, hcd⟩ := F.ex
 exact .all (h kV doc pm an cdv ct)
theorem fun_mk {x qual : Str} {st : Stmt} {f : Addr} {oc : Value} {od an : Option Addr} {osl : Array (Option Value)} {kV doc pm cdv ct : Value} (l : K.lookup f = some ⟨oc, od, .func (PySem.W.fnOf x qual (defArgs st) (defBody st) (defScope st) .none kV doc pm an cdv ct), osl⟩)
  (c : PySem.W.codeIn K cdv qual = true) (k : PySem.W.keepIn K (.ref f) = true) : Fun K x qual st f (PySem.W.fnOf x qual (defArgs st) (defBody st) (defScope st) .none kV doc pm an cdv ct) := ⟨⟨oc, od, kV, doc, pm, an, cdv, ct, osl, rfl, l, c⟩, k⟩
end
theorem small1000 {n : Nat} (h : n ≤ 1000) : n < sizeLine := Nat.lt_of_le_of_lt h (by decide)
section
variable {X : Cx}
theorem pv (i : Nat) {x : Str} {pos : Pos} (hN : X.N[i]? = some x := by rfl) (hv : Vis X.env.scope x := by first | exact Or.inl rfl | exact Or.inr (Or.inl rfl) | exact Or.inr (Or.inr rfl)) (hd : (x == ("__debug__" : Str)) = false := by decide)
  (hcd : (x == ("__classdict__" : Str)) = false := by decide) : PE X (.Name x pos) (tVar i) := pe_var hN hv hd hcd
end
theorem iteF {A B : Prop} (h : B) : if false = true then A else B := by
 rw [if_neg Bool.false_ne_true]
 exact h
theorem iteT {A B : Prop} (h : A) : if true = true then A else B := by
 rw [if_pos rfl]
 exact h
theorem ite2 {c A B : Prop} [Decidable c] (h1 : c → A) (h2 : ¬ c → B) : if c then A else B := by
 by_cases h : c
 ·rw [if_pos h]
  exact h1 h
 ·rw [if_neg h]
  exact h2 h
def Same (H H' : Hp) : Prop := ∀ b o, H b = some o → H' b = some o
theorem Same.refl (H : Hp) : Same H H := fun _ _ h => h
theorem Same.trans {H H1 H2 : Hp} (a : Same H H1) (b : Same H1 H2) : Same H H2 := fun c o h => b c o (a c o h)
end L2
set_option maxHeartbeats 4000000
namespace L2
open PySem PySem.Spec PyProof.Rows
def closOf (cells : List (Str × Addr)) : List (Str × NameKind) → List (Str × Addr) → List (Str × Addr)
 | [], cs => cs
 | (n, k) :: r, cs => closOf cells r (if k == .free then (n, (cells.lookup n).getD 0) :: cs else cs)
theorem closureFor_eq {scope : Scope} {env : Env} (h : ∀ y ∈ scope.names, y.2 = .free → ∃ c, env.cells.lookup y.1 = some c) : closureFor scope env = pure (closOf env.cells scope.names []) := by
 have key : ∀ (l : List (Str × NameKind)) (cs : List (Str × Addr)), (∀ y ∈ l, y.2 = .free → ∃ c, env.cells.lookup y.1 = some c) →
   (forIn l cs fun (x : Str × NameKind) (r : List (Str × Addr)) => if (x.2 == NameKind.free) = true then do let a ← cellOf env x.1; pure (ForInStep.yield ((x.1, a) :: r)) else pure (ForInStep.yield r) : Sem (List (Str × Addr))) = pure (closOf env.cells l cs) := by
  intro l
  induction l with
  | nil => intro cs _; rfl
  | cons y r ih =>
   intro cs hl
   obtain ⟨n, k⟩ := y
   rw [List.forIn_cons]
   by_cases hk : k = .free
   ·subst hk
    obtain ⟨c, hc⟩ := hl (n, .free) List.mem_cons_self rfl
    have hc' : env.cells.lookup n = some c := hc
    have e1 : cellOf env n = pure c := by unfold cellOf; rw [hc']
    simp only [beq_self_eq_true, if_true, e1, pure_bind]
    rw [ih _ fun z hz => hl z (List.mem_cons_of_mem _ hz)]
    show _ = pure (closOf env.cells r (if (NameKind.free == NameKind.free) = true then (n, (env.cells.lookup n).getD 0) :: cs else cs))
    rw [hc']
    rfl
   ·have hb : (k == NameKind.free) = false := by simpa using hk
    simp only [hb, Bool.false_eq_true, if_false, pure_bind]
    rw [ih _ fun z hz => hl z (List.mem_cons_of_mem _ hz)]
    show _ = pure (closOf env.cells r (if (k == NameKind.free) = true then (n, (env.cells.lookup n).getD 0) :: cs else cs))
    rw [hb]
    rfl
 have k2 := key scope.names [] h
 have e : closureFor scope env = ((forIn scope.names [] fun (x : Str × NameKind) (r : List (Str × Addr)) => if (x.2 == NameKind.free) = true then do let a ← cellOf env x.1; pure (ForInStep.yield ((x.1, a) :: r)) else pure (ForInStep.yield r) : Sem (List (Str × Addr))) >>= fun cs => pure cs) := rfl
 rw [e, k2]
 rfl
theorem closOf_sub {cells : List (Str × Addr)} : ∀ {l : List (Str × NameKind)} {cs : List (Str × Addr)}, (∀ y ∈ l, y.2 = .free → ∃ c, cells.lookup y.1 = some c) → (∀ x c, cs.lookup x = some c → cells.lookup x = some c) →
  ∀ x c, (closOf cells l cs).lookup x = some c → cells.lookup x = some c
 | [], _, _, h, x, c, e => h x c e
 | (n, k) :: r, cs, hl, h, x, c, e => by
  unfold closOf at e
  refine closOf_sub (l := r) (fun z hz => hl z (List.mem_cons_of_mem _ hz)) (fun y d q => ?_) x c e
  split at q
  ·rename_i hk
   obtain ⟨c0, hc0⟩ := hl (n, k) List.mem_cons_self (by simpa using hk)
   have hc0' : cells.lookup n = some c0 := hc0
   rw [hc0'] at q
   rw [List.lookup_cons] at q
   split at q
   ·rename_i hb
    have := eq_of_beq hb
    subst this
    rw [hc0']
    exact q
   ·exact h y d q
  ·exact h y d q
theorem closOf_keeps {cells : List (Str × Addr)} {x : Str} : ∀ {l : List (Str × NameKind)} {cs : List (Str × Addr)}, (∃ c, cs.lookup x = some c) → ∃ c, (closOf cells l cs).lookup x = some c
 | [], _, h => h
 | (n, k) :: r, cs, h => by
  unfold closOf
  refine closOf_keeps (l := r) ?_
  split
  ·rw [List.lookup_cons]
   split
   ·exact ⟨_, rfl⟩
   ·exact h
  ·exact h
theorem closOf_has {cells : List (Str × Addr)} {x : Str} : ∀ {l : List (Str × NameKind)} {cs : List (Str × Addr)}, (x, NameKind.free) ∈ l → ∃ c, (closOf cells l cs).lookup x = some c
 | (n, k) :: r, cs, h => by
  unfold closOf
  rcases List.mem_cons.mp h with e | h
  ·injection e with e1 e2
   subst e1 e2
   refine closOf_keeps (l := r) ?_
   simp only [beq_self_eq_true, if_true]
   rw [List.lookup_cons]
   simp
  ·exact closOf_has (l := r) h
structure CA where
 s : Shared
 H : Hp
 C : Addr
 fp : List Addr
abbrev cxComp (X : Cx) (scope : Scope) (N' : List Str) (a : CA) : Cx where
 prog := X.prog
 w := X.w
 K := X.K
 mg := X.mg
 base := X.base
 A := X.A
 N := N'
 s₀ := a.s
 H₀ := a.H
 env := compEnvC scope (closOf X.env.cells scope.names []) a.C X.env
 outer := X.stack
 stack := X.stack
 ex := a.fp
 fn := fun _ => false
 calm := X.calm
 pn := []
 xe := fun _ _ => False
structure CompSc (N N' : List Str) (osc scope : Scope) (j : Nat) (x : Str) : Prop where
 nd : N'.Nodup
 at_ : N'[j]? = some x
 sub : ∀ (i : Nat) y, i ≠ j → N'[i]? = some y → N[i]? = some y
 len : N'.length ≤ N.length + 1
 kind : scope.kind = .function
 cell : ∀ y ∈ scope.names, y.2 ≠ .cell
 names : ∀ y ∈ scope.names, y.2 = .local → scope.names.lookup y.1 = some .local
 only : ∀ y ∈ scope.names, y.2 = .local → y.1 = x ∨ y.1 ∉ N'
 loc : scope.names.lookup x = some .local
 okind : osc.kind = .function
 free : ∀ y ∈ scope.names, y.2 = .free → osc.names.lookup y.1 = some .cell
def compOk (N : List Str) (osc scope : Scope) (x : Str) : Bool :=
 decide (N ++ [x]).Nodup && decide (scope.kind = .function) && decide (osc.kind = .function) && (scope.names.lookup x == some .local) &&
  scope.names.all fun y => match y.2 with
   | .cell => false
   | .local => scope.names.lookup y.1 == some .local && (y.1 == x || !((N ++ [x]).contains y.1))
   | .free => osc.names.lookup y.1 == some .cell
   | _ => true
theorem CompSc.new {N : List Str} {osc scope : Scope} {x : Str} (h : compOk N osc scope x = true) : CompSc N (N ++ [x]) osc scope N.length x := by
 unfold compOk at h
 simp only [Bool.and_eq_true, decide_eq_true_eq, List.all_eq_true, beq_iff_eq] at h
 obtain ⟨⟨⟨⟨h1, h2⟩, h3⟩, h4⟩, h5⟩ := h
 refine ⟨h1, by simp, fun i y ne e => ?_, by simp, h2, fun y hy e => ?_, fun y hy e => ?_, fun y hy e => ?_, h4, h3, fun y hy e => ?_⟩
 ·by_cases hi : i < N.length
  ·rw [List.getElem?_append_left hi] at e; exact e
  ·rw [List.getElem?_append_right (by lia)] at e
   cases q : i - N.length with
   | zero => exact absurd (by lia) ne
   | succ k => rw [q] at e; simp at e
 ·have := h5 y hy; rw [e] at this; cases this
 ·have := h5 y hy
  rw [e] at this
  simp only [Bool.and_eq_true, beq_iff_eq] at this
  exact this.1
 ·have := h5 y hy
  rw [e] at this
  simp only [Bool.and_eq_true, Bool.or_eq_true, beq_iff_eq, Bool.not_eq_true', List.contains_eq_mem, decide_eq_false_iff_not] at this
  exact this.2
 ·have := h5 y hy
  rw [e] at this
  simp only [beq_iff_eq] at this
  exact this
def padS (n j : Nat) (σ : St) : St := ((σ ++ [none]).take n).set j none
theorem padS_get {n j i : Nat} {σ : St} {v : V} (h : (padS n j σ)[i]? = some (some v)) : i ≠ j ∧ σ[i]? = some (some v) := by
 unfold padS at h
 by_cases e : i = j
 ·subst e
  rw [List.getElem?_set] at h
  simp only [if_true] at h
  split at h <;> cases h
 ·refine ⟨e, ?_⟩
  rw [List.getElem?_set_ne (Ne.symm e)] at h
  have h2 : (σ ++ [none])[i]? = some (some v) := by
   by_cases hi : i < n
   ·rw [List.getElem?_take_of_lt hi] at h; exact h
   ·rw [List.getElem?_eq_none (by rw [List.length_take]; lia)] at h; cases h
  by_cases hi : i < σ.length
  ·rw [List.getElem?_append_left hi] at h2; exact h2
  ·rw [List.getElem?_append_right (by lia)] at h2
   cases q : i - σ.length with
   | zero => rw [q] at h2; cases h2
   | succ k => rw [q] at h2; cases h2
theorem padS_len {n j : Nat} {σ : St} (h : n ≤ σ.length + 1) : (padS n j σ).length = n := by
 unfold padS
 rw [List.length_set, List.length_take, List.length_append]
 simp; lia
theorem lookup_relabel_free {env : Env} : ∀ {names : List (Str × NameKind)} {x : Str}, ((names.map fun (n, k) => if (k == NameKind.free && env.scope.kind == .function && env.kindOf n == some .cell) then (n, NameKind.cell) else (n, k)).lookup x = some .cell ∨
  (names.map fun (n, k) => if (k == NameKind.free && env.scope.kind == .function && env.kindOf n == some .cell) then (n, NameKind.cell) else (n, k)).lookup x = some .free) → (∀ y ∈ names, y.2 ≠ .cell) → (x, NameKind.free) ∈ names
 | [], _, h, _ => by rcases h with h | h <;> cases h
 | (n, k) :: r, x, h, hc => by
  rw [List.map_cons] at h
  dsimp only at h
  by_cases hk : (k == NameKind.free && env.scope.kind == .function && env.kindOf n == some .cell) = true
  ·rw [if_pos hk] at h
   simp only [List.lookup_cons] at h
   cases hx : x == n with
   | true =>
    have e := eq_of_beq hx
    subst e
    have k' : k = .free := by
     rw [Bool.and_eq_true, Bool.and_eq_true] at hk
     simpa using hk.1.1
    subst k'
    exact List.mem_cons_self
   | false =>
    simp only [hx] at h
    exact List.mem_cons_of_mem _ (lookup_relabel_free h fun y hy => hc y (List.mem_cons_of_mem _ hy))
  ·rw [if_neg hk] at h
   simp only [List.lookup_cons] at h
   cases hx : x == n with
   | true =>
    have e := eq_of_beq hx
    subst e
    simp only [hx] at h
    rcases h with h | h
    ·exact absurd (Option.some.inj h) (hc (x, k) List.mem_cons_self)
    ·have := Option.some.inj h
     subst this
     exact List.mem_cons_self
   | false =>
    simp only [hx] at h
    exact List.mem_cons_of_mem _ (lookup_relabel_free h fun y hy => hc y (List.mem_cons_of_mem _ hy))
theorem lookup_relabel_loc {env : Env} : ∀ {names : List (Str × NameKind)} {x : Str}, (names.map fun (n, k) => if (k == NameKind.free && env.scope.kind == .function && env.kindOf n == some .cell) then (n, NameKind.cell) else (n, k)).lookup x = some .local → (x, NameKind.local) ∈ names
 | [], _, h => by cases h
 | (n, k) :: r, x, h => by
  rw [List.map_cons] at h
  dsimp only at h
  by_cases hk : (k == NameKind.free && env.scope.kind == .function && env.kindOf n == some .cell) = true
  ·rw [if_pos hk] at h
   simp only [List.lookup_cons] at h
   cases hx : x == n with
   | true => simp only [hx] at h; cases h
   | false =>
    simp only [hx] at h
    exact List.mem_cons_of_mem _ (lookup_relabel_loc h)
  ·rw [if_neg hk] at h
   simp only [List.lookup_cons] at h
   cases hx : x == n with
   | true =>
    have e := eq_of_beq hx
    subst e
    simp only [hx] at h
    have := Option.some.inj h
    subst this
    exact List.mem_cons_self
   | false =>
    simp only [hx] at h
    exact List.mem_cons_of_mem _ (lookup_relabel_loc h)
section
variable {X : Cx} {pins : List (Addr × Obj)} {σ : St} {H : Hp} {s : Shared}
structure Own (X : Cx) (pins : List (Addr × Obj)) (H : Hp) (C : Addr) : Prop where
 no : H C = none
 ne : C ≠ X.env.locals
 ab : X.s₀.heap.objs.size ≤ C
 ce : ∀ x c, X.env.cells.lookup x = some c → c ≠ C
 pi : ∀ p ∈ X.pn ++ pins, p.1 ≠ C
theorem Inv.own {C : Addr} {H' : Hp} (I : Inv X pins σ H s) (h : s.heap.objs.size ≤ C) (hn : H' C = none) : Own X pins H' C := by
 refine ⟨hn, Nat.ne_of_gt (Nat.lt_of_lt_of_le I.lt h), Nat.le_trans I.sz h, fun x c e z => ?_, fun p hp z => ?_⟩
 ·obtain ⟨v, q⟩ := I.cell x c e
  exact absurd (Nat.lt_of_lt_of_le q.lt (by rw [z]; exact h)) (Nat.lt_irrefl _)
 ·exact absurd (Nat.lt_of_lt_of_le (Heap.lt_size (I.pin p hp).1) (by rw [z]; exact h)) (Nat.lt_irrefl _)
theorem Inv.own_turn {C : Addr} {h' : Heap} (I : Inv X pins σ H s) (o : Own X pins H C) (hs : Heap.SameBut C s.heap h') : Inv X pins σ H { s with heap := h' } :=
 I.turned (t' := s.toks) (fun b ob hb e => (hs.2 b hb).trans e) o.no o.ne (.inr o.ab) o.ce o.pi
theorem Inv.track {D : Addr} {ys : List V} {its : List Value} {n : Nat} (I : Inv X pins σ H s) (o : Own X pins H D) (e : s.heap.get? D = some { cls := .type "list", data := .seq its.toArray n }) (r : Vals ys its) (hz : ys.length ≤ sizeLine) :
  Inv X pins σ (upd H D (.lst ys)) s := by
 have nD : ∀ b u, H b = some u → b ≠ D := fun b u q z => by rw [z, o.no] at q; cases q
 have hok : HOk X.prog X.w (upd H D (.lst ys)) s.heap := fun b u q => by
  by_cases hb : b = D
  ·subst hb
   rw [upd_same] at q
   cases q
   exact ⟨hz, its, n, r, e⟩
  ·rw [upd_ne hb] at q
   exact (I.hok b u q).stay (fun _ _ _ z => z) (fun c z => by rw [upd_ne (nD c _ z)]; exact z) fun c xs z => by rw [upd_ne (nD c _ z)]; exact z
 have := I.step (H' := upd H D (.lst ys)) (h' := s.heap) (g' := s.gens) (t' := s.toks) (d' := s.drawn) (ch := [D]) (fun b hb => by
   have e' : b = D := by simpa using hb
   subst e'
   exact ⟨.inr o.ab, o.ne, o.ce, o.pi⟩) (fun b ob _ _ _ q _ => q) (fun b ob _ _ _ q _ => ⟨ob.slots, q⟩) (fun b ob hc q z => by rw [upd_ne (by simpa using hc)]; exact z) (fun b ob _ q => ⟨ob, q⟩)
  (fun b xs q => by rw [upd_ne (nD b _ q)]; exact q) (fun b ob u q => by rw [upd_ne (nD b _ q)]; exact q) (fun b ps q => ⟨#[], by rw [upd_ne (nD b _ q), q]; simp⟩) (fun m z => z) hok I.bare
 exact this
end
end L2
namespace L2
open PySem PySem.Spec PyProof.Rows
section
variable {prog : Program} {w : World} {A : Around} {R : Result → Shared → Prop} {s : Shared}
theorem compLoop_go {elt target iter : Expr} {ifs : List Expr} {scope : Scope} {pos : Pos} {it acc : Value} {env : Env} (I : Nat → Shared → Prop)
  (turn : ∀ n s, I n s → ∀ E : Value → Shared → Prop, wpAny (model prog w) A (pyNext it) (fun r s₁ => match r with
   | none => R (.ok .next) s₁
   | some v => wpAny (model prog w) A (letOwnedTupleGo target it v) (fun _ s₁' => wpAny (model prog w) A (assign target env v) (fun _ s₂ =>
     wpAny (model prog w) A (forIn ifs true fun c r => if r = true then do let ok ← isTrue c env (eval c env); pure (ForInStep.yield ok) else pure (ForInStep.yield r)) (fun ok s₃ =>
      if ok = true then wpAny (model prog w) A (eval elt env) (fun x s₄ =>
       wpAny (model prog w) A (call (.builtin "list.append") [acc, x]) (fun _ s₅ => ∃ m, m < n ∧ I m s₅) E s₄) E s₃
      else ∃ m, m < n ∧ I m s₃) E s₂) E s₁') E s₁) E s)
  (n : Nat) (h : I n s) :
  codeAny (model prog w) A (.compLoop (.ListComp elt [⟨target, iter, ifs, 0⟩] scope pos) 0 it acc env) R s := by
 refine codeAny_loop rfl I (fun n s hI => ?_) n h
 show wpAny _ A ((compTurn (.ListComp elt [⟨target, iter, ifs, 0⟩] scope pos) 0 it acc env).onRaise (fun x => do noteFrame x env; theTreesLotGoes x)) _ _ s
 refine wpAny_noted ?_
 rw [compTurn_list]
 refine wpAny_bind (wpAny_standAt (wpAny_bind (wpAny_mono (turn n s hI _) (fun r s₁ h₁ => ?_) fun _ _ h' => h')))
 cases r with
 | none => exact wpAny_pure h₁
 | some v =>
  refine wpAny_bind (wpAny_mono h₁ (fun _ s₁' h₁' => ?_) fun _ _ h' => h')
  refine wpAny_bind (wpAny_mono h₁' (fun _ s₂ h₂ => wpAny_bind (wpAny_mono h₂ (fun ok s₃ h₃ => ?_) fun _ _ h' => h')) fun _ _ h' => h')
  cases ok with
  | false => exact wpAny_pure ⟨rfl, h₃⟩
  | true =>
   exact wpAny_bind (wpAny_bind (wpAny_mono h₃ (fun x s₄ h₄ => wpAny_bind (wpAny_mono h₄ (fun _ s₅ h₅ => wpAny_pure (wpAny_pure ⟨rfl, h₅⟩)) fun _ _ h' => h')) fun _ _ h' => h'))
end
def PTs (X : Cx) (ifs : List Expr) (t : TT) : Prop :=
 ∀ (pins : List (Addr × Obj)) (s : Shared) (σ : St) (H : Hp) (Q : Bool → Hp → Prop), Inv X pins σ H s → t σ H Q →
  wpAny (model X.prog X.w) X.A (forIn ifs true fun c r => if r = true then do let ok ← isTrue c X.env (eval c X.env); pure (ForInStep.yield ok) else pure (ForInStep.yield r)) (TP X pins σ Q) X.xe s
def tTrue : TT := fun _ H Q => Q true H
theorem pts_nil {X : Cx} : PTs X [] tTrue := fun _ _ _ H _ I h => wpAny_tests_nil ⟨H, I, h⟩
theorem pts_one {X : Cx} {c : Expr} {t : TT} (h : PT X c t) : PTs X [c] t := fun pins s σ H Q I q => wpAny_tests_one (h pins s σ H Q I q)
def RComp (σ : St) (n j : Nat) (tt : CA → TT) (te : CA → TE) (J : It) (H1 : Hp) (Q : List V → Hp → Prop) : Prop :=
 ∃ W : Nat → Nat → List V → Hp → Prop, (∃ m, W 0 m [] H1) ∧ ∀ i m ys H, W i m ys H → ys.length ≤ sizeLine ∧
  ((J.stop i H ∧ Q ys H) ∨ (J.go i H ∧ ∃ N : List V → Hp → Prop, (∀ ys' H', N ys' H' → ∃ m', m' < m ∧ W (i + 1) m' ys' H') ∧
   ∀ x H', J.yld i H x H' → ∀ a : CA, tt a ((padS n j σ).set j (some x)) H' fun b H2 => if b = true then te a ((padS n j σ).set j (some x)) H2 fun y H3 => N (ys ++ [y]) H3 else N ys H2))
def tComp (wi : TI) (n j : Nat) (tt : CA → TT) (te : CA → TE) : TE := fun σ H Q => wi σ H fun J H1 => RComp σ n j tt te J H1 fun ys H2 => ∀ p, H2 p = none → Q (.ref p) (upd H2 p (.lst ys))
section
variable {X : Cx} {pins : List (Addr × Obj)} {σ : St} {H : Hp} {s : Shared}
theorem comp_core {elt iter : Expr} {x : Str} {px pos : Pos} {ifs : List Expr} {scope : Scope} {N' : List Str} {j : Nat} {tt : CA → TT} {te : CA → TE} {it : Addr} {fp : List Addr} {tn : Nat → Heap → Prop} {J : It} {Q : List V → Hp → Prop}
  {RR : Value → Addr → Result → Shared → Prop} {E : Value → Shared → Prop}
  (S : CompSc X.N N' X.env.scope scope j x) (hc : X.calm = true)
  (ht : ∀ a : CA, PTs (cxComp X scope N' a) ifs (tt a)) (he : ∀ a : CA, PE (cxComp X scope N' a) elt (te a))
  (I : Inv X pins σ H s) (T : Turn X.prog X.w X.K (.Name x px) J fp it tn) (st : tn 0 s.heap) (f2 : ∀ b ∈ fp, FpOk X pins H b) (h : RComp σ N'.length j tt te J H Q)
  (hRR : ∀ (D C : Addr) (ys : List V) (H' : Hp) (s' : Shared) (m : Str → Option Value), s'.heap.Ns C m → Own X pins (upd H' D (.lst ys)) C → Inv X pins σ (upd H' D (.lst ys)) s' → H' D = none → Q ys H' → RR (.ref D) C (.ok .next) s') :
  wpAny (model X.prog X.w) X.A (newList []) (fun acc s₃ => wpAny (model X.prog X.w) X.A (newFunctionEnv scope X.env.globals (closOf X.env.cells scope.names []) [] X.env.qual none .none (some X.env)) (fun cenv s₄ =>
   codeAny (model X.prog X.w) X.A (.compStart (.ListComp elt [⟨.Name x px, iter, ifs, 0⟩] scope pos) 0 (.ref it) acc { cenv with scope := relabel scope X.env }) (RR acc cenv.locals) s₄) E s₃) E s := by
 refine wpAny_newObj_type (wpAny_newFunctionEnv S.cell (by intro y hy; simp at hy) (fun h₁ hns₁ hsb₁ => ?_) S.kind)
 dsimp only at hns₁ hsb₁ ⊢
 generalize hH2 : s.heap.push { cls := .type "list", dict := none, data := .seq ([] : List Value).toArray } = H2 at hns₁ hsb₁ ⊢
 have hC : H2.objs.size = s.heap.objs.size + 1 := by rw [← hH2, Heap.size_push]
 have hDC : s.heap.objs.size ≠ H2.objs.size := by rw [hC]; exact Nat.ne_of_lt (Nat.lt_succ_self _)
 have hCle : s.heap.objs.size ≤ H2.objs.size := by rw [hC]; exact Nat.le_succ _
 have below : ∀ b, b < s.heap.objs.size → b ≠ H2.objs.size ∧ b ≠ s.heap.objs.size := fun b hb => ⟨by rw [hC]; exact Nat.ne_of_lt (Nat.lt_succ_of_lt hb), Nat.ne_of_lt hb⟩
 have old : ∀ b o, s.heap.get? b = some o → h₁.get? b = some o := fun b o e => hsb₁.extBut b o (below b (Heap.lt_size e)).1 (Heap.get?_push_of_some _ (hH2 ▸ Heap.get?_push_of_some _ e))
 have hacc : h₁.get? s.heap.objs.size = some { cls := .type "list", data := .seq ([] : List Value).toArray } := hsb₁.extBut _ _ hDC (Heap.get?_push_of_some _ (hH2 ▸ Heap.get?_push_size _ rfl))
 have fplt : ∀ b ∈ fp, b < s.heap.objs.size := fun b hb => let ⟨_, e, _⟩ := T.obj 0 _ st b hb; Heap.lt_size e
 have hcells : ∀ y ∈ scope.names, y.2 = .free → ∃ c, X.env.cells.lookup y.1 = some c := fun y hy e => I.ok.has y.1 (.inl (S.free y hy e))
 have sub : ∀ y c, (closOf X.env.cells scope.names []).lookup y = some c → X.env.cells.lookup y = some c := closOf_sub hcells (fun y c e => by cases e)
 let a : CA := ⟨s, H, H2.objs.size, fp⟩
 have ok : (cxComp X scope N' a).Ok := by
  refine ⟨I.ok.mod, S.kind, I.ok.glob, I.ok.blt, hCle, fun y z c e1 e2 => I.ok.inj y z c (sub y c e1) (sub z c e2), fun y hy => ?_, fun y c z => ?_, I.ok.hd, I.ok.frames, .inl rfl, fun b hb => ⟨(below b (fplt b hb)).1, fun y c e => (f2 b hb).2.2.2.2.1 y c (sub y c e)⟩, I.bs,
   Nat.le_trans I.ok.bsz I.sz, fun b o e hb => ?_, fun b hb z => ?_, I.stack, I.stkFree⟩
  ·exact closOf_has (lookup_relabel_free hy S.cell)
  ·cases z
  ·rcases (f2 b hb).2.2.2.1 with z | z
   ·exact I.ok.noex b o e z
   ·exact absurd (Nat.lt_of_lt_of_le (Heap.lt_size (I.ok.bs b o e).1) z) (Nat.lt_irrefl _)
  ·rcases List.mem_cons.mp (I.stkSub b z) with e | e
   ·exact (f2 b hb).2.1 e
   ·exact (f2 b hb).2.2.1 e
 have look : ∀ (h' : Heap) (m' : Str → Option Value), (∀ y c, X.env.cells.lookup y = some c → ∀ v, s.heap.IsCell c v → h'.IsCell c v) → ∀ (i : Nat) (y : Str) (v : V), N'[i]? = some y → (padS N'.length j σ)[i]? = some (some v) →
   Vis (relabel scope X.env) y → ∃ u, RelV v u ∧ Look (compEnvC scope (closOf X.env.cells scope.names []) H2.objs.size X.env) h' m' y u := by
  intro h' m' kc i y v e1 e2 e3
  obtain ⟨ne, e4⟩ := padS_get e2
  have e5 := S.sub i y ne e1
  have hy : (y, NameKind.free) ∈ scope.names := by
   rcases e3 with e3 | e3 | e3
   ·rcases S.only _ (lookup_relabel_loc e3) rfl with z | z
    ·exact absurd (nodup_ix S.nd e1 (by rw [S.at_]; exact congrArg some z.symm)) ne
    ·exact absurd (List.mem_of_getElem? e1) z
   ·exact lookup_relabel_free (.inl e3) S.cell
   ·exact lookup_relabel_free (.inr e3) S.cell
  have kcell : X.env.scope.names.lookup y = some .cell := S.free _ hy rfl
  obtain ⟨m0, hn0, hl0⟩ := I.loc
  obtain ⟨u, r, l⟩ := hl0 i y v e5 e4 (.inr (.inl kcell))
  refine ⟨u, r, .inr ⟨?_, ?_⟩⟩
  ·rcases e3 with e3 | e3 | e3
   ·rcases S.only _ (lookup_relabel_loc e3) rfl with z | z
    ·exact absurd (nodup_ix S.nd e1 (by rw [S.at_]; exact congrArg some z.symm)) ne
    ·exact absurd (List.mem_of_getElem? e1) z
   ·exact .inl e3
   ·exact .inr e3
  ·rcases l with ⟨k, _⟩ | ⟨k, c, e, z⟩
   ·have k' : X.env.scope.names.lookup y = some .local := k
    rw [kcell] at k'; cases k'
   ·obtain ⟨c', e'⟩ := closOf_has (cells := X.env.cells) (cs := []) hy
    have e'' := sub y c' e'
    rw [e] at e''
    cases e''
    exact ⟨c, e', kc y c e _ z⟩
 have cellOld : ∀ y c, X.env.cells.lookup y = some c → ∀ v, s.heap.IsCell c v → h₁.IsCell c v := fun y c _ v zz232 => el2 zz232 fun o ho hd => ⟨o, old c o ho, hd⟩
 have fr0 : ∀ b, s.heap.objs.size ≤ b → H b = none := fun b hb => I.hok.fresh hb
 have noPn : ∀ p, p ∉ (cxComp X scope N' a).pn ++ ([] : List (Addr × Obj)) := fun p hp => by simp at hp
 have I0 : Inv (cxComp X scope N' a) [] (padS N'.length j σ) H { s with heap := h₁, toks := s.toks + ([] : List (Str × Value)).length } := by
  refine ⟨ok, rfl, I.bare, Un.kept old, ⟨_, hns₁, look h₁ _ cellOld⟩, fun y c e => ?_, fr0 _ hCle, fun y c e => I.freeC y c (sub y c e), fun p hp => absurd hp (noPn p), I.hok.kept old, padS_len (by rw [I.len]; exact S.len)⟩
  obtain ⟨v, z⟩ := I.cell y c (sub y c e)
  exact ⟨v, cellOld y c (sub y c e) v z⟩
 obtain ⟨W, ⟨m0, w0⟩, turn⟩ := h
 have loop : ∀ s₃ : Shared, s₃ = { s with heap := h₁, toks := s.toks + ([] : List (Str × Value)).length } →
   codeAny (model X.prog X.w) X.A (.compLoop (.ListComp elt [⟨.Name x px, iter, ifs, 0⟩] scope pos) 0 (.ref it) (.ref s.heap.objs.size) (compEnvC scope (closOf X.env.cells scope.names []) H2.objs.size X.env)) (RR (.ref s.heap.objs.size) H2.objs.size) s₃ := by
  rintro s₃ rfl
  refine compLoop_go (fun k s' => ∃ (i : Nat) (ys : List V) (its : List Value) (n : Nat) (H' : Hp), Inv (cxComp X scope N' a) [] (padS N'.length j σ) H' s' ∧ s'.heap.get? s.heap.objs.size = some { cls := .type "list", data := .seq its.toArray n } ∧ Vals ys its ∧
   H' s.heap.objs.size = none ∧ tn i s'.heap ∧ (∀ b ∈ fp, H' b = none) ∧ W i k ys H') ?_ m0
   ⟨0, [], [], 0, H, I0, hacc, .nil, fr0 _ (Nat.le_refl _), T.keep _ _ _ st fun b hb o e => old b o e, fun b hb => (f2 b hb).1, w0⟩
  rintro k s' ⟨i, ys, its, n, H', I', hD, rv, nD', st', fr', w'⟩ E'
  obtain ⟨hz, hw⟩ := turn i k ys H' w'
  have ownD : Own (cxComp X scope N' a) [] H' s.heap.objs.size := ⟨nD', hDC, Nat.le_refl _, fun y c e z => by
   obtain ⟨v, q⟩ := I.cell y c (sub y c e)
   exact absurd q.lt (by rw [z]; exact Nat.lt_irrefl _), fun p hp => absurd hp (noPn p)⟩
  have fpok : ∀ (pl : List (Addr × Obj)) (H'' : Hp), (∀ b ∈ fp, H'' b = none) → (∀ p ∈ pl, p.1 ∉ fp) → ∀ b ∈ fp, FpOk (cxComp X scope N' a) pl H'' b := fun pl H'' hn hpl b hb =>
   ⟨hn b hb, (below b (fplt b hb)).1, fun z => by
    rcases List.mem_cons.mp (I.stkSub b z) with e | e
    ·exact (f2 b hb).2.1 e
    ·exact (f2 b hb).2.2.1 e, .inl hb, fun y c e => (f2 b hb).2.2.2.2.1 y c (sub y c e), fun p hp z => by
    have hp' : p ∈ pl := by simpa using hp
    exact hpl p hp' (z ▸ hb)⟩
  have nDfp : s.heap.objs.size ∉ fp := fun z => absurd (fplt _ z) (Nat.lt_irrefl _)
  have pinD : ∀ p ∈ ([(s.heap.objs.size, { cls := .type "list", data := .seq its.toArray n })] : List (Addr × Obj)), s'.heap.get? p.1 = some p.2 ∧ H' p.1 = none ∧ p.1 ≠ (cxComp X scope N' a).env.locals ∧ p.1 ∉ (cxComp X scope N' a).fs ∧ ∀ v, p.2.data ≠ .cell v := fun p hp => by
   have e : p = (s.heap.objs.size, { cls := .type "list", data := .seq its.toArray n }) := by simpa using hp
   subst e
   refine ⟨hD, nD', hDC, fun z => ?_, fun v z => by cases z⟩
   rcases List.mem_cons.mp (I.stkSub _ z) with e | e
   ·exact absurd I.lt (by rw [← e]; exact Nat.lt_irrefl _)
   ·exact I.nofs (Nat.le_refl _) e
  have Ip := I'.pins_of pinD
  have hpl : ∀ p ∈ ([(s.heap.objs.size, { cls := .type "list", data := .seq its.toArray n })] : List (Addr × Obj)), p.1 ∉ fp := fun p hp => by
   have e : p = (s.heap.objs.size, { cls := .type "list", data := .seq its.toArray n }) := by simpa using hp
   subst e
   exact nDfp
  rcases hw with ⟨stop, q⟩ | ⟨go, N, hN, step⟩
  ·refine thn (T.done (cxComp X scope N' a) rfl rfl rfl hc i _ s' _ H' E' Ip (fpok _ H' fr' hpl) st' stop) fun r s4 zz233 => zz233.elim fun hr I4 => ?_
   subst hr
   have hD4 := (I4.pin (s.heap.objs.size, { cls := .type "list", data := .seq its.toArray n }) (by simp)).1
   have J4 : Inv X pins σ H' s4 := I.call' (ch := fp) I4.os I4.base I4.hok I4.bare fun b hb => ⟨(f2 b hb).2.2.2.1, (f2 b hb).2.1, (f2 b hb).2.2.2.2.1, (f2 b hb).2.2.2.2.2⟩
   obtain ⟨m4, hn4, _⟩ := I4.loc
   have hC4 : H' H2.objs.size = none := I4.free
   exact hRR _ _ ys H' s4 m4 hn4 (I.own hCle (by rw [upd_ne (Ne.symm hDC)]; exact hC4)) (J4.track (I.own (Nat.le_refl _) nD') hD4 rv hz) nD' q
  ·refine thn (T.item (cxComp X scope N' a) rfl rfl rfl hc i _ s' _ H' E' Ip (fpok _ H' fr' hpl) st' go) fun r s5 zz234 => el2 zz234 fun u hr h5 => ?_
   subst hr
   refine thn h5 fun _ s6 zz235 => zz235.elim fun xv zz236 => zz236.elim fun H6 zz237 => zz237.elim fun I6 zz238 => zz238.elim fun r6 zz239 => zz239.elim fun y6 zz240 => zz240.elim fun st6 fr6 => ?_
   have I6' := I6.pinned (fpok _ H6 fr6 hpl) (T.obj _ _ st6)
   refine wpAny_assign_Name (store_ok I6' S.nd S.at_ (.inl (lookup_relabel_local S.loc)) r6 (fun s7 I7 => ?_) (.inr (lookup_relabel_local S.loc)))
   have wk : ∀ (i : Nat) v, (padS N'.length j σ)[i]? = some (some v) → ((padS N'.length j σ).set j (some xv))[i]? = some (some v) := fun i v e => by
    rw [List.getElem?_set_ne (Ne.symm (padS_get e).1)]; exact e
   refine wpAny_mono (ht a _ s7 _ H6 _ I7 (step xv H6 y6 a)) (fun ok s8 zz241 => el2 zz241 fun H8 I8 q8 => ?_) fun _ _ z => z.elim
   have tnk : ∀ {H9 : Hp} {s9 : Shared} {σ9 : St}, Inv (cxComp X scope N' a) ([(s.heap.objs.size, { cls := .type "list", data := .seq its.toArray n })] ++ pinsAt fp s6.heap) σ9 H9 s9 → tn (i + 1) s9.heap ∧ (∀ b ∈ fp, H9 b = none) ∧ s9.heap.get? s.heap.objs.size = some { cls := .type "list", data := .seq its.toArray n } ∧ H9 s.heap.objs.size = none := fun {H9 s9 σ9} I9 => by
    refine ⟨T.keep _ _ _ st6 fun b hb o e => (I9.pin (b, o) (List.mem_append_right _ (List.mem_append_right _ (mem_pinsAt hb e)))).1, fun b hb => ?_, ?_⟩
    ·obtain ⟨o, e, d⟩ := T.obj _ _ st6 b hb
     exact (I9.pin (b, o) (List.mem_append_right _ (List.mem_append_right _ (mem_pinsAt hb e)))).2.1
    ·have z := I9.pin (s.heap.objs.size, { cls := .type "list", data := .seq its.toArray n }) (List.mem_append_right _ (List.mem_append_left _ (by simp)))
     exact ⟨z.1, z.2.1⟩
   cases ok with
   | false =>
    obtain ⟨m', hm, w8⟩ : ∃ m', m' < k ∧ W (i + 1) m' ys H8 := hN _ _ (by simpa using q8)
    obtain ⟨t1, t2, t3, t4⟩ := tnk I8
    exact ⟨m', hm, i + 1, ys, its, n, H8, (I8.pins_of (pins' := []) fun p hp => nomatch hp).weak (by rw [List.length_set]) wk, t3, rv, t4, t1, t2, w8⟩
   | true =>
    have q8' := q8
    simp only [if_true] at q8'
    refine wpAny_mono (he a _ s8 _ H8 _ I8 q8') (fun u9 s9 zz242 => el5 zz242 fun v9 H9 I9 r9 q9 => ?_) fun _ _ z => z.elim
    obtain ⟨m', hm, w9⟩ := hN _ _ q9
    obtain ⟨t1, t2, t3, t4⟩ := tnk I9
    have hl := rv.length
    refine append_at (hsz := by show its.toArray.size ≤ sizeLine; rw [List.size_toArray, ← hl]; exact hz) t3 fun h' hs' hD' => ?_
    have J9 := ((I9.pins_of (pins' := []) fun p hp => nomatch hp).weak (σ' := padS N'.length j σ) (by rw [List.length_set]) wk).own_turn (C := s.heap.objs.size) ⟨t4, ownD.ne, ownD.ab, ownD.ce, ownD.pi⟩ hs'
    refine ⟨m', hm, i + 1, ys ++ [v9], its ++ [u9], n + 1, H9, J9, ?_, Vals.append rv (.cons r9 .nil), t4, T.keep _ _ _ t1 fun b hb o e => (hs'.2 b fun z => nDfp (z ▸ hb)).trans e, t2, w9⟩
    rw [List.push_toArray] at hD'
    exact hD'
 exact codeAny_compStart_list (loop _ rfl) (T.self _ 0 _ _ _ (T.keep _ _ _ st fun b hb o e => old b o e) (loop _ rfl))
theorem pe_comp {elt iter : Expr} {x : Str} {px pos : Pos} {ifs : List Expr} {scope : Scope} {N' : List Str} {j : Nat} {wi : TI} {tt : CA → TT} {te : CA → TE} {osc : Scope} {N : List Str}
  (S : CompSc N N' osc scope j x) (hc : X.calm = true) (hi : PI X (.Name x px) iter wi) (ht : ∀ a : CA, PTs (cxComp X scope N' a) ifs (tt a)) (he : ∀ a : CA, PE (cxComp X scope N' a) elt (te a))
  (ho : X.env.scope = osc := by rfl) (hN : X.N = N := by rfl) (hs : ∀ x, foldedSetIterable iter X.env x = pure x := by intro _; rfl) : PE X (.ListComp elt [⟨.Name x px, iter, ifs, 0⟩] scope pos) (tComp wi N'.length j tt te) := by
 subst ho hN
 intro pins s σ H Q I h
 rw [eval_ListComp]
 have hcells : ∀ y ∈ scope.names, y.2 = .free → ∃ c, X.env.cells.lookup y.1 = some c := fun y hy e => I.ok.has y.1 (.inl (S.free y hy e))
 refine wpAny_comprehension_free (use := none) rfl hs (closureFor_eq hcells) S.kind S.names (wpAny_mono (hi pins s σ H _ I h) (fun xv s₁ h₁ => wpAny_mono h₁ (fun itv s₂ h₂ => ?_) fun _ _ e => e) fun _ _ e => e)
 obtain ⟨it, fp, tn, J, H2, rfl, I2, T, st2, f2, q2⟩ := h₂
 refine comp_core (RR := fun acc C => compPost (model X.prog X.w) X.A X.xe none (EP X pins σ Q) acc C) S hc ht he I2 T st2 f2 q2 ?_
 intro D C ys H' s' m hn own I' hD q
 refine ⟨m, hn, fun h' hs' => ⟨.ref D, _, I'.own_turn own hs', rfl, q D hD⟩⟩
theorem ps_setC {elt iter : Expr} {x y : Str} {px pos py spos : Pos} {ifs : List Expr} {scope : Scope} {N' : List Str} {j i : Nat} {wi : TI} {tt : CA → TT} {te : CA → TE} {osc : Scope} {N : List Str}
  (nd : X.N.Nodup) (hi' : X.N[i]? = some y) (hy : Loc X.env.scope y)
  (S : CompSc N N' osc scope j x) (hc : X.calm = true) (hi : PI X (.Name x px) iter wi) (ht : ∀ a : CA, PTs (cxComp X scope N' a) ifs (tt a)) (he : ∀ a : CA, PE (cxComp X scope N' a) elt (te a))
  (hsw : swapsWith (.ListComp elt [⟨.Name x px, iter, ifs, 0⟩] scope pos) (some (.Name y py)) spos.line X.env = pure true := by rfl)
  (hf : X.fn y = true ∨ X.env.scope.names.lookup y = some .local := by first | exact .inl rfl | exact .inr rfl | assumption)
  (ho : X.env.scope = osc := by rfl) (hN : X.N = N := by rfl) (hs : ∀ x, foldedSetIterable iter X.env x = pure x := by intro _; rfl) :
  PS X (.Assign [.Name y py] (.ListComp elt [⟨.Name x px, iter, ifs, 0⟩] scope pos) spos) (fun D σ H => tComp wi N'.length j tt te σ H fun v H1 => D.nx (σ.set i (some v)) H1) := by
 subst ho hN
 intro pins s σ H D I h
 have hcells : ∀ y ∈ scope.names, y.2 = .free → ∃ c, X.env.cells.lookup y.1 = some c := fun y hy e => I.ok.has y.1 (.inl (S.free y hy e))
 rw [exec_Assign_Name_used _ _ _ _ hsw]
 refine wpAny_bind (wpAny_standAt (wpAny_bind ?_))
 show wpAny _ X.A (do let _ ← comprehension (.ListComp elt [⟨.Name x px, iter, ifs, 0⟩] scope pos) scope X.env _ (newList []) false (eval iter X.env) (some (assign (.Name y py) X.env))) _ _ s
 refine wpAny_bind (wpAny_mono (wpAny_comprehension_free (use := some (assign (.Name y py) X.env)) (Q := fun _ s' => SP X pins D .next s') rfl hs (closureFor_eq hcells) S.kind S.names
  (wpAny_mono (hi pins s σ H _ I h) (fun xv s₁ h₁ => wpAny_mono h₁ (fun itv s₂ h₂ => ?_) fun _ _ e => e) fun _ _ e => e)) (fun _ s' hq => wpAny_pure (wpAny_pure hq)) fun _ _ e => e)
 obtain ⟨it, fp, tn, J, H2, rfl, I2, T, st2, f2, q2⟩ := h₂
 refine comp_core (RR := fun acc C => compPost (model X.prog X.w) X.A X.xe (some (assign (.Name y py) X.env)) (fun _ s' => SP X pins D .next s') acc C) S hc ht he I2 T st2 f2 q2 ?_
 intro Da C ys H' s' m hn own I' hD q
 show wpAny _ X.A (assign (.Name y py) X.env (.ref Da)) _ _ _
 refine wpAny_assign_Name (store_ok2 (v := V.ref Da) I' nd hi' hy rfl (fun s2 I2' hsb => ?_) hf)
 obtain ⟨b, hs2, hb⟩ := hsb
 have hCb : C ≠ b := by
  rcases hb with rfl | hb
  ·exact own.ne
  ·exact fun z => own.ce _ _ hb z.symm
 refine ⟨m, hn.sameBut hs2 hCb, fun h' hs' => ⟨_, _, I2'.own_turn own hs', q Da hD⟩⟩
end
end L2
namespace L2
open PySem PySem.Spec PyProof.Rows
end L2
namespace L2
open PySem PySem.Spec PyProof.Rows
section
variable {X : Cx}
def CDivB (_ j : Int) : Prop := 0 < j ∧ j < 100000000000000000000000000000000000000000000000000000000000000
theorem op_fdivB : OpR X (binaryOp .FloorDiv) (rI CDivB fun i j => .int (i / j)) := opI fun i j _ _ _ _ _ hc q => by
 have h1 : (0 : Int) < j := hc.1
 have h2 : j < 2 ^ 250 := Int.lt_trans hc.2 (by decide)
 refine floordiv_int (by lia) (by rw [Int.fdiv_eq_ediv_of_nonneg i (by lia)]; exact q) (.inl (PyProof.noPylong_of_log2 ?_))
 have h3 : j.natAbs < 2 ^ 250 := by
  have : ((j.natAbs : Nat) : Int) < ((2 ^ 250 : Nat) : Int) := by
   rw [Int.natAbs_of_nonneg (Int.le_of_lt h1)]
   exact h2
  exact Int.ofNat_lt.mp this
 have h4 : j.natAbs ≠ 0 := by lia
 exact Nat.lt_trans ((Nat.log2_lt h4).mpr h3) (by decide)
end
mutual
inductive DatV (K : PySem.W.Frag) (H : Hp) : V → PyData → Prop
 | non : DatV K H .non .none
 | bl (b) : DatV K H (.bl b) (.bool b)
 | int (i) : DatV K H (.int i) (.int i)
 | str (x) : DatV K H (.str x) (.str x)
 | lst {a xs ds} : SqL K H a xs → DatVs K H xs ds → DatV K H (.ref a) (.list ds)
 | tup {a xs ds} : SqT K H a xs → DatVs K H xs ds → DatV K H (.ref a) (.tuple ds)
inductive DatVs (K : PySem.W.Frag) (H : Hp) : List V → List PyData → Prop
 | nil : DatVs K H [] []
 | cons {x xs d ds} : DatV K H x d → DatVs K H xs ds → DatVs K H (x :: xs) (d :: ds)
end
section
variable {X : Cx} {pins : List (Addr × Obj)} {σ : St} {H : Hp} {s : Shared}
mutual
theorem DatV.reads (I : Inv X pins σ H s) : ∀ {x : V} {d : PyData} {u : Value}, DatV X.K H x d → RelV x u → ∃ as, Reads s.heap u d as
 | _, _, _, .non, r => by cases r; exact ⟨_, .none⟩
 | _, _, _, .bl b, r => by cases r; exact ⟨_, .bool b⟩
 | _, _, _, .int i, r => by obtain ⟨t, rfl⟩ := r; exact ⟨_, .int i t⟩
 | _, _, _, .str x, r => by obtain ⟨t, rfl⟩ := r; exact ⟨_, .str x t⟩
 | _, _, _, .lst hq hs, r => by
  cases r
  obtain ⟨its, rv, pl, hz⟩ := I.list hq
  obtain ⟨as, ra⟩ := DatVs.reads I hs rv
  obtain ⟨o, e, c, n, d⟩ := pl.isList
  exact ⟨_, .list e c d (by simpa using ra)⟩
 | _, _, _, .tup hq hs, r => by
  cases r
  obtain ⟨its, rv, pl, hz⟩ := I.tuple hq
  obtain ⟨as, ra⟩ := DatVs.reads I hs rv
  obtain ⟨o, e, c, n, d⟩ := pl
  exact ⟨_, .tuple e c d (by simpa using ra)⟩
theorem DatVs.reads (I : Inv X pins σ H s) : ∀ {xs : List V} {ds : List PyData} {us : List Value}, DatVs X.K H xs ds → Vals xs us → ∃ as, ReadsAll s.heap us ds as
 | _, _, _, .nil, .nil => ⟨_, .nil⟩
 | _, _, _, .cons h t, .cons r rs => by
  obtain ⟨as, ra⟩ := DatV.reads I h r
  obtain ⟨bs, rb⟩ := DatVs.reads I t rs
  exact ⟨_, .cons ra rb⟩
end
end
section
variable {X : Cx}
def rEqD (K : PySem.W.Frag) (neg : Bool) : R2 := fun x y H Q => ∃ da db, DatV K H x da ∧ DatV K H y db ∧ da.canLay0 = true ∧ db.canLay0 = true ∧ min da.depth db.depth ≤ 64 ∧ Q (.bl (if neg then !PyData.eqv da db else PyData.eqv da db)) H
theorem op_eqD (hu : X.A.units + 64 < cLine) : OpR X (compareOp .Eq) (rEqD X.K false) := by
 intro pins s σ H x y v u Q I rx ry h
 obtain ⟨da, db, d1, d2, c1, c2, hd, q⟩ := h
 obtain ⟨as, ra⟩ := d1.reads I rx
 obtain ⟨bs, rb⟩ := d2.reads I ry
 exact SeqAt.compareEq_reads ra rb c1 c2 (by lia) ⟨.bl _, H, I, rfl, q⟩
theorem op_neD (hu : X.A.units + 64 < cLine) : OpR X (compareOp .NotEq) (rEqD X.K true) := by
 intro pins s σ H x y v u Q I rx ry h
 obtain ⟨da, db, d1, d2, c1, c2, hd, q⟩ := h
 obtain ⟨as, ra⟩ := d1.reads I rx
 obtain ⟨bs, rb⟩ := d2.reads I ry
 exact SeqAt.compareNe_reads ra rb c1 c2 (by lia) ⟨.bl _, H, I, rfl, q⟩
end
end L2
namespace L2
open PySem PySem.Spec PyProof.Rows
section
variable {X : Cx}
theorem get_list : PGet X (fun o i H Q => ∃ p xs j v, o = .ref p ∧ i = .int j ∧ 0 ≤ j ∧ SqL X.K H p xs ∧ atI xs j = some v ∧ Q v H) := by
 intro pins s σ H o i ov iv Q I r1 r2 h
 obtain ⟨p, xs, j, v, rfl, rfl, h0, hq, he, q⟩ := h
 cases r1
 obtain ⟨t, rfl⟩ := r2
 obtain ⟨its, r, pl, hz⟩ := I.list hq
 obtain ⟨k, h1, h2, h3, h4, h5⟩ := atI_get he
 obtain ⟨w, ew, rw'⟩ := r.get h2
 have hl := r.length
 have hn := line63
 have hj : j.toNat = k := by
  rw [seqIndex_of h0 h5] at h1
  exact Option.some.inj h1
 exact wpAny_getItem_list pl.isList h0 (by lia) (by rw [hj]; simpa using ew) ⟨v, H, I, rw', q⟩
theorem ps_mid {st : Stmt} {t : TS} (h : PS X st t) : PS X st (fun D σ H => ∃ M : St → Hp → Prop, t { D with nx := M } σ H ∧ ∀ σ' H', M σ' H' → D.nx σ' H') := by
 intro pins s σ H D I q
 obtain ⟨M, q1, q2⟩ := q
 refine thn (h pins s σ H _ I q1) fun f s' z => ?_
 cases f with
 | next => obtain ⟨σ', H', I', m⟩ := z; exact ⟨σ', H', I', q2 _ _ m⟩
 | brk => exact z
 | cont => exact z
 | ret v => exact z
end
end L2
namespace L2
open PySem PySem.Spec PyProof.Rows
theorem bt_list : bootBuiltins "list" = some (.type "list") := by decide +kernel
theorem bt_abs : bootBuiltins "abs" = some (.builtin "abs") := by decide +kernel
theorem bt_min : bootBuiltins "min" = some (.builtin "min") := by decide +kernel
theorem bt_isinstance : bootBuiltins "isinstance" = some (.builtin "isinstance") := by decide +kernel
theorem bt_int : bootBuiltins "int" = some (.type "int") := by decide +kernel
theorem bt_bool : bootBuiltins "bool" = some (.type "bool") := by decide +kernel
theorem bt_tuple : bootBuiltins "tuple" = some (.type "tuple") := by decide +kernel
theorem bt_len : bootBuiltins "len" = some (.builtin "len") := by decide +kernel
theorem bt_enumerate : bootBuiltins "enumerate" = some (.type "enumerate") := by decide +kernel
end L2
namespace L2
open PySem PySem.Spec PyProof.Rows
section
variable {es : List Expr} {env : Env}
theorem se_Constant {c j p} : starEach (.Constant c j p :: es) env = (false, eval (.Constant c j p) env) :: starEach es env := by rfl
theorem se_Name {c p} : starEach (.Name c p :: es) env = (false, eval (.Name c p) env) :: starEach es env := by rfl
theorem se_BinOp {a o b p} : starEach (.BinOp a o b p :: es) env = (false, eval (.BinOp a o b p) env) :: starEach es env := by rfl
theorem se_UnaryOp {o b p} : starEach (.UnaryOp o b p :: es) env = (false, eval (.UnaryOp o b p) env) :: starEach es env := by rfl
theorem se_Call {a o b p} : starEach (.Call a o b p :: es) env = (false, eval (.Call a o b p) env) :: starEach es env := by rfl
theorem se_Subscript {a o p} : starEach (.Subscript a o p :: es) env = (false, eval (.Subscript a o p) env) :: starEach es env := by rfl
theorem se_Tuple {a k p} : starEach (.Tuple a k p :: es) env = (false, eval (.Tuple a k p) env) :: starEach es env := by rfl
theorem se_ListComp {a b c p} : starEach (.ListComp a b c p :: es) env = (false, eval (.ListComp a b c p) env) :: starEach es env := by rfl
theorem np_nil {pos : Pos} : (backTo pos (starEach [] env)).any (·.1) = false := by rfl
theorem np_cons {pos : Pos} {e : Expr} (hs : starEach (e :: es) env = (false, eval e env) :: starEach es env) (h : (backTo pos (starEach es env)).any (·.1) = false) : (backTo pos (starEach (e :: es) env)).any (·.1) = false := by
 rw [hs]
 exact h
end
end L2
namespace L2
open PySem PySem.Spec PyProof.Rows
section
variable {X : Cx} {pos : Pos}
end
end L2
namespace L2
open PySem PySem.Spec PyProof.Rows
section
variable {X : Cx}
end
end L2
namespace L2
open PySem PySem.Spec PyProof.Rows
section
variable {X : Cx}
end
end L2
namespace L2
open PySem PySem.Spec PyProof.Rows
section
variable {X : Cx}
end
end L2
namespace L2
open PySem PySem.Spec PyProof.Rows
section
variable {X : Cx} {pins : List (Addr × Obj)} {σ : St} {H : Hp} {s : Shared} {h' : Heap}
theorem Inv.turned2 {t' : Nat} {e it : Addr} (I : Inv X pins σ H s) (k : ∀ b o, b ≠ e → b ≠ it → s.heap.get? b = some o → h'.get? b = some o) (fe : FpOk X pins H e) (fi : FpOk X pins H it) : Inv X pins σ H { s with heap := h', toks := t' } := by
 obtain ⟨e0, e1, e2, e3, e4, e5⟩ := fe
 obtain ⟨f0, f1, f2, f3, f4, f5⟩ := fi
 have nit : ∀ b u, H b = some u → b ≠ it := fun b u e z => by rw [z, f0] at e; cases e
 have nie : ∀ b u, H b = some u → b ≠ e := fun b u q z => by rw [z, e0] at q; cases q
 have kc : ∀ b o, b ∉ [e, it] → s.heap.get? b = some o → h'.get? b = some o := fun b o hc q => k b o (fun z => hc (by simp [z])) (fun z => hc (by simp [z])) q
 refine I.step (g' := s.gens) (d' := s.drawn) (ch := [e, it]) (fun b hb => ?_) (fun b o _ _ hc e _ => kc b o hc e) (fun b o _ _ hc e _ => ⟨o.slots, kc b o hc e⟩) (fun _ _ _ _ n => n)
  (fun b o hc e => ⟨o, kc b o hc e⟩) (fun _ _ e => e) (fun _ _ _ e => e) (fun b ps e => ⟨#[], by rw [e]; simp⟩) (fun m hm => ?_) (fun b u q => ?_) I.bare
 ·rcases List.mem_cons.mp hb with z | z
  ·subst z; exact ⟨e3, e1, e4, e5⟩
  ·have z' : b = it := by simpa using z
   subst z'
   exact ⟨f3, f1, f4, f5⟩
 ·obtain ⟨o, es, ep, ho, r⟩ := hm
  exact ⟨o, es, ep, k _ o (Ne.symm e1) (Ne.symm f1) ho, r⟩
 ·refine (I.hok b u q).stay (fun c v hc z => k c v ?_ ?_ z) (fun _ z => z) fun _ _ z => z
  ·rcases hc with z | z
   ·rw [z]; exact nie b u q
   ·exact nie c _ z
  ·rcases hc with z | z
   ·rw [z]; exact nit b u q
   ·exact nit c _ z
end
def Ite (K : PySem.W.Frag) (a : Addr) : It :=
 ⟨fun i H => ∃ xs x, SqL K H a xs ∧ xs[i]? = some x, fun i H x H' => ∃ p v, x = .ref p ∧ H p = none ∧ H' = upd H p (.tup [.int ((i : Nat) : Int), v]) ∧ ∀ xs, SqL K H a xs → xs[i]? = some v, fun i H => ∃ xs, SqL K H a xs ∧ xs.length ≤ i⟩
theorem turn_enum {P : Program} {w : World} {K : PySem.W.Frag} {elts : List Expr} {x1} {tpos : Pos} (a e it : Addr) (hne : e ≠ it) : Turn P w K (.Tuple elts x1 tpos) (Ite K a) [e, it] e (fun i h => (∃ old, IsEnum h e it ((i : Nat) : Int) old) ∧ h.IsListIter it a i) where
 mem := by simp
 obj := fun i h st b hb => by
  obtain ⟨⟨old, h1⟩, h2⟩ := st
  rcases List.mem_cons.mp hb with z | z
  ·subst z
   exact ⟨_, h1, fun v z => by
    have z' : Data.fields _ = Data.cell v := z
    cases z'⟩
  ·have z' : b = it := by simpa using z
   subst z'
   obtain ⟨o, e, c, d⟩ := h2
   exact ⟨o, e, fun v z => by rw [d] at z; cases z⟩
 keep := fun i h h' st k => by
  obtain ⟨⟨old, h1⟩, h2⟩ := st
  exact ⟨⟨old, k e (by simp) _ h1⟩, h2.at fun o q => k it (by simp) o q⟩
 item := by
  intro X hP hw hK hc i pins s σ H E I hf st hg
  subst hP hw hK
  obtain ⟨⟨old, st1⟩, st2⟩ := st
  obtain ⟨xs, x, hq, hx⟩ := hg
  obtain ⟨its, rv, p, hz⟩ := I.list hq
  obtain ⟨u, hu, ru⟩ := rv.get hx
  have fe := hf e (by simp)
  have fi := hf it (by simp)
  have le : e < s.heap.objs.size := Heap.lt_size st1
  have li : it < s.heap.objs.size := by obtain ⟨_, q, _⟩ := id st2; exact Heap.lt_size q
  refine wpAny_pyNext_enum_item st1 st2 p.isList (x := u) (by simpa using hu) hne fun h' ho hit' hT hsz hk => ?_
  refine ⟨_, rfl, wpAny_letOwnedTupleGo_enum ho fun h2 he2 hs2 => ?_⟩
  replace hs2 : Heap.SameBut e h' h2 := hs2
  have hn : H s.heap.objs.size = none := I.hok.fresh (Nat.le_refl _)
  have I1 : Inv X pins σ (upd H s.heap.objs.size (.tup [.int ((i : Nat) : Int), x])) { s with heap := s.heap.push { cls := .type "tuple", data := .seq #[.int i s.toks, u] }, toks := s.toks } :=
   I.laid (fun b o q => Heap.get?_push_of_some _ q) (Nat.le_refl _) ⟨by show 2 ≤ sizeLine; decide, [.int i s.toks, u], .cons ⟨_, rfl⟩ (.cons ru .nil), ⟨_, Heap.get?_push_size _ rfl, rfl, _, rfl⟩⟩
  have ge : ∀ b, b < s.heap.objs.size → FpOk X pins H b → FpOk X pins (upd H s.heap.objs.size (.tup [.int ((i : Nat) : Int), x])) b := fun b hb f => ⟨by rw [upd_ne (Nat.ne_of_lt hb)]; exact f.1, f.2⟩
  have I2 := I1.turned2 (h' := h2) (t' := s.toks + 1) (e := e) (it := it) (fun b o n1 n2 q => by
   rw [hs2.2 b n1]
   rcases Heap.get?_push_cases q with ⟨z, z2⟩ | q
   ·subst z z2
    exact hT
   ·exact hk b o n1 n2 q) (ge e le fe) (ge it li fi)
  refine ⟨.ref s.heap.objs.size, _, I2, rfl, ⟨_, x, rfl, hn, rfl, fun ys hy => by rw [I.list_inj hy hq]; exact hx⟩, ⟨⟨u, he2⟩, hit'.at fun o q => (hs2.2 it hne.symm).trans q⟩, fun b hb => ?_⟩
  rcases List.mem_cons.mp hb with z | z
  ·subst z; exact (ge b le fe).1
  ·have z' : b = it := by simpa using z
   subst z'
   exact (ge b li fi).1
 done := by
  intro X hP hw hK hc i pins s σ H E I hf st hg
  subst hP hw hK
  obtain ⟨⟨old, st1⟩, st2⟩ := st
  obtain ⟨xs, hq, hx⟩ := hg
  obtain ⟨its, rv, p, hz⟩ := I.list hq
  have hl := rv.length
  exact wpAny_pyNext_enum_end (I.ok.hd hc) st1 st2 p.isList (by simp; lia) fun h' eb => ⟨rfl, I.turned2 (t' := s.toks) (fun b o n1 n2 q => eb b o n2 q) (hf e (by simp)) (hf it (by simp))⟩
 self := fun _ _ _ _ _ st h => by
  obtain ⟨⟨old, st1⟩, _⟩ := st
  exact wpAny_pyIter_enum st1 h
section
variable {X : Cx}
def iEnum (K : PySem.W.Frag) (ta : TA) : TI := fun σ H R => ta σ H fun vs H1 => ∃ a, vs = [.ref a] ∧ (∃ xs, SqL K H1 a xs) ∧ R (Ite K a) H1
theorem pi_enum {elts : List Expr} {x1} {tpos : Pos} {a : Expr} {ta : TA} {p pos : Pos} (hg : Gl X "enumerate") (hm : X.mg "enumerate" = none) (ha : PA X [a] ta) (hs : starEach [a] X.env = [(false, eval a X.env)] := by rfl) : PI X (.Tuple elts x1 tpos) (.Call (.Name "enumerate" p) [a] [] pos) (iEnum X.K ta) := by
 intro pins s σ H R I h
 refine Call_ (ld_blt I hg hm bt_enumerate (PyProof.Rows.callWith_type1 (thn (ha pos pins s σ H _ I h) fun us s1 zz244 => el5 zz244 fun vs H1 I1 r1 q1 => ?_) hs rfl))
 obtain ⟨a', e, ⟨xs, hq⟩, q⟩ := q1
 subst e
 obtain ⟨u, rfl, rx⟩ := vals1 r1
 cases rx
 obtain ⟨its, rv, pl, hz⟩ := I1.list hq
 refine call_enumerate_list pl.isList fun h' he hit hsz hk => ?_
 refine wpAny_pyIter_enum (s := { s1 with heap := h' }) he ?_
 have I2 : Inv X pins σ H1 { s1 with heap := h' } := I1.kept (t' := s1.toks) hk
 refine ⟨_, [s1.heap.objs.size + 1, s1.heap.objs.size], _, _, H1, rfl, I2, turn_enum a' _ _ (Nat.ne_of_gt (Nat.lt_succ_self _)), ⟨⟨.none, he⟩, hit⟩, fun b hb => ?_, q⟩
 rcases List.mem_cons.mp hb with z | z
 ·subst z; exact I1.fpOk (Nat.le_succ _) (I1.hok.fresh (Nat.le_succ _))
 ·have z' : b = s1.heap.objs.size := by simpa using z
  subst z'
  exact I1.fpOk (Nat.le_refl _) (I1.hok.fresh (Nat.le_refl _))
theorem ps_no {st : Stmt} : PS X st (fun _ _ _ => False) := fun _ _ _ _ _ _ h => h.elim
end
end L2
namespace L2
open PySem PySem.Spec PyProof.Rows
section
variable {X : Cx} {pins : List (Addr × Obj)} {σ : St} {H : Hp} {s : Shared}
end
end L2
namespace L2
open PySem PySem.Spec PyProof.Rows
section
variable {X : Cx} {pins : List (Addr × Obj)} {σ : St} {H : Hp} {s : Shared}
end
end L2
namespace L2
open PySem PySem.Spec PyProof.Rows
section
variable {X : Cx}
end
end L2
namespace L2
open PySem PySem.Spec PyProof.Rows
inductive TyOf2 (K : PySem.W.Frag) (H : Hp) : V → Value → Prop where
 | o {x : V} {t : Value} : TyOf K H x t → TyOf2 K H x t
 | f {a : Addr} {o : Obj} {kvs : List (List Key × V)} : H a = some (.frz o (.dT kvs)) → TyOf2 K H (.ref a) (.type "dict")
section
variable {X : Cx}
theorem call_isinst2 : CallR X (.builtin "isinstance") (fun xs H Q => ∃ x cv c t b, xs = [x, cv] ∧ RelV cv c ∧ TyOf2 X.K H x t ∧ PySem.W.kitOne X.K t c = some b ∧ Q (.bl b) H) := by
 intro pins s σ H xs us Q I r h
 obtain ⟨x, cv, c, t, b, rfl, rc, ty, k, q⟩ := h
 obtain ⟨u, w', rfl, r1, r2⟩ := vals2 r
 have e : w' = c := by
  cases cv with
  | non => exact r2.trans rc.symm
  | bl y => exact r2.trans rc.symm
  | ref y => exact r2.trans rc.symm
  | ty y => exact r2.trans rc.symm
  | int y =>
   obtain ⟨t1, rfl⟩ := rc
   exfalso
   unfold PySem.W.kitOne PySem.W.kitCls at k
   cases ty with
   | o ty => cases ty <;> simp at k
   | f e => simp at k
  | str y =>
   obtain ⟨t1, rfl⟩ := rc
   exfalso
   unfold PySem.W.kitOne PySem.W.kitCls at k
   cases ty with
   | o ty => cases ty <;> simp at k
   | f e => simp at k
  | byt y =>
   obtain ⟨t1, rfl⟩ := rc
   exfalso
   unfold PySem.W.kitOne PySem.W.kitCls at k
   cases ty with
   | o ty => cases ty <;> simp at k
   | f e => simp at k
  | flt y =>
   obtain ⟨t1, rfl⟩ := rc
   exfalso
   unfold PySem.W.kitOne PySem.W.kitCls at k
   cases ty with
   | o ty => cases ty <;> simp at k
   | f e => simp at k
 subst e
 cases ty with
 | o ty => exact isinst_ok I r1 ty k fun tk => ⟨.bl b, H, I.tok tk, rfl, q⟩
 | @f a o kvs ea =>
  cases (show u = Value.ref a from r1)
  obtain ⟨_, _, _, xs, _, o', es, ep, h1, h2, _⟩ := (show ObjOk X.prog X.w H s.heap a (.frz o (.dT kvs)) from I.hok a _ ea)
  exact PySem.W.kia_one PySem.W.kitx_dict I.kIn ⟨o', h1, h2.1⟩ k (fun z => nomatch z) fun tk => ⟨.bl b, H, I.tok tk, rfl, q⟩
end
end L2
namespace L2
open PySem PySem.Spec PyProof.Rows
section
variable {X : Cx}
end
end L2
namespace L2
open PySem PySem.Spec PyProof.Rows
section
variable {prog : Program} {w : World} {A : Around} {E : Value → Shared → Prop} {s : Shared}
end
section
variable {X : Cx}
end
end L2
namespace L2
open PySem PySem.Spec PyProof.Rows
section
variable {X : Cx} {pins : List (Addr × Obj)} {σ : St} {H : Hp} {s : Shared}
end
end L2
namespace L2
open PySem PySem.Spec PyProof.Rows
def PairAt (h : Heap) (ns : List Addr) (v : Value) : Prop := ∃ (a : Addr) (i j : Int) (t u : Tok), v = .ref a ∧ a ∉ ns ∧ h.IsTuple a #[.int i t, .int j u]
section
variable {prog : Program} {w : World} {A : Around} {E : Value → Shared → Prop} {s : Shared}
end
section
variable {prog : Program} {w : World} {A : Around} {R : Result → Shared → Prop} {I : Addr} {fp wr : List Addr} {n : Nat} {P : Nat → Value → Prop} {St : Nat → Heap → Prop}
end
theorem Vals.un : ∀ {xs : List V} {us : List Value} {i : Nat} {u : Value}, Vals xs us → us[i]? = some u → ∃ x, xs[i]? = some x ∧ RelV x u
 | _, _, _, _, .nil, e => by simp at e
 | _, _, 0, _, .cons r _, e => by
  cases e
  exact ⟨_, rfl, r⟩
 | _, _, i + 1, _, .cons _ t, e => Vals.un (i := i) t e
section
variable {X : Cx}
end
end L2
namespace L2
open PySem PySem.Spec PyProof.Rows
section
variable {X : Cx} {pins : List (Addr × Obj)} {σ : St} {H : Hp} {s : Shared} {h' : Heap}
end
section
variable {X : Cx}
end
end L2
namespace L2
open PySem PySem.Spec PyProof.Rows
def Itd (lo : Int) (n : Nat) : It := ⟨fun i _ => i < n, fun i H x H' => H' = H ∧ x = .int (lo - i), fun i _ => n ≤ i⟩
theorem turn_down {P : Program} {w : World} {K : PySem.W.Frag} {tg : Expr} (it : Addr) (lo : Int) (n : Nat) : Turn P w K tg (Itd lo n) [it] it (fun i h => IsRangeIter h it (lo + (i : Nat) * (-1)) ((n : Int) - (i : Nat)) (-1)) where
 mem := by simp
 obj := fun i h st b hb => by
  have e : b = it := by simpa using hb
  subst e
  exact ⟨_, st, fun v z => by
   have z' : Data.fields _ = Data.cell v := z
   cases z'⟩
 keep := fun i h h' st k => k it (by simp) _ st
 item := by
  intro X hP hw hK hc i pins s σ H E I hf st hg
  subst hP hw hK
  obtain ⟨f0, f1, f2, f3, f4, f5⟩ := hf it (by simp)
  have W := Walks.range (prog := X.prog) (w := X.w) (I.ok.hd hc) it lo (-1) n
  refine W.item i s _ _ hg st fun v h' tk hv st' kk => ?_
  obtain ⟨t, rfl⟩ := hv
  have I1 : Inv X pins σ H { s with heap := h', toks := tk } := I.turned (fun b o hb e => kk b o (by simpa using hb) e) f0 f1 f3 f4 f5
  refine ⟨_, rfl, go_of (s := { s with heap := h', toks := tk }) (n := "range_iterator") st' rfl rfl (by decide) ⟨.int (lo - i), H, I1, ⟨t, ?_⟩, ⟨rfl, rfl⟩, st', fun b hb => (hf b hb).1⟩⟩
  rw [show lo + (i : Int) * (-1) = lo - i by lia]
 done := by
  intro X hP hw hK hc i pins s σ H E I hf st hg
  subst hP hw hK
  obtain ⟨f0, f1, f2, f3, f4, f5⟩ := hf it (by simp)
  exact wpAny_pyNext_range_end (I.ok.hd hc) st (by have : n ≤ i := hg; lia) fun h' eb => ⟨rfl, I.turned (t' := s.toks) (fun b o hb e => eb b o hb e) f0 f1 f3 f4 f5⟩
 self := fun _ _ _ _ _ st h => wpAny_pyIter_rangeiter st h
section
variable {X : Cx} {tg : Expr}
theorem size_down (lo hi : Int) : Builtin.Range.rangeSize lo hi (-1) = if hi < lo then lo - hi else 0 := by
 unfold Builtin.Range.rangeSize
 rw [if_neg (by decide)]
 split
 ·rw [show (-(-1 : Int)) = 1 from rfl, Int.ediv_one]; lia
 ·rfl
theorem range_itd {pins : List (Addr × Obj)} {σ : St} {H : Hp} {s : Shared} {R : It → Hp → Prop} {E : Value → Shared → Prop} {lo hi : Int} {t u v : Tok} {tk : Nat} (I : Inv X pins σ H s) (h1 : -(2 ^ 61) ≤ lo) (h2 : lo < 2 ^ 61) (h3 : -(2 ^ 61) ≤ hi) (h4 : hi < 2 ^ 61)
  (q : R (Itd lo (lo - hi).toNat) H) : wpAny (model X.prog X.w) X.A (pyIter (.ref s.heap.objs.size)) (PIE X pins σ tg R) E { s with heap := s.heap.push { cls := .type "range", data := .fields #[.int lo t, .int hi u, .int (-1) v] }, toks := tk } := by
 have hs : Builtin.Range.small lo hi (-1) = true := by
  unfold Builtin.Range.small
  rw [size_down]
  simp only [Builtin.Range.rangeFitsLong, Bool.and_eq_true, Bool.or_eq_true, decide_eq_true_eq, beq_iff_eq, show ¬ ((-1 : Int) > 0) by decide, if_false]
  split <;> omega
 refine wpAny_pyIter_range (IsRange.new ..) hs ?_
 have I1 : Inv X pins σ H { s with heap := s.heap.push { cls := .type "range", data := .fields #[.int lo t, .int hi u, .int (-1) v] }, toks := tk } := I.kept fun b o e => Heap.get?_push_of_some _ e
 refine ⟨(s.heap.push { cls := .type "range", data := .fields #[.int lo t, .int hi u, .int (-1) v] }).objs.size, [(s.heap.push { cls := .type "range", data := .fields #[.int lo t, .int hi u, .int (-1) v] }).objs.size], _, _, H, rfl,
  I1.kept (t' := tk) fun b o e => Heap.get?_push_of_some _ e, turn_down _ lo (lo - hi).toNat, ?_, fun b hb => ?_, q⟩
 ·have e1 : lo + ((0 : Nat) : Int) * (-1) = lo := by simp
  have e2 : (((lo - hi).toNat : Nat) : Int) - ((0 : Nat) : Int) = Builtin.Range.rangeSize lo hi (-1) := by rw [size_down]; split <;> lia
  show IsRangeIter _ _ (lo + ((0 : Nat) : Int) * (-1)) ((((lo - hi).toNat : Nat) : Int) - ((0 : Nat) : Int)) (-1)
  rw [e1, e2]
  exact Heap.get?_push_size _ rfl
 ·have e : b = (s.heap.push { cls := .type "range", data := .fields #[.int lo t, .int hi u, .int (-1) v] }).objs.size := by simpa using hb
  subst e
  exact I1.fpOk (Nat.le_refl _) (I1.hok.fresh (Nat.le_refl _))
def iRngD (ta : TA) : TI := fun σ H R => ta σ H fun vs H1 => ∃ i j : Int, vs = [.int i, .int j, .int (-1)] ∧ (-(2 ^ 61) ≤ i ∧ i < 2 ^ 61 ∧ -(2 ^ 61) ≤ j ∧ j < 2 ^ 61) ∧ R (Itd i (i - j).toNat) H1
theorem pi_rangeD {a b c : Expr} {ta : TA} {p pos : Pos} (hg : Gl X "range") (hm : X.mg "range" = none) (ha : PA X [a, b, c] ta) (hs : starEach [a, b, c] X.env = [(false, eval a X.env), (false, eval b X.env), (false, eval c X.env)] := by rfl) (hs2 : starEach [b, c] X.env = [(false, eval b X.env), (false, eval c X.env)] := by rfl) :
  PI X tg (.Call (.Name "range" p) [a, b, c] [] pos) (iRngD ta) := by
 intro pins s σ H R I h
 refine Call_ (ld_blt I hg hm boot_range (PyProof.Rows.callWith_type1 (thn (ha pos pins s σ H _ I h) fun us s1 z => el5 z fun vs H1 I1 r1 q1 => ?_) (by rw [hs, hs2]) (by rw [hs2]; rfl)))
 obtain ⟨i, j, e, ⟨q1, q2, q3, q4⟩, q⟩ := q1
 subst e
 cases r1 with
 | cons r rr =>
  cases rr with
  | cons r' rr =>
   cases rr with
   | cons r'' rr =>
    cases rr
    obtain ⟨t, rfl⟩ := r
    obtain ⟨t', rfl⟩ := r'
    obtain ⟨t'', rfl⟩ := r''
    exact call_range_3 (by decide) (range_itd I1 q1 q2 q3 q4 q)
end
end L2
namespace L2
open PySem PySem.Spec PyProof.Rows
section
variable {prog : Program} {w : World} {A : Around} {R : Result → Shared → Prop} {I : Addr} {fp wr : List Addr} {n : Nat} {P : Nat → Value → Prop} {St : Nat → Heap → Prop}
end
section
variable {X : Cx}
end
end L2
namespace L2
open PySem PySem.Spec PyProof.Rows
section
variable {prog : Program} {w : World} {A : Around} {R : Result → Shared → Prop} {I : Addr} {fp wr : List Addr} {n : Nat} {P : Nat → Value → Prop} {St : Nat → Heap → Prop}
end
section
variable {X : Cx}
def lowI (ns : List Int) (M : Int) : Prop := M ∈ ns ∧ ∀ n ∈ ns, M ≤ n
end
end L2
namespace My
open PySem L2
def Hd (H : Hp) (a l : Addr) : Prop := ∃ (ns : List Int) (p b c u v : Int), H l = some (.lst (ns.map V.int)) ∧ 0 ≤ p ∧ H a = some (.lst [.ref l, .int p, .int b, .int c, .int u, .int v])
def Kp (a : Addr) (H H' : Hp) : Prop := ∀ b o, H b = some o → b ≠ a → H' b = some o
theorem Kp.refl (a : Addr) (H : Hp) : Kp a H H := fun _ _ e _ => e
theorem Kp.trans {a : Addr} {H H1 H2 : Hp} (x : Kp a H H1) (y : Kp a H1 H2) : Kp a H H2 := fun b o e n => y b o (x b o e n) n
theorem ne_hand {H : Hp} {a l : Addr} {ns : List Int} {xs : List V} (hl : H l = some (.lst (ns.map V.int))) (ha : H a = some (.lst (.ref l :: xs))) : l ≠ a := ne_of hl ha (by
 intro e
 injection e with e
 cases ns with
 | nil => cases e
 | cons n r => injection e with e1; cases e1)
theorem Hd.at1 {H : Hp} {a l : Addr} (h : Hd H a l) : ∃ o, H a = some o := let ⟨_, _, _, _, _, _, _, _, e⟩ := h; ⟨_, e⟩
theorem Hd.at2 {H : Hp} {a l : Addr} (h : Hd H a l) : ∃ o, H l = some o := let ⟨_, _, _, _, _, _, e, _⟩ := h; ⟨_, e⟩
theorem Hd.ne {H : Hp} {a l p : Addr} (h : Hd H a l) (hp : H p = none) : p ≠ a ∧ p ≠ l := by
 obtain ⟨o, e⟩ := h.at1
 obtain ⟨o', e'⟩ := h.at2
 exact ⟨(ne_of_none e hp).symm, (ne_of_none e' hp).symm⟩
theorem Hd.wr {H : Hp} {a l p : Addr} {o : HO} (h : Hd H a l) (n1 : p ≠ a) (n2 : p ≠ l) : Hd (upd H p o) a l := by
 obtain ⟨ns, q, b, c, u, v, h1, h2, h3⟩ := h
 exact ⟨ns, q, b, c, u, v, by rw [upd_ne n2.symm]; exact h1, h2, by rw [upd_ne n1.symm]; exact h3⟩
theorem Hd.lay {H : Hp} {a l p : Addr} {o : HO} (h : Hd H a l) (hp : H p = none) : Hd (upd H p o) a l := h.wr (h.ne hp).1 (h.ne hp).2
theorem Hd.same {H H' : Hp} {a l : Addr} (h : Hd H a l) (s : Same H H') : Hd H' a l := by
 obtain ⟨ns, q, b, c, u, v, h1, h2, h3⟩ := h
 exact ⟨ns, q, b, c, u, v, s _ _ h1, h2, s _ _ h3⟩
theorem _root_.L2.Same.lay {p : Addr} {H H1 : Hp} {o : HO} (x : Same H H1) (h : H1 p = none) : Same H (upd H1 p o) := fun b u e => by
 have e1 := x b u e
 rw [upd_ne (ne_of_none e1 h)]; exact e1
theorem atI_ints {ns : List Int} {p : Int} (h0 : 0 ≤ p) (h1 : p < (ns.length : Int)) : ∃ z, atI (ns.map V.int) p = some (.int z) := by
 obtain ⟨n, rfl⟩ := Int.eq_ofNat_of_zero_le h0
 have hp : n < ns.length := by lia
 exact ⟨ns[n], atI_nat (by rw [List.getElem?_map, List.getElem?_eq_getElem hp]; rfl)⟩
def spHand (K : PySem.W.Frag) : Sp := fun vs H Q _ => ∃ (a : Addr) (ns : List Int), vs = [.ref a] ∧ SqL K H a (ns.map V.int) ∧ ∀ (p l : Addr) (H' : Hp), H p = none → H l = none → Hd H' p l → Same H H' → Q (.ref p) H'
def spNext : Sp := fun vs H Q _ => ∃ a l, vs = [.ref a] ∧ Hd H a l ∧ ∀ (r : Int) (H' : Hp), Hd H' a l → Kp a H H' → Q (.int r) H'
def spTake : Sp := fun vs H Q _ => ∃ a l, vs = [.ref a] ∧ Hd H a l ∧ ∀ (H' : Hp), Hd H' a l → Kp a H H' → Q .non H'
def spDraw : Sp := fun vs H Q _ => ∃ a l m, vs = [.ref a, .int m] ∧ Hd H a l ∧ 0 < m ∧ m < 100000000000000000000000000000000000000000000000000000000000000 ∧ ∀ (r : Int) (H' : Hp), 0 ≤ r → r < m → Hd H' a l → Kp a H H' → Q (.int r) H'
end My
namespace My
open PySem L2
def dEn (ks : List (List Int)) : List (List Key × V) := ks.map fun k => (k.map Sum.inl, V.bl true)
def dEm (ks : List (List Int × Int)) : List (List Key × V) := ks.map fun p => (p.1.map Sum.inl, V.int p.2)
def keyT (k : List Int) : PyData := .tuple (k.map PyData.int)
inductive DiU : HO → List (PyData × PyData) → Prop
 | t : DiU (.dT []) []
 | k (i j : Int) : DiU (.dK [(Sum.inl i, V.int j)]) [(.int i, .int j)]
 | f (o : Obj) (ks : List (List Int)) : DiU (.frz o (.dT (dEn ks))) ((.none, .none) :: ks.map fun k => (keyT k, .bool true))
mutual
inductive ThV (F : Addr → Prop) (H : Hp) : V → PyData → Prop
 | non : ThV F H .non .none
 | bl (b) : ThV F H (.bl b) (.bool b)
 | int (i) : ThV F H (.int i) (.int i)
 | str (x) : ThV F H (.str x) (.str x)
 | lst {a xs ds} : F a → H a = some (.lst xs) → ThVs F H xs ds → ThV F H (.ref a) (.list ds)
 | tup {a xs ds} : F a → H a = some (.tup xs) → ThVs F H xs ds → ThV F H (.ref a) (.tuple ds)
 | dic {a u kvs} : F a → H a = some u → DiU u kvs → ThV F H (.ref a) (.dict kvs)
inductive ThVs (F : Addr → Prop) (H : Hp) : List V → List PyData → Prop
 | nil : ThVs F H [] []
 | cons {x xs d ds} : ThV F H x d → ThVs F H xs ds → ThVs F H (x :: xs) (d :: ds)
end
mutual
theorem ThV.mv {F G : Addr → Prop} {H H' : Hp} (f : ∀ b o, F b → H b = some o → G b ∧ H' b = some o) : ∀ {v : V} {d : PyData}, ThV F H v d → ThV G H' v d
 | _, _, .non => .non
 | _, _, .bl b => .bl b
 | _, _, .int i => .int i
 | _, _, .str x => .str x
 | _, _, .lst n e t => .lst (f _ _ n e).1 (f _ _ n e).2 (ThVs.mv f t)
 | _, _, .tup n e t => .tup (f _ _ n e).1 (f _ _ n e).2 (ThVs.mv f t)
 | _, _, .dic n e t => .dic (f _ _ n e).1 (f _ _ n e).2 t
theorem ThVs.mv {F G : Addr → Prop} {H H' : Hp} (f : ∀ b o, F b → H b = some o → G b ∧ H' b = some o) : ∀ {vs : List V} {ds : List PyData}, ThVs F H vs ds → ThVs G H' vs ds
 | _, _, .nil => .nil
 | _, _, .cons x t => .cons (ThV.mv f x) (ThVs.mv f t)
end
theorem ThVs.same {F : Addr → Prop} {H H' : Hp} {v : List V} {d : List PyData} (t : ThVs F H v d) (s : Same H H') : ThVs F H' v d := t.mv fun b o z e => ⟨z, s b o e⟩
theorem ThVs.append {F : Addr → Prop} {H : Hp} {xs : List V} {ds : List PyData} {ys : List V} {es : List PyData} (t : ThVs F H xs ds) (y : ThVs F H ys es) : ThVs F H (xs ++ ys) (ds ++ es) := by
 induction xs generalizing ds with
 | nil => cases t; exact y
 | cons v xs ih =>
  cases t with
  | cons x t => exact .cons x (ih t)
theorem ThVs.len {F : Addr → Prop} {H : Hp} {xs : List V} {ds : List PyData} (t : ThVs F H xs ds) : xs.length = ds.length := by
 induction xs generalizing ds with
 | nil => cases t; rfl
 | cons v xs ih =>
  cases t with
  | cons x t => rw [List.length_cons, List.length_cons, ih t]
theorem ThVs.get {F : Addr → Prop} {H : Hp} : ∀ {xs : List V} {ds : List PyData} {i : Nat} {v : V}, ThVs F H xs ds → xs[i]? = some v → ∃ d, ds[i]? = some d ∧ ThV F H v d
 | _, _, _, _, .nil, e => by simp at e
 | _, _, 0, v, .cons (d := d) x _, e => by
  have e' := Option.some.inj e
  subst e'
  exact ⟨d, rfl, x⟩
 | _, _, i + 1, v, .cons _ t, e => ThVs.get (i := i) t e
theorem ThVs.at {F : Addr → Prop} {H : Hp} : ∀ {xs : List V} {ds : List PyData} {i : Nat} {d : PyData}, ThVs F H xs ds → ds[i]? = some d → ∃ v, xs[i]? = some v ∧ ThV F H v d
 | _, _, _, _, .nil, e => by simp at e
 | _, _, 0, d, .cons (x := v) x _, e => by
  have e' := Option.some.inj e
  subst e'
  exact ⟨v, rfl, x⟩
 | _, _, i + 1, v, .cons _ t, e => ThVs.at (i := i) t e
mutual
theorem ThV.dat {K : PySem.W.Frag} {F : Addr → Prop} {H : Hp} : ∀ {v : V} {d : PyData}, ThV F H v d → d.canLay0 = true → DatV K H v d
 | _, _, .non, _ => .non
 | _, _, .bl b, _ => .bl b
 | _, _, .int i, _ => .int i
 | _, _, .str x, _ => .str x
 | _, _, .lst _ e t, h => .lst (SqL.of e) (ThVs.dat t (by rw [PyData.canLay0] at h; exact h))
 | _, _, .tup _ e t, h => .tup (SqT.of e) (ThVs.dat t (by rw [PyData.canLay0] at h; exact h))
 | _, _, .dic _ _ _, h => by rw [PyData.canLay0] at h; cases h
theorem ThVs.dat {K : PySem.W.Frag} {F : Addr → Prop} {H : Hp} : ∀ {vs : List V} {ds : List PyData}, ThVs F H vs ds → PyData.canLayAll0 ds = true → DatVs K H vs ds
 | _, _, .nil, _ => .nil
 | _, _, .cons x t, h => by
  rw [PyData.canLayAll0, Bool.and_eq_true] at h
  exact .cons (ThV.dat x h.1) (ThVs.dat t h.2)
end
end My
namespace My
open PySem L2
structure DC where
 F : Addr → Prop
 hand : Option (Addr × Addr)
 H0 : Hp
def Kq (h : Option (Addr × Addr)) (H H' : Hp) : Prop := ∀ b o, H b = some o → (∀ q, h = some q → b ≠ q.1) → H' b = some o
def Hq (h : Option (Addr × Addr)) (H : Hp) : Prop := ∀ q, h = some q → Hd H q.1 q.2
section
variable {h : Option (Addr × Addr)} {H H1 H2 H' : Hp} {p : Addr} {o : HO}
theorem Kq.refl : Kq h H H := fun _ _ e _ => e
theorem Kq.trans (a : Kq h H H1) (b : Kq h H1 H2) : Kq h H H2 := fun c o e n => b c o (a c o e n) n
theorem Kq.same (s : Same H H') : Kq h H H' := fun b o e _ => s b o e
theorem Kq.fr {b : Addr} (k : Kq h H H') (q : Hq h H') (e : H' b = none) : H b = none := by
 cases z : H b with
 | none => rfl
 | some o =>
  by_cases c : ∀ p, h = some p → b ≠ p.1
  ·rw [k b o z c] at e; cases e
  ·refine absurd (fun p hp hb => ?_) c
   obtain ⟨o', e'⟩ := (q p hp).at1
   rw [hb, e'] at e; cases e
theorem Kq.lay (hp : H p = none) : Kq h H (upd H p o) := Kq.same ((Same.refl H).lay hp)
theorem Hq.lay (q : Hq h H) (hp : H p = none) : Hq h (upd H p o) := fun z hz => (q z hz).lay hp
theorem Hq.same (q : Hq h H) (s : Same H H') : Hq h H' := fun z hz => (q z hz).same s
end
inductive Rws (G F : Addr → Prop) (H : Hp) : List Addr → List (List PyData) → Prop
 | nil : Rws G F H [] []
 | cons {b vs as ds dss} : G b → H b = some (.lst vs) → ThVs F H vs ds → Rws G F H as dss → Rws G F H (b :: as) (ds :: dss)
theorem Rws.mv {G F G' F' : Addr → Prop} {H H' : Hp} {as : List Addr} {dss : List (List PyData)} (t : Rws G F H as dss) (f : ∀ b o, F b → H b = some o → F' b ∧ H' b = some o) (g : ∀ b o, G b → H b = some o → G' b ∧ H' b = some o) : Rws G' F' H' as dss := by
 induction t with
 | nil => exact .nil
 | cons x e y _ ih => exact .cons (g _ _ x e).1 (g _ _ x e).2 (y.mv f) ih
theorem Rws.mvl {G F G' F' : Addr → Prop} {H H' : Hp} {as : List Addr} {dss : List (List PyData)} (t : Rws G F H as dss) (f : ∀ b o, F b → H b = some o → F' b ∧ H' b = some o) (g : ∀ b ys, G b → H b = some (.lst ys) → G' b ∧ H' b = some (.lst ys)) : Rws G' F' H' as dss := by
 induction t with
 | nil => exact .nil
 | cons x e y _ ih => exact .cons (g _ _ x e).1 (g _ _ x e).2 (y.mv f) ih
theorem Rws.len {G F : Addr → Prop} {H : Hp} {as : List Addr} {dss : List (List PyData)} (t : Rws G F H as dss) : as.length = dss.length := by
 induction t with
 | nil => rfl
 | cons _ _ _ _ ih => rw [List.length_cons, List.length_cons, ih]
theorem Rws.at {G F : Addr → Prop} {H : Hp} {as : List Addr} {dss : List (List PyData)} (t : Rws G F H as dss) {k : Nat} {ds : List PyData} (h : dss[k]? = some ds) : ∃ b vs, as[k]? = some b ∧ G b ∧ H b = some (.lst vs) ∧ ThVs F H vs ds := by
 induction t generalizing k with
 | nil => simp at h
 | @cons b vs as ds' dss x e y _ ih =>
  cases k with
  | zero =>
   have h' : some ds' = some ds := h
   cases h'
   exact ⟨b, vs, rfl, x, e, y⟩
  | succ k => exact ih h
theorem Rws.mem {G F : Addr → Prop} {H : Hp} {as : List Addr} {dss : List (List PyData)} (t : Rws G F H as dss) {b : Addr} (h : b ∈ as) : G b ∧ ∃ vs, H b = some (.lst vs) := by
 induction t with
 | nil => cases h
 | cons x e y _ ih =>
  rcases List.mem_cons.mp h with rfl | h
  ·exact ⟨x, _, e⟩
  ·exact ih h
theorem Rws.snoc {G F : Addr → Prop} {H : Hp} {as : List Addr} {dss : List (List PyData)} {b : Addr} {vs : List V} {ds : List PyData} (t : Rws G F H as dss) (x : G b) (e : H b = some (.lst vs)) (y : ThVs F H vs ds) : Rws G F H (as ++ [b]) (dss ++ [ds]) := by
 induction t with
 | nil => exact .cons x e y .nil
 | cons x' e' y' _ ih => exact .cons x' e' y' ih
def DiAt (H : Hp) (a : Addr) (ks : List (List Int)) : Bool → Prop
 | false => H a = some (.dT (dEn ks))
 | true => ∃ o, H a = some (.frz o (.dT (dEn ks)))
theorem DiAt.mv {H H' : Hp} {a : Addr} {ks : List (List Int)} {f : Bool} (h : DiAt H a ks f) (k : ∀ o, H a = some o → H' a = some o) : DiAt H' a ks f := by
 cases f with
 | false => exact k _ h
 | true => obtain ⟨o, h⟩ := h; exact ⟨o, k _ h⟩
theorem DiAt.ne {H : Hp} {a : Addr} {ks : List (List Int)} {f : Bool} (h : DiAt H a ks f) : H a ≠ none := by
 cases f with
 | false => exact fun q => by rw [show H a = _ from h] at q; cases q
 | true => obtain ⟨o, h⟩ := h; exact fun q => by rw [h] at q; cases q
def DmAt (H : Hp) (a : Addr) (ks : List (List Int × Int)) : Bool → Prop
 | false => H a = some (.dT (dEm ks))
 | true => ∃ o, H a = some (.frz o (.dT (dEm ks)))
theorem DmAt.mv {H H' : Hp} {a : Addr} {ks : List (List Int × Int)} {f : Bool} (h : DmAt H a ks f) (k : ∀ o, H a = some o → H' a = some o) : DmAt H' a ks f := by
 cases f with
 | false => exact k _ h
 | true => obtain ⟨o, h⟩ := h; exact ⟨o, k _ h⟩
theorem DmAt.ne {H : Hp} {a : Addr} {ks : List (List Int × Int)} {f : Bool} (h : DmAt H a ks f) : H a ≠ none := by
 cases f with
 | false => exact fun q => by rw [show H a = _ from h] at q; cases q
 | true => obtain ⟨o, h⟩ := h; exact fun q => by rw [h] at q; cases q
inductive Sl where
 | no
 | sh (d : PyData)
 | ow (ds : List PyData)
 | bo (ds : List PyData)
 | hd
 | o2 (dss : List (List PyData))
 | b2 (dss : List (List PyData))
 | di (f : Bool) (ks : List (List Int))
 | dm (f : Bool) (kvs : List (List Int × Int))
 | bd (d : PyData)
 | ot (d : PyData)
abbrev Z (col : Addr → Nat) : Addr → Prop := fun b => col b = 0
abbrev Le (C : DC) : Addr → Prop := fun b => C.H0 b ≠ none ∧ ∀ q, C.hand = some q → b ≠ q.1
abbrev Ow (C : DC) (col : Addr → Nat) (H : Hp) (i : Nat) : Addr → Prop := fun b => (col b = 2 * i + 3 ∧ C.H0 b = none) ∨ (col b = 0 ∧ ∃ xs, H b = some (.tup xs))
def SlR (C : DC) (col : Addr → Nat) (H : Hp) (i : Nat) (o : Option V) : Sl → Prop
 | .no => True
 | .sh d => ∃ v, o = some v ∧ ThV (Z col) H v d
 | .ow ds => ∃ a vs, o = some (.ref a) ∧ col a = 2 * i + 3 ∧ C.H0 a = none ∧ H a = some (.lst vs) ∧ ThVs (Z col) H vs ds
 | .bo ds => ∃ a vs, o = some (.ref a) ∧ col a ≤ 1 ∧ (∀ q, C.hand = some q → a ≠ q.1) ∧ H a = some (.lst vs) ∧ ThVs (Z col) H vs ds
 | .hd => ∃ q, C.hand = some q ∧ o = some (.ref q.1)
 | .o2 dss => ∃ a as, o = some (.ref a) ∧ (col a = 2 * i + 3 ∧ C.H0 a = none) ∧ H a = some (.lst (as.map V.ref)) ∧ (a :: as).Nodup ∧ Rws (fun b => col b = 2 * i + 3 ∧ C.H0 b = none) (Z col) H as dss
 | .b2 dss => ∃ a as, o = some (.ref a) ∧ (col a ≤ 1 ∧ ∀ q, C.hand = some q → a ≠ q.1) ∧ H a = some (.lst (as.map V.ref)) ∧ Rws (fun b => col b ≤ 1 ∧ ∀ q, C.hand = some q → b ≠ q.1) (Z col) H as dss
 | .di f ks => ∃ a, o = some (.ref a) ∧ col a = 2 * i + 3 ∧ C.H0 a = none ∧ DiAt H a ks f
 | .dm f ks => ∃ a, o = some (.ref a) ∧ col a = 2 * i + 3 ∧ C.H0 a = none ∧ DmAt H a ks f
 | .bd d => ∃ v, o = some v ∧ ThV (Le C) C.H0 v d
 | .ot d => ∃ v, o = some v ∧ ThV (Ow C col H i) H v d
inductive Pe where
 | v (v : V) (d : PyData)
 | n (a : Addr) (o : HO)
 | s (vs : List V) (ds : List PyData)
 | o (c : Nat) (as : List Addr) (dss : List (List PyData))
 | w (v : V) (d : PyData)
def PeR (C : DC) (col : Addr → Nat) (H : Hp) : Pe → Prop
 | .v v d => ThV (Z col) H v d
 | .n a o => col a ≤ 1 ∧ (∀ q, C.hand = some q → a ≠ q.1) ∧ H a = some o
 | .s vs ds => ThVs (Z col) H vs ds
 | .o c as dss => as.Nodup ∧ Rws (fun b => col b = 2 * c + 2 ∧ C.H0 b = none) (Z col) H as dss
 | .w v d => ThV (Le C) C.H0 v d
structure RelC (C : DC) (col : Addr → Nat) (ρ : List Sl) (σ : St) (P : List Pe) (H : Hp) : Prop where
 fresh : ∀ b, H b = none → col b = 0
 inF : ∀ b, col b = 0 → C.F b
 hnd : ∀ q, C.hand = some q → col q.1 = 1
 sl : ∀ i s, ρ[i]? = some s → SlR C col H i (σ[i]?).join s
 pd : ∀ p ∈ P, PeR C col H p
 kq : Kq C.hand C.H0 H
 hq : Hq C.hand H
 hq0 : Hq C.hand C.H0
 nf : (∀ b, C.H0 b = none → C.F b) ∧ ∀ b xs, C.H0 b = some (.tup xs) → C.F b
 len : ρ.length = σ.length
def Rel (C : DC) (ρ : List Sl) (σ : St) (P : List Pe) (H : Hp) : Prop := ∃ col, RelC C col ρ σ P H
section
variable {C : DC} {col col' : Addr → Nat} {ρ : List Sl} {σ : St} {P P' : List Pe} {H H' : Hp} {v : V} {d : PyData} {o : HO} {p : Addr}
theorem RelC.notH (r : RelC C col ρ σ P H) {b : Addr} (hb : col b ≠ 1) : ∀ q, C.hand = some q → b ≠ q.1 := fun q hq e => hb (e ▸ r.hnd q hq)
theorem RelC.mv (r : RelC C col ρ σ P H) (k : Kq C.hand H H') (q : Hq C.hand H') : RelC C col ρ σ P H' := by
 have mv0 : ∀ b o, Z col b → H b = some o → Z col b ∧ H' b = some o := fun b o z e => ⟨z, k b o e (r.notH (by rw [show col b = 0 from z]; decide))⟩
 refine ⟨fun b e => r.fresh b (k.fr q e), r.inF, r.hnd, fun i s e => ?_, fun p hp => ?_, r.kq.trans k, q, r.hq0, r.nf, r.len⟩
 ·have h := r.sl i s e
  cases s with
  | no => trivial
  | sh d => obtain ⟨v, e1, t⟩ := h; exact ⟨v, e1, t.mv mv0⟩
  | ow ds => obtain ⟨a, vs, e1, c, n, e2, t⟩ := h; exact ⟨a, vs, e1, c, n, k a _ e2 (r.notH (by lia)), t.mv mv0⟩
  | bo ds => obtain ⟨a, vs, e1, c, n, e2, t⟩ := h; exact ⟨a, vs, e1, c, n, k a _ e2 n, t.mv mv0⟩
  | hd => exact h
  | o2 dss => obtain ⟨a, as, e1, c, e2, nd, t⟩ := h; exact ⟨a, as, e1, c, k a _ e2 (r.notH (by lia)), nd, t.mv mv0 fun b o g e => ⟨g, k b o e (r.notH (by have := g.1; lia))⟩⟩
  | b2 dss => obtain ⟨a, as, e1, c, e2, t⟩ := h; exact ⟨a, as, e1, c, k a _ e2 c.2, t.mv mv0 fun b o g e => ⟨g, k b o e g.2⟩⟩
  | di f ks => obtain ⟨a, e1, c, n, e2⟩ := h; exact ⟨a, e1, c, n, e2.mv fun o e => k a o e (r.notH (by lia))⟩
  | dm f ks => obtain ⟨a, e1, c, n, e2⟩ := h; exact ⟨a, e1, c, n, e2.mv fun o e => k a o e (r.notH (by lia))⟩
  | bd d => exact h
  | ot d =>
   obtain ⟨v, e1, t⟩ := h
   refine ⟨v, e1, t.mv fun b o g e => ?_⟩
   have e' : H' b = some o := k b o e (r.notH (by rcases g with g | g <;> (have := g.1; lia)))
   exact ⟨g.imp id fun ⟨c, xs, z⟩ => ⟨c, xs, by rw [e] at z; rw [e']; exact z⟩, e'⟩
 ·have h := r.pd p hp
  cases p with
  | v v d => exact ThV.mv mv0 h
  | n a o => exact ⟨h.1, h.2.1, k a o h.2.2 h.2.1⟩
  | s vs ds => exact ThVs.mv mv0 h
  | o c as dss => exact ⟨h.1, h.2.mv mv0 fun b o g e => ⟨g, k b o e (r.notH (by have := g.1; lia))⟩⟩
  | w v d => exact h
theorem RelC.lay (r : RelC C col ρ σ P H) (hp : H p = none) : RelC C col ρ σ P (upd H p o) := r.mv (Kq.lay hp) (r.hq.lay hp)
theorem RelC.add (r : RelC C col ρ σ P H) {x : Pe} (t : PeR C col H x) : RelC C col ρ σ (x :: P) H :=
 { r with pd := fun p hp => (List.mem_cons.mp hp).elim (fun e => e ▸ t) (r.pd p) }
theorem RelC.push (r : RelC C col ρ σ P H) (t : ThV (Z col) H v d) : RelC C col ρ σ (.v v d :: P) H := r.add t
theorem RelC.sub (r : RelC C col ρ σ P H) (h : ∀ p ∈ P', p ∈ P) : RelC C col ρ σ P' H := { r with pd := fun p hp => r.pd p (h p hp) }
theorem Rel.sub (r : Rel C ρ σ P H) (h : ∀ p ∈ P', p ∈ P) : Rel C ρ σ P' H := let ⟨c, r⟩ := r; ⟨c, r.sub h⟩
theorem Rel.pop {x : Pe} (r : Rel C ρ σ (x :: P) H) : Rel C ρ σ P H := r.sub fun _ h => List.mem_cons_of_mem _ h
theorem RelC.tup {vs : List V} {ds : List PyData} (r : RelC C col ρ σ P H) (t : ThVs (Z col) H vs ds) (hp : H p = none) : RelC C col ρ σ (.v (.ref p) (.tuple ds) :: P) (upd H p (.tup vs)) :=
 (r.lay hp).push (.tup (r.fresh p hp) upd_same (t.same ((Same.refl H).lay hp)))
theorem RelC.lst {vs : List V} {ds : List PyData} (r : RelC C col ρ σ P H) (t : ThVs (Z col) H vs ds) (hp : H p = none) : RelC C col ρ σ (.v (.ref p) (.list ds) :: P) (upd H p (.lst vs)) :=
 (r.lay hp).push (.lst (r.fresh p hp) upd_same (t.same ((Same.refl H).lay hp)))
theorem RelC.recol (r : RelC C col ρ σ P H) {ρ' : List Sl} {σ' : St} (hl : ρ'.length = σ'.length) (f : ∀ b, H b = none → col' b = 0) (i : ∀ b, col' b = 0 → C.F b) (n : ∀ q, C.hand = some q → col' q.1 = 1) (z : ∀ b, col b = 0 → H b ≠ none → col' b = 0)
  (lo : ∀ b, col b ≤ 1 → H b ≠ none → col' b ≤ 1) (c2 : ∀ b c, col b = 2 * c + 2 → col' b = 2 * c + 2) (s : ∀ i s, ρ'[i]? = some s → SlR C col' H i (σ'[i]?).join s) : RelC C col' ρ' σ' P H := by
 have mv0 : ∀ b o, Z col b → H b = some o → Z col' b ∧ H b = some o := fun b o zz e => ⟨z b zz (by rw [e]; exact fun q => nomatch q), e⟩
 refine ⟨f, i, n, s, fun p hp => ?_, r.kq, r.hq, r.hq0, r.nf, hl⟩
 have h := r.pd p hp
 cases p with
 | v v d => exact ThV.mv mv0 h
 | n a o => exact ⟨lo a h.1 (by rw [h.2.2]; exact fun q => nomatch q), h.2⟩
 | s vs ds => exact ThVs.mv mv0 h
 | o c as dss => exact ⟨h.1, h.2.mv mv0 fun b o g e => ⟨⟨c2 b c g.1, g.2⟩, e⟩⟩
 | w v d => exact h
theorem RelC.freeze {i : Nat} {ds : List PyData} (r : RelC C col ρ σ P H) (e : ρ[i]? = some (.ow ds)) :
  ∃ a, (σ[i]?).join = some (.ref a) ∧ Rel C (ρ.set i (.sh (.list ds))) σ (.v (.ref a) (.list ds) :: P) H := by
 obtain ⟨a, vs, e1, c, n, e2, t⟩ := r.sl i _ e
 let col' : Addr → Nat := fun b => if b = a then 0 else col b
 have ca : col' a = 0 := if_pos rfl
 have cn : ∀ b, b ≠ a → col' b = col b := fun b hb => if_neg hb
 have z : ∀ b, col b = 0 → col' b = 0 := fun b hb => by
  by_cases q : b = a
  ·rw [q]; exact ca
  ·rw [cn b q]; exact hb
 have mv0 : ∀ b o, Z col b → H b = some o → Z col' b ∧ H b = some o := fun b o zz e => ⟨z b zz, e⟩
 have T : ThV (Z col') H (.ref a) (.list ds) := .lst ca e2 (t.mv mv0)
 have R : RelC C col' (ρ.set i (.sh (.list ds))) σ P H := by
  refine r.recol (by rw [List.length_set]; exact r.len) (fun b hb => z b (r.fresh b hb)) (fun b hb => ?_) (fun q hq => ?_) (fun b hb _ => z b hb) (fun b hb _ => ?_) (fun b c2 hb => by rw [cn b (fun q => by rw [q] at hb; lia)]; exact hb) fun j s es => ?_
  ·by_cases q : b = a
   ·rw [q]; exact r.nf.1 a n
   ·rw [cn b q] at hb; exact r.inF b hb
  ·rw [cn _ fun q' => by have := r.hnd q hq; rw [q'] at this; lia]; exact r.hnd q hq
  ·by_cases q : b = a
   ·rw [q, ca]; lia
   ·rw [cn b q]; exact hb
  ·by_cases hj : j = i
   ·subst hj
    rw [List.getElem?_set] at es
    simp only [if_true] at es
    split at es
    ·cases es; exact ⟨_, e1, T⟩
    ·cases es
   ·rw [List.getElem?_set_ne (Ne.symm hj)] at es
    have h := r.sl j s es
    cases s with
    | no => trivial
    | sh d => obtain ⟨v, e1, t⟩ := h; exact ⟨v, e1, t.mv mv0⟩
    | ow ds => obtain ⟨a', vs', e1', c', n', e2', t'⟩ := h; exact ⟨a', vs', e1', by rw [cn a' (fun q => by rw [q] at c'; lia)]; exact c', n', e2', t'.mv mv0⟩
    | bo ds => obtain ⟨a', vs', e1', c', n', e2', t'⟩ := h; exact ⟨a', vs', e1', by by_cases q : a' = a; { rw [q, ca]; lia }; { rw [cn a' q]; exact c' }, n', e2', t'.mv mv0⟩
    | hd => exact h
    | o2 dss => obtain ⟨a', as', e1', c', e2', nd', t'⟩ := h; exact ⟨a', as', e1', ⟨by rw [cn a' (fun q => by rw [q] at c'; lia)]; exact c'.1, c'.2⟩, e2', nd', t'.mv mv0 fun b o g e => ⟨⟨by rw [cn b (fun q => by have := g.1; rw [q] at this; lia)]; exact g.1, g.2⟩, e⟩⟩
    | b2 dss => obtain ⟨a', as', e1', c', e2', t'⟩ := h; exact ⟨a', as', e1', ⟨by by_cases q : a' = a; { rw [q, ca]; lia }; { rw [cn a' q]; exact c'.1 }, c'.2⟩, e2', t'.mv mv0 fun b o g e => ⟨⟨by by_cases q : b = a; { rw [q, ca]; lia }; { rw [cn b q]; exact g.1 }, g.2⟩, e⟩⟩
    | di f ks => obtain ⟨a', e1', c', n', e2'⟩ := h; exact ⟨a', e1', by rw [cn a' (fun q => by rw [q] at c'; lia)]; exact c', n', e2'⟩
    | dm f ks => obtain ⟨a', e1', c', n', e2'⟩ := h; exact ⟨a', e1', by rw [cn a' (fun q => by rw [q] at c'; lia)]; exact c', n', e2'⟩
    | bd d => exact h
    | ot d => obtain ⟨v, e1', t'⟩ := h; exact ⟨v, e1', t'.mv fun b o g e => ⟨g.imp (fun g => ⟨by rw [cn b (fun q => by rw [q] at g; have := g.1; lia)]; exact g.1, g.2⟩) fun g => ⟨z b g.1, g.2⟩, e⟩⟩
 exact ⟨a, e1, col', R.push T⟩
theorem RelC.store {i : Nat} (r : RelC C col ρ σ P H) (t : ThV (Z col) H v d) : RelC C col (ρ.set i (.sh d)) (σ.set i (some v)) P H := by
 refine { r with sl := fun j s es => ?_, len := by rw [List.length_set, List.length_set]; exact r.len }
 by_cases hj : j = i
 ·subst hj
  rw [List.getElem?_set] at es
  simp only [if_true] at es
  split at es
  ·rename_i hl
   cases es
   refine ⟨v, ?_, t⟩
   rw [List.getElem?_set, if_pos rfl, if_pos (by rw [← r.len]; exact hl)]; rfl
  ·cases es
 ·rw [List.getElem?_set_ne (Ne.symm hj)] at es
  rw [List.getElem?_set_ne (Ne.symm hj)]
  exact r.sl j s es
theorem RelC.own {i : Nat} {vs : List V} {ds : List PyData} (r : RelC C col ρ σ P H) (t : ThVs (Z col) H vs ds) (hp : H p = none) : Rel C (ρ.set i (.ow ds)) (σ.set i (some (.ref p))) P (upd H p (.lst vs)) := by
 let col' : Addr → Nat := fun b => if b = p then 2 * i + 3 else col b
 have ca : col' p = 2 * i + 3 := if_pos rfl
 have cn : ∀ b, b ≠ p → col' b = col b := fun b hb => if_neg hb
 have ne : ∀ b, H b ≠ none → b ≠ p := fun b hb q => hb (q ▸ hp)
 have mv0 : ∀ b o, Z col b → H b = some o → Z col' b ∧ upd H p (.lst vs) b = some o := fun b o zz e => by
  have q := ne b (by rw [e]; exact fun q => nomatch q)
  exact ⟨(cn b q).trans zz, by rw [upd_ne q]; exact e⟩
 have r1 := r.lay (o := .lst vs) hp
 have c0 : C.H0 p = none := r.kq.fr r.hq hp
 refine ⟨col', fun b hb => ?_, fun b hb => ?_, fun q hq => ?_, fun j s es => ?_, fun x hx => ?_, r1.kq, r1.hq, r.hq0, r.nf, by rw [List.length_set, List.length_set]; exact r.len⟩
 ·have q : b ≠ p := fun q => by rw [q, upd_same] at hb; cases hb
  rw [cn b q]; exact r1.fresh b hb
 ·have q : b ≠ p := fun q => by rw [q, ca] at hb; cases hb
  rw [cn b q] at hb; exact r.inF b hb
 ·obtain ⟨o', e'⟩ := (r.hq q hq).at1
  rw [cn _ (ne _ (by rw [e']; exact fun q => nomatch q))]; exact r.hnd q hq
 ·by_cases hj : j = i
  ·subst hj
   rw [List.getElem?_set] at es
   simp only [if_true] at es
   split at es
   ·rename_i hl
    cases es
    exact ⟨p, vs, by rw [List.getElem?_set, if_pos rfl, if_pos (by rw [← r.len]; exact hl)]; rfl, ca, c0, upd_same, t.mv mv0⟩
   ·cases es
  ·rw [List.getElem?_set_ne (Ne.symm hj)] at es
   rw [List.getElem?_set_ne (Ne.symm hj)]
   have h := r.sl j s es
   cases s with
   | no => trivial
   | sh d => obtain ⟨v, e1, t⟩ := h; exact ⟨v, e1, t.mv mv0⟩
   | ow ds =>
    obtain ⟨a', vs', e1', c', n', e2', t'⟩ := h
    have q := ne a' (by rw [e2']; exact fun q => nomatch q)
    exact ⟨a', vs', e1', by rw [cn a' q]; exact c', n', by rw [upd_ne q]; exact e2', t'.mv mv0⟩
   | bo ds =>
    obtain ⟨a', vs', e1', c', n', e2', t'⟩ := h
    have q := ne a' (by rw [e2']; exact fun q => nomatch q)
    exact ⟨a', vs', e1', by rw [cn a' q]; exact c', n', by rw [upd_ne q]; exact e2', t'.mv mv0⟩
   | hd => exact h
   | o2 dss =>
    obtain ⟨a', as', e1', c', e2', nd', t'⟩ := h
    have q := ne a' (by rw [e2']; exact fun q => nomatch q)
    exact ⟨a', as', e1', ⟨by rw [cn a' q]; exact c'.1, c'.2⟩, by rw [upd_ne q]; exact e2', nd', t'.mv mv0 fun b o g e => by
     have q := ne b (by rw [e]; exact fun q => nomatch q)
     exact ⟨⟨by rw [cn b q]; exact g.1, g.2⟩, by rw [upd_ne q]; exact e⟩⟩
   | b2 dss =>
    obtain ⟨a', as', e1', c', e2', t'⟩ := h
    have q := ne a' (by rw [e2']; exact fun q => nomatch q)
    exact ⟨a', as', e1', ⟨by rw [cn a' q]; exact c'.1, c'.2⟩, by rw [upd_ne q]; exact e2', t'.mv mv0 fun b o g e => by
     have q := ne b (by rw [e]; exact fun q => nomatch q)
     exact ⟨⟨by rw [cn b q]; exact g.1, g.2⟩, by rw [upd_ne q]; exact e⟩⟩
   | di f ks =>
    obtain ⟨a', e1', c', n', e2'⟩ := h
    have q := ne a' e2'.ne
    exact ⟨a', e1', by rw [cn a' q]; exact c', n', e2'.mv fun o e => by rw [upd_ne q]; exact e⟩
   | dm f ks =>
    obtain ⟨a', e1', c', n', e2'⟩ := h
    have q := ne a' e2'.ne
    exact ⟨a', e1', by rw [cn a' q]; exact c', n', e2'.mv fun o e => by rw [upd_ne q]; exact e⟩
   | bd d => exact h
   | ot d =>
    obtain ⟨v, e1', t'⟩ := h
    exact ⟨v, e1', t'.mv fun b o g e => by
     have q := ne b (by rw [e]; exact fun q => nomatch q)
     exact ⟨g.imp (fun g => ⟨by rw [cn b q]; exact g.1, g.2⟩) fun g => ⟨by rw [cn b q]; exact g.1, by rw [upd_ne q]; exact g.2⟩, by rw [upd_ne q]; exact e⟩⟩
 ·have h := r.pd x hx
  cases x with
  | v v d => exact ThV.mv mv0 h
  | n a o =>
   have q := ne a (by rw [h.2.2]; exact fun q => nomatch q)
   exact ⟨by rw [cn a q]; exact h.1, h.2.1, by rw [upd_ne q]; exact h.2.2⟩
  | s vs ds => exact ThVs.mv mv0 h
  | o c as dss => exact ⟨h.1, h.2.mv mv0 fun b o g e => by
    have q := ne b (by rw [e]; exact fun q => nomatch q)
    exact ⟨⟨by rw [cn b q]; exact g.1, g.2⟩, by rw [upd_ne q]; exact e⟩⟩
  | w v d => exact h
theorem RelC.write {i : Nat} {a : Addr} {ws : List V} {ds es : List PyData} (r : RelC C col ρ σ P H) (e : ρ[i]? = some (.ow ds)) (ea : (σ[i]?).join = some (.ref a)) (t : ThVs (Z col) H ws es) :
  RelC C col (ρ.set i (.ow es)) σ P (upd H a (.lst ws)) := by
 obtain ⟨a', vs', e1, c, n, e2, _⟩ := r.sl i _ e
 rw [e1] at ea
 cases ea
 have ne : ∀ b, col b ≠ 2 * i + 3 → b ≠ a := fun b hb q => hb (q ▸ c)
 have mv0 : ∀ b o, Z col b → H b = some o → Z col b ∧ upd H a (.lst ws) b = some o := fun b o zz e => ⟨zz, by rw [upd_ne (ne b (by rw [show col b = 0 from zz]; lia))]; exact e⟩
 refine ⟨fun b hb => ?_, r.inF, r.hnd, fun j s es' => ?_, fun x hx => ?_, fun b o e q => ?_, fun q hq => ?_, r.hq0, r.nf, by rw [List.length_set]; exact r.len⟩
 ·by_cases q : b = a
  ·rw [q, upd_same] at hb; cases hb
  ·rw [upd_ne q] at hb; exact r.fresh b hb
 ·by_cases hj : j = i
  ·subst hj
   rw [List.getElem?_set] at es'
   simp only [if_true] at es'
   split at es'
   ·cases es'
    exact ⟨a, ws, e1, c, n, upd_same, t.mv mv0⟩
   ·cases es'
  ·rw [List.getElem?_set_ne (Ne.symm hj)] at es'
   have h := r.sl j s es'
   cases s with
   | no => trivial
   | sh d => obtain ⟨v, e1, t⟩ := h; exact ⟨v, e1, t.mv mv0⟩
   | ow ds =>
    obtain ⟨a', vs', e1', c', n', e2', t'⟩ := h
    exact ⟨a', vs', e1', c', n', by rw [upd_ne (ne a' (by lia))]; exact e2', t'.mv mv0⟩
   | bo ds =>
    obtain ⟨a', vs', e1', c', n', e2', t'⟩ := h
    exact ⟨a', vs', e1', c', n', by rw [upd_ne (ne a' (by lia))]; exact e2', t'.mv mv0⟩
   | hd => exact h
   | o2 dss =>
    obtain ⟨a', as', e1', c', e2', nd', t'⟩ := h
    exact ⟨a', as', e1', c', by rw [upd_ne (ne a' (by lia))]; exact e2', nd', t'.mv mv0 fun b o g e => ⟨g, by rw [upd_ne (ne b (by have := g.1; lia))]; exact e⟩⟩
   | b2 dss =>
    obtain ⟨a', as', e1', c', e2', t'⟩ := h
    exact ⟨a', as', e1', c', by rw [upd_ne (ne a' (by have := c'.1; lia))]; exact e2', t'.mv mv0 fun b o g e => ⟨g, by rw [upd_ne (ne b (by have := g.1; lia))]; exact e⟩⟩
   | di f ks =>
    obtain ⟨a', e1', c', n', e2'⟩ := h
    exact ⟨a', e1', c', n', e2'.mv fun o e => by rw [upd_ne (ne a' (by lia))]; exact e⟩
   | dm f ks =>
    obtain ⟨a', e1', c', n', e2'⟩ := h
    exact ⟨a', e1', c', n', e2'.mv fun o e => by rw [upd_ne (ne a' (by lia))]; exact e⟩
   | bd d => exact h
   | ot d =>
    obtain ⟨v, e1', t'⟩ := h
    exact ⟨v, e1', t'.mv fun b o g e => by
     have q := ne b (by rcases g with g | g <;> (have := g.1; lia))
     exact ⟨g.imp id fun g => ⟨g.1, by rw [upd_ne q]; exact g.2⟩, by rw [upd_ne q]; exact e⟩⟩
 ·have h := r.pd x hx
  cases x with
  | v v d => exact ThV.mv mv0 h
  | n b o => exact ⟨h.1, h.2.1, by rw [upd_ne (ne b (by have := h.1; lia))]; exact h.2.2⟩
  | s vs ds => exact ThVs.mv mv0 h
  | o c as dss => exact ⟨h.1, h.2.mv mv0 fun b o g e => ⟨g, by rw [upd_ne (ne b (by have := g.1; lia))]; exact e⟩⟩
  | w v d => exact h
 ·have z := r.kq b o e q
  have q' : b ≠ a := fun q' => by rw [q', n] at e; cases e
  rw [upd_ne q']; exact z
 ·obtain ⟨o1, h1⟩ := (r.hq0 q hq).at1
  obtain ⟨o2, h2⟩ := (r.hq0 q hq).at2
  exact (r.hq q hq).wr (fun z => by rw [← z, n] at h1; cases h1) (fun z => by rw [← z, n] at h2; cases h2)
end
open Classical in
theorem RelC.norm {C : DC} {col : Addr → Nat} {ρ : List Sl} {σ : St} {P : List Pe} {H : Hp} (r : RelC C col ρ σ P H) : ∃ col', RelC C col' ρ σ P H ∧ ∀ b xs, H b = some (.tup xs) → col' b = 0 := by
 let col' : Addr → Nat := fun b => if ∃ xs, H b = some (.tup xs) then 0 else col b
 have ct : ∀ b xs, H b = some (.tup xs) → col' b = 0 := fun b xs e => if_pos ⟨xs, e⟩
 have cn : ∀ b, (∀ xs, H b ≠ some (.tup xs)) → col' b = col b := fun b h => if_neg fun ⟨xs, e⟩ => h xs e
 have hl : ∀ b ys, H b = some (.lst ys) → col' b = col b := fun b ys e => cn b fun xs z => by rw [e] at z; cases z
 have hd : ∀ q, C.hand = some q → ∀ xs, H q.1 ≠ some (.tup xs) := fun q hq xs z => by
  obtain ⟨_, _, _, _, _, _, _, _, e⟩ := r.hq q hq
  rw [e] at z; cases z
 have z0 : ∀ b, col b = 0 → col' b = 0 := fun b hb => by
  by_cases h : ∃ xs, H b = some (.tup xs)
  ·exact if_pos h
  ·exact (if_neg h).trans hb
 have lo : ∀ b, col b ≤ 1 → col' b ≤ 1 := fun b hb => by
  by_cases h : ∃ xs, H b = some (.tup xs)
  ·rw [show col' b = 0 from if_pos h]; lia
  ·rw [show col' b = col b from if_neg h]; exact hb
 have mv0 : ∀ b o, Z col b → H b = some o → Z col' b ∧ H b = some o := fun b o zz e => ⟨z0 b zz, e⟩
 refine ⟨col', ⟨fun b e => z0 b (r.fresh b e), fun b hb => ?_, fun q hq => (cn _ (hd q hq)).trans (r.hnd q hq), fun i s e => ?_, fun p hp => ?_, r.kq, r.hq, r.hq0, r.nf, r.len⟩, ct⟩
 ·by_cases h : ∃ xs, H b = some (.tup xs)
  ·obtain ⟨xs, h⟩ := h
   cases q : C.H0 b with
   | none => exact r.nf.1 b q
   | some o =>
    have := r.kq b o q fun p hp e => hd p hp xs (e ▸ h)
    rw [this] at h
    cases h
    exact r.nf.2 b xs q
  ·rw [show col' b = col b from if_neg h] at hb; exact r.inF b hb
 ·have h := r.sl i s e
  cases s with
  | no => trivial
  | sh d => obtain ⟨v, e1, t⟩ := h; exact ⟨v, e1, t.mv mv0⟩
  | ow ds => obtain ⟨a, vs, e1, c, n, e2, t⟩ := h; exact ⟨a, vs, e1, (hl a _ e2).trans c, n, e2, t.mv mv0⟩
  | bo ds => obtain ⟨a, vs, e1, c, n, e2, t⟩ := h; exact ⟨a, vs, e1, lo a c, n, e2, t.mv mv0⟩
  | hd => exact h
  | o2 dss => obtain ⟨a, as, e1, c, e2, nd, t⟩ := h; exact ⟨a, as, e1, ⟨(hl a _ e2).trans c.1, c.2⟩, e2, nd, t.mvl mv0 fun b ys g e => ⟨⟨(hl b _ e).trans g.1, g.2⟩, e⟩⟩
  | b2 dss => obtain ⟨a, as, e1, c, e2, t⟩ := h; exact ⟨a, as, e1, ⟨lo a c.1, c.2⟩, e2, t.mvl mv0 fun b ys g e => ⟨⟨lo b g.1, g.2⟩, e⟩⟩
  | di f ks =>
   obtain ⟨a, e1, c, n, e2⟩ := h
   refine ⟨a, e1, (cn a fun xs z => ?_).trans c, n, e2⟩
   cases f with
   | false => rw [show H a = _ from e2] at z; cases z
   | true => obtain ⟨o, e2⟩ := e2; rw [e2] at z; cases z
  | dm f ks =>
   obtain ⟨a, e1, c, n, e2⟩ := h
   refine ⟨a, e1, (cn a fun xs z => ?_).trans c, n, e2⟩
   cases f with
   | false => rw [show H a = _ from e2] at z; cases z
   | true => obtain ⟨o, e2⟩ := e2; rw [e2] at z; cases z
  | bd d => exact h
  | ot d =>
   obtain ⟨v, e1, t⟩ := h
   refine ⟨v, e1, t.mv fun b o g e => ⟨?_, e⟩⟩
   by_cases q : ∃ xs, H b = some (.tup xs)
   ·obtain ⟨xs, q⟩ := q
    exact .inr ⟨ct b xs q, xs, q⟩
   ·rcases g with g | g
    ·exact .inl ⟨(if_neg q).trans g.1, g.2⟩
    ·exact absurd g.2 q
 ·have h := r.pd p hp
  cases p with
  | v v d => exact ThV.mv mv0 h
  | n a o => exact ⟨lo a h.1, h.2⟩
  | s vs ds => exact ThVs.mv mv0 h
  | o c as dss => exact ⟨h.1, h.2.mvl mv0 fun b ys g e => ⟨⟨(hl b _ e).trans g.1, g.2⟩, e⟩⟩
  | w v d => exact h
inductive Pds (P : List Pe) : List V → List PyData → Prop
 | nil : Pds P [] []
 | cons {v d vs ds} : Pe.v v d ∈ P → Pds P vs ds → Pds P (v :: vs) (d :: ds)
theorem Pds.th {C : DC} {col : Addr → Nat} {ρ : List Sl} {σ : St} {P : List Pe} {H : Hp} (r : RelC C col ρ σ P H) : ∀ {vs : List V} {ds : List PyData}, Pds P vs ds → ThVs (Z col) H vs ds
 | _, _, .nil => .nil
 | _, _, .cons h t => .cons (r.pd _ h) (Pds.th r t)
end My
namespace My
open PySem L2
abbrev DE := List Sl → (PyData → List Sl → Prop) → Prop
abbrev DT := List Sl → (Bool → List Sl → Prop) → Prop
abbrev DF := List Sl → (List PyData → List Sl → Prop) → Prop
def eOf (C : DC) (t : DE) : TE := fun σ H Q => ∃ ρ P Qd, Rel C ρ σ P H ∧ t ρ Qd ∧ ∀ v d ρ' H', Rel C ρ' σ (.v v d :: P) H' → Qd d ρ' → Q v H'
def cOf (C : DC) (t : DT) : TT := fun σ H Q => ∃ ρ P Qd, Rel C ρ σ P H ∧ t ρ Qd ∧ ∀ b ρ' H', Rel C ρ' σ P H' → Qd b ρ' → Q b H'
def fOf (C : DC) (t : DF) : TE := fun σ H Q => ∃ ρ P Qd, Rel C ρ σ P H ∧ t ρ Qd ∧ ∀ p vs ds ρ' H1, (∃ col, RelC C col ρ' σ P H1 ∧ ThVs (Z col) H1 vs ds) → H1 p = none → Qd ds ρ' → Q (.ref p) (upd H1 p (.lst vs))
def vOf (C : DC) (t : DF) : TA := fun σ H Q => ∃ ρ P Qd, Rel C ρ σ P H ∧ t ρ Qd ∧ ∀ vs ds ρ' P' H', Rel C ρ' σ P' H' → (∀ p ∈ P, p ∈ P') → Pds P' vs ds → Qd ds ρ' → Q vs H'
def bnd {α : Type} (o : Option α) (Q : α → Prop) : Prop := match o with
 | some a => Q a
 | none => False
theorem bnd_of {α : Type} {o : Option α} {Q : α → Prop} (h : bnd o Q) : ∃ a, o = some a ∧ Q a := by
 cases o with
 | none => exact h.elim
 | some a => exact ⟨a, rfl, h⟩
section
variable {X : Cx} {C : DC}
theorem PE.wk {e : Expr} {t t' : TE} (h : PE X e t) (f : ∀ σ H Q, t' σ H Q → t σ H Q) : PE X e t' := fun pins s σ H Q I q => h pins s σ H Q I (f σ H Q q)
theorem PT.wk {e : Expr} {t t' : TT} (h : PT X e t) (f : ∀ σ H Q, t' σ H Q → t σ H Q) : PT X e t' := fun pins s σ H Q I q => h pins s σ H Q I (f σ H Q q)
theorem PW.wk {e : Expr} {t t' : TT} (h : PW X e t) (f : ∀ σ H Q, t' σ H Q → t σ H Q) : PW X e t' := fun wh pins s σ H Q I q => h wh pins s σ H Q I (f σ H Q q)
theorem PA.wk {es : List Expr} {t t' : TA} (h : PA X es t) (f : ∀ σ H Q, t' σ H Q → t σ H Q) : PA X es t' := fun pos pins s σ H Q I q => h pos pins s σ H Q I (f σ H Q q)
theorem PO.wk {e : Option Expr} {t t' : TO} (h : PO X e t) (f : ∀ σ H Q, t' σ H Q → t σ H Q) : PO X e t' := fun pins s σ H Q I q => h pins s σ H Q I (f σ H Q q)
def dC (d : PyData)  (ρ : List Sl) (Q : PyData → List Sl → Prop) : Prop := Q d ρ
theorem pd_c {e : Expr} {v : V} {d : PyData} (h : PE X e (tC v)) (t : ∀ F H, ThV F H v d) : PE X e (eOf C (dC d)) := PE.wk h fun _ _ _ zz1 => el3 zz1 fun _ _ _ zz2 ht k => zz2.elim fun col r => k _ _ _ _ ⟨col, r.push (t _ _)⟩ ht
theorem pd_int {i j pos} : PE X (.Constant (.int i) j pos) (eOf C (dC (.int i))) := pd_c pe_int fun _ _ => .int i
theorem pd_bl {b j pos} : PE X (.Constant (.bool b) j pos) (eOf C (dC (.bool b))) := pd_c pe_bl fun _ _ => .bl b
theorem pd_non {j pos} : PE X (.Constant .none j pos) (eOf C (dC .none)) := pd_c pe_non fun _ _ => .non
theorem pd_str {x j pos} : PE X (.Constant (.str x) j pos) (eOf C (dC (.str x))) := pd_c pe_str fun _ _ => .str x
theorem pd_gi {e : Expr} {i : Int} (h : PE X e (tC (.int i))) : PE X e (eOf C (dC (.int i))) := pd_c h fun _ _ => .int i
theorem pd_gs {e : Expr} {x : Str} (h : PE X e (tC (.str x))) : PE X e (eOf C (dC (.str x))) := pd_c h fun _ _ => .str x
theorem join_some {α : Type} {o : Option (Option α)} {v : α} (h : o.join = some v) : o = some (some v) := by
 cases o with
 | none => cases h
 | some q => exact congrArg some h
def dVar (i : Nat)  (ρ : List Sl) (Q : PyData → List Sl → Prop) : Prop := match ρ[i]? with
 | some (.sh d) => Q d ρ
 | some (.ow ds) => Q (.list ds) (ρ.set i (.sh (.list ds)))
 | _ => False
theorem pd_var {e : Expr} {i : Nat} (h : PE X e (tVar i)) : PE X e (eOf C (dVar i)) := PE.wk h fun σ H Q zz3 => el3 zz3 fun ρ P Qd zz4 ht k => zz4.elim fun col r => by
 unfold dVar at ht
 split at ht
 ·rename_i d e
  obtain ⟨v, e1, t⟩ := r.sl i _ e
  exact ⟨v, join_some e1, k _ _ _ _ ⟨col, r.push t⟩ ht⟩
 ·rename_i ds e
  obtain ⟨a, e1, R⟩ := r.freeze e
  exact ⟨_, join_some e1, k _ _ _ _ R ht⟩
 ·exact ht.elim
def slotD (ρ : List Sl) (i : Nat) : Option PyData := match ρ[i]? with
 | some (.sh d) => some d
 | some (.ow ds) => some (.list ds)
 | some (.bo ds) => some (.list ds)
 | _ => none
inductive Red (col : Addr → Nat) (H : Hp) : V → PyData → Prop
 | th {v d} : ThV (Z col) H v d → Red col H v d
 | ls {a vs ds} : H a = some (.lst vs) → ThVs (Z col) H vs ds → Red col H (.ref a) (.list ds)
theorem RelC.slot {col : Addr → Nat} {ρ : List Sl} {σ : St} {P : List Pe} {H : Hp} (r : RelC C col ρ σ P H) {i : Nat} {d : PyData} (h : slotD ρ i = some d) : ∃ v, σ[i]? = some (some v) ∧ Red col H v d := by
 unfold slotD at h
 split at h
 ·rename_i d' e
  cases h
  obtain ⟨v, e1, t⟩ := r.sl i _ e
  exact ⟨v, join_some e1, .th t⟩
 ·rename_i ds e
  cases h
  obtain ⟨a, vs, e1, _, _, e2, t⟩ := r.sl i _ e
  exact ⟨_, join_some e1, .ls e2 t⟩
 ·rename_i ds e
  cases h
  obtain ⟨a, vs, e1, _, _, e2, t⟩ := r.sl i _ e
  exact ⟨_, join_some e1, .ls e2 t⟩
 ·cases h
theorem Red.lst {col : Addr → Nat} {H : Hp} {v : V} {ds : List PyData} (h : Red col H v (.list ds)) : ∃ a vs, v = .ref a ∧ H a = some (.lst vs) ∧ ThVs (Z col) H vs ds := by
 cases h with
 | th t => cases t with
  | lst _ e t => exact ⟨_, _, rfl, e, t⟩
 | ls e t => exact ⟨_, _, rfl, e, t⟩
theorem Red.tup {col : Addr → Nat} {H : Hp} {v : V} {ds : List PyData} (h : Red col H v (.tuple ds)) : ∃ a vs, v = .ref a ∧ H a = some (.tup vs) ∧ ThVs (Z col) H vs ds := by
 cases h with
 | th t => cases t with
  | tup _ e t => exact ⟨_, _, rfl, e, t⟩
abbrev G2 := PyData → PyData → (PyData → Prop) → Prop
def OpOk (C : DC) (r : R2) (g : G2) : Prop :=
 ∀ {ρ : List Sl} {σ : St} {P : List Pe} {H : Hp} {v w : V} {a b : PyData} {Qd : PyData → Prop} {Q : VK}, Rel C ρ σ (.v w b :: .v v a :: P) H → g a b Qd → (∀ u d H', Rel C ρ σ (.v u d :: P) H' → Qd d → Q u H') → r v w H Q
def dOp (g : G2) (ta tb : DE)  (ρ : List Sl) (Q : PyData → List Sl → Prop) : Prop := ta ρ fun a ρ1 => tb ρ1 fun b ρ2 => g a b fun d => Q d ρ2
theorem dOp_rd {r : R2} {g : G2} {ta tb : DE} (hg : OpOk C r g) {σ : St} {H : Hp} {Q : VK} (h : eOf C (dOp g ta tb) σ H Q) : tOp r (eOf C ta) (eOf C tb) σ H Q := by
 obtain ⟨ρ, P, Qd, R, ht, k⟩ := h
 exact ⟨ρ, P, _, R, ht, fun v a ρ1 H1 R1 h1 => ⟨ρ1, _, _, R1, h1, fun w b ρ2 H2 R2 h2 => hg R2 h2 fun u d H' R' q => k u d ρ2 H' R' q⟩⟩
variable {a b : Expr} {ta tb : DE} {pos : Pos}
theorem pd_op {op : Operator} {r : R2} {g : G2} (ho : OpR X (binaryOp op) r) (hg : OpOk C r g) (ha : PE X a (eOf C ta)) (hb : PE X b (eOf C tb)) : PE X (.BinOp a op b pos) (eOf C (dOp g ta tb)) := PE.wk (pe_op ho ha hb) fun _ _ _ h => dOp_rd hg h
theorem pd_cmp {op : CmpOp} {r : R2} {g : G2} (ho : OpR X (compareOp op) r) (hg : OpOk C r g) (ha : PE X a (eOf C ta)) (hb : PE X b (eOf C tb)) (hm : behindInMarks op b = false) : PE X (.Compare a [op] [b] pos) (eOf C (dOp g ta tb)) := PE.wk (pe_cmpR ho ha hb hm) fun _ _ _ h => dOp_rd hg h
def dT (t : DE)  (ρ : List Sl) (Q : Bool → List Sl → Prop) : Prop := t ρ fun d ρ' => match d with
 | .bool b => Q b ρ'
 | _ => False
theorem dT_rd {t : DE} {σ : St} {H : Hp} {Q : Bool → Hp → Prop} (h : cOf C (dT t) σ H Q) : eOf C t σ H fun x H' => ∃ k, x = .bl k ∧ Q k H' := by
 obtain ⟨ρ, P, Qd, R, ht, k⟩ := h
 refine ⟨ρ, P, _, R, ht, fun v d ρ' H' R' q => ?_⟩
 split at q
 ·obtain ⟨col, r⟩ := R'
  have t := r.pd _ List.mem_cons_self
  cases (show ThV (Z col) H' v (.bool _) from t)
  exact ⟨_, rfl, k _ _ _ (Rel.pop ⟨col, r⟩) q⟩
 ·exact q.elim
theorem pdt_val {e : Expr} {t : DE} (h : PE X e (eOf C t)) (he : ∀ whole, isTrue e X.env whole = (do let v ← whole; standAt e.pos; holding [v] (truthy v)) := by intro _; rfl) : PT X e (cOf C (dT t)) := PT.wk (pt_val h he) fun _ _ _ h => dT_rd h
theorem pdt_cmp {op : CmpOp} {r : R2} {g : G2} (ho : OpR X (compareOp op) r) (hg : OpOk C r g) (ha : PE X a (eOf C ta)) (hb : PE X b (eOf C tb)) (hm : behindInMarks op b = false) : PT X (.Compare a [op] [b] pos) (cOf C (dT (dOp g ta tb))) :=
 PT.wk (pt_cmpR ho ha hb hm) fun σ H Q h => dOp_rd hg (dT_rd h)
def dNot (t : DT)  (ρ : List Sl) (Q : Bool → List Sl → Prop) : Prop := t ρ fun b ρ' => Q (!b) ρ'
theorem pdt_not {t : DT} (h : PT X a (cOf C t)) : PT X (.UnaryOp .Not a pos) (cOf C (dNot t)) := PT.wk (pt_not h) fun _ _ _ zz5 => el3 zz5 fun ρ P _ R ht k => ⟨ρ, P, _, R, ht, fun b ρ' H' R' q => k _ _ _ R' q⟩
def dAnd (t u : DT)  (ρ : List Sl) (Q : Bool → List Sl → Prop) : Prop := t ρ fun b ρ' => if b = true then u ρ' Q else Q false ρ'
def dOr (t u : DT)  (ρ : List Sl) (Q : Bool → List Sl → Prop) : Prop := t ρ fun b ρ' => if b = true then Q true ρ' else u ρ' Q
variable {t u : DT} {rest : List Expr}
theorem pwd_and1 (h : PT X a (cOf C t)) : PW X (.BoolOp .And [a] pos) (cOf C t) := pw_and1 h
theorem pwd_or1 (h : PT X a (cOf C t)) : PW X (.BoolOp .Or [a] pos) (cOf C t) := pw_or1 h
theorem pwd_and (ha : PT X a (cOf C t)) (hb : PW X (.BoolOp .And (b :: rest) pos) (cOf C u)) : PW X (.BoolOp .And (a :: b :: rest) pos) (cOf C (dAnd t u)) := PW.wk (pw_and ha hb) fun _ _ _ zz6 => el3 zz6 fun ρ P Qd R ht k =>
 ⟨ρ, P, _, R, ht, fun b ρ' H' R' q => by
  cases b with
  | true => exact ⟨ρ', P, Qd, R', by simpa using q, k⟩
  | false => exact k _ _ _ R' (by simpa using q)⟩
theorem pwd_or (ha : PT X a (cOf C t)) (hb : PW X (.BoolOp .Or (b :: rest) pos) (cOf C u)) : PW X (.BoolOp .Or (a :: b :: rest) pos) (cOf C (dOr t u)) := PW.wk (pw_or ha hb) fun _ _ _ zz7 => el3 zz7 fun ρ P Qd R ht k =>
 ⟨ρ, P, _, R, ht, fun b ρ' H' R' q => by
  cases b with
  | true => exact k _ _ _ R' (by simpa using q)
  | false => exact ⟨ρ', P, Qd, R', by simpa using q, k⟩⟩
def dBV (t : DE) (f : Bool → List Sl → Prop)  (ρ : List Sl) : Prop := t ρ fun d ρ' => match d with
 | .bool b => f b ρ'
 | _ => False
def dAndV (ta tb : DE)  (ρ : List Sl) (Q : PyData → List Sl → Prop) : Prop := dBV ta (fun b ρ' => if b = true then tb ρ' Q else Q (.bool false) ρ') ρ
def dOrV (ta tb : DE)  (ρ : List Sl) (Q : PyData → List Sl → Prop) : Prop := dBV ta (fun b ρ' => if b = true then Q (.bool true) ρ' else tb ρ' Q) ρ
def dNotV (ta : DE)  (ρ : List Sl) (Q : PyData → List Sl → Prop) : Prop := dBV ta (fun b ρ' => Q (.bool (!b)) ρ') ρ
theorem dBV_rd {f : Bool → List Sl → Prop} {ρ : List Sl} {σ : St} {P : List Pe} {H : Hp} {Q : VK} (R : Rel C ρ σ P H) (ht : dBV ta f ρ) (k : ∀ c ρ' H', Rel C ρ' σ P H' → f c ρ' → Q (.bl c) H') : eOf C ta σ H Q := by
 refine ⟨ρ, P, _, R, ht, fun v d ρ' H' R' q => ?_⟩
 split at q
 ·obtain ⟨col, r⟩ := R'
  have t := r.pd _ List.mem_cons_self
  cases (show ThV (Z col) H' v (.bool _) from t)
  exact k _ _ _ (Rel.pop ⟨col, r⟩) q
 ·exact q.elim
theorem pd_one {op} (h : PE X a (eOf C ta)) : PE X (.BoolOp op [a] pos) (eOf C ta) := pe_one h
theorem pd_and (ha : PE X a (eOf C ta)) (hb : PE X (.BoolOp .And (b :: rest) pos) (eOf C tb)) : PE X (.BoolOp .And (a :: b :: rest) pos) (eOf C (dAndV ta tb)) := PE.wk (pe_and ha hb) fun _ _ _ zz8 => el3 zz8 fun _ P Qd R ht k =>
 dBV_rd R ht fun c ρ' H' R' q => ⟨c, rfl, by
  cases c with
  | true => exact iteT ⟨ρ', P, Qd, R', by simpa using q, k⟩
  | false =>
   obtain ⟨col, r⟩ := R'
   exact iteF (k _ _ _ _ ⟨col, r.push (.bl false)⟩ (by simpa using q))⟩
theorem pd_or (ha : PE X a (eOf C ta)) (hb : PE X (.BoolOp .Or (b :: rest) pos) (eOf C tb)) : PE X (.BoolOp .Or (a :: b :: rest) pos) (eOf C (dOrV ta tb)) := PE.wk (pe_or ha hb) fun _ _ _ zz9 => el3 zz9 fun _ P Qd R ht k =>
 dBV_rd R ht fun c ρ' H' R' q => ⟨c, rfl, by
  cases c with
  | true =>
   obtain ⟨col, r⟩ := R'
   exact iteT (k _ _ _ _ ⟨col, r.push (.bl true)⟩ (by simpa using q))
  | false => exact iteF ⟨ρ', P, Qd, R', by simpa using q, k⟩⟩
theorem pd_not (ha : PE X a (eOf C ta)) : PE X (.UnaryOp .Not a pos) (eOf C (dNotV ta)) := PE.wk (pe_not ha) fun _ _ _ zz10 => el3 zz10 fun _ _ _ R ht k =>
 dBV_rd R ht fun c ρ' H' zz11 q => zz11.elim fun col r => ⟨c, rfl, k _ _ _ _ ⟨col, r.push (.bl _)⟩ q⟩
def dNeg (ta : DE)  (ρ : List Sl) (Q : PyData → List Sl → Prop) : Prop := ta ρ fun d ρ' => match d with
 | .int i => Q (.int (-i)) ρ'
 | _ => False
theorem pd_neg (ha : PE X a (eOf C ta)) : PE X (.UnaryOp .USub a pos) (eOf C (dNeg ta)) := PE.wk (pe_un un_neg ha) fun _ _ _ zz12 => el3 zz12 fun ρ P _ R ht k => ⟨ρ, P, _, R, ht, fun v d ρ' H' R' q => by
 split at q
 ·obtain ⟨col, r⟩ := R'
  have t := r.pd _ List.mem_cons_self
  cases (show ThV (Z col) H' v (.int _) from t)
  exact ⟨_, rfl, k _ _ _ _ ⟨col, (r.sub fun _ h => List.mem_cons_of_mem _ h).push (.int _)⟩ q⟩
 ·exact q.elim⟩
def dIf (c : DT) (ta tb : DE)  (ρ : List Sl) (Q : PyData → List Sl → Prop) : Prop := c ρ fun b ρ' => if b = true then ta ρ' Q else tb ρ' Q
theorem pd_if {c : Expr} (hc : PT X c (cOf C t)) (ha : PE X a (eOf C ta)) (hb : PE X b (eOf C tb)) : PE X (.IfExp c a b pos) (eOf C (dIf t ta tb)) := PE.wk (pe_ifExp hc ha hb) fun _ _ _ zz13 => el3 zz13 fun ρ P Qd R ht k =>
 ⟨ρ, P, _, R, ht, fun b ρ' H' R' q => by
  cases b with
  | true => exact iteT ⟨ρ', P, Qd, R', by simpa using q, k⟩
  | false => exact iteF ⟨ρ', P, Qd, R', by simpa using q, k⟩⟩
def dChain (g g' : G2) (ta tb tc : DE)  (ρ : List Sl) (Q : PyData → List Sl → Prop) : Prop := ta ρ fun a ρ1 => tb ρ1 fun b ρ2 => g a b fun z => match z with
 | .bool k => if k = true then tc ρ2 fun c ρ3 => g' b c fun d => Q d ρ3 else Q (.bool false) ρ2
 | _ => False
end
def gI (c : Int → Int → Prop) (f : Int → Int → PyData)  (a b : PyData) (Q : PyData → Prop) : Prop := match a, b with
 | .int i, .int j => c i j ∧ Q (f i j)
 | _, _ => False
def gI0 (f : Int → Int → PyData)  (a b : PyData) (Q : PyData → Prop) : Prop := match a, b with
 | .int i, .int j => Q (f i j)
 | _, _ => False
section
variable {C : DC} {X : Cx}
theorem th2 {ρ : List Sl} {σ : St} {P : List Pe} {H : Hp} {v w : V} {a b : PyData} (r : Rel C ρ σ (.v w b :: .v v a :: P) H) : ∃ col, RelC C col ρ σ P H ∧ ThV (Z col) H v a ∧ ThV (Z col) H w b := by
 obtain ⟨col, r⟩ := r
 exact ⟨col, r.sub fun _ h => List.mem_cons_of_mem _ (List.mem_cons_of_mem _ h), r.pd _ (List.mem_cons_of_mem _ List.mem_cons_self), r.pd _ List.mem_cons_self⟩
theorem ok_I0 {f : Int → Int → V} {g : Int → Int → PyData} (h : ∀ i j F H, ThV F H (f i j) (g i j)) : OpOk C (rI0 f) (gI0 g) := by
 intro ρ σ P H v w a b Qd Q R hg k
 unfold gI0 at hg
 split at hg
 ·obtain ⟨col, r, t1, t2⟩ := th2 R
  cases t1; cases t2
  exact ⟨_, _, rfl, rfl, k _ _ _ ⟨col, r.push (h _ _ _ _)⟩ hg⟩
 ·exact hg.elim
theorem ok_I {c : Int → Int → Prop} {f : Int → Int → V} {g : Int → Int → PyData} (h : ∀ i j F H, ThV F H (f i j) (g i j)) : OpOk C (rI c f) (gI c g) := by
 intro ρ σ P H v w a b Qd Q R hg k
 unfold gI at hg
 split at hg
 ·obtain ⟨col, r, t1, t2⟩ := th2 R
  cases t1; cases t2
  exact ⟨_, _, rfl, rfl, hg.1, k _ _ _ ⟨col, r.push (h _ _ _ _)⟩ hg.2⟩
 ·exact hg.elim
def gAdd : G2 := gI0 fun i j => .int (i + j)
def gMns : G2 := gI0 fun i j => .int (i - j)
def gMul : G2 := gI CMul fun i j => .int (i * j)
def gMod : G2 := gI (fun _ j => 0 < j) fun i j => .int (i % j)
def gDiv : G2 := gI CDivB fun i j => .int (i / j)
def gPow : G2 := gI CPow fun i j => .int (i ^ j.toNat)
def gLt : G2 := gI0 fun i j => .bool (decide (i < j))
def gLe : G2 := gI0 fun i j => .bool (decide (i ≤ j))
def gGt : G2 := gI0 fun i j => .bool (decide (j < i))
def gGe : G2 := gI0 fun i j => .bool (decide (j ≤ i))
theorem ok_add : OpOk C (rI0 (fun i j => .int (i + j))) gAdd := ok_I0 (f := fun i j => .int (i + j)) fun _ _ _ _ => .int _
theorem ok_sub : OpOk C (rI0 (fun i j => .int (i - j))) gMns := ok_I0 (f := fun i j => .int (i - j)) fun _ _ _ _ => .int _
theorem ok_mul : OpOk C (rI CMul (fun i j => .int (i * j))) gMul := ok_I (f := fun i j => .int (i * j)) fun _ _ _ _ => .int _
theorem ok_mod : OpOk C (rI (fun _ j => 0 < j) (fun i j => .int (i % j))) gMod := ok_I (f := fun i j => .int (i % j)) fun _ _ _ _ => .int _
theorem ok_pow : OpOk C (rI CPow (fun i j => .int (i ^ j.toNat))) gPow := ok_I (f := fun i j => .int (i ^ j.toNat)) fun _ _ _ _ => .int _
theorem ok_lt : OpOk C (rI0 (fun i j => .bl (decide (i < j)))) gLt := ok_I0 (f := fun i j => .bl (decide (i < j))) fun _ _ _ _ => .bl _
theorem ok_le : OpOk C (rI0 (fun i j => .bl (decide (i ≤ j)))) gLe := ok_I0 (f := fun i j => .bl (decide (i ≤ j))) fun _ _ _ _ => .bl _
theorem ok_gt : OpOk C (rI0 (fun i j => .bl (decide (j < i)))) gGt := ok_I0 (f := fun i j => .bl (decide (j < i))) fun _ _ _ _ => .bl _
theorem ok_ge : OpOk C (rI0 (fun i j => .bl (decide (j ≤ i)))) gGe := ok_I0 (f := fun i j => .bl (decide (j ≤ i))) fun _ _ _ _ => .bl _
def gEq (neg : Bool)  (a b : PyData) (Q : PyData → Prop) : Prop := a.canLay0 = true ∧ b.canLay0 = true ∧ min a.depth b.depth ≤ 64 ∧ Q (.bool (if neg then !PyData.eqv a b else PyData.eqv a b))
theorem ok_eq {K : PySem.W.Frag} {neg : Bool} : OpOk C (rEqD K neg) (gEq neg) := by
 intro ρ σ P H v w a b Qd Q R hg k
 obtain ⟨col, r, t1, t2⟩ := th2 R
 exact ⟨a, b, t1.dat hg.1, t2.dat hg.2.1, hg.1, hg.2.1, hg.2.2.1, k _ _ _ ⟨col, r.push (.bl _)⟩ hg.2.2.2⟩
def isN : PyData → Bool
 | .none => true
 | _ => false
def gIsN (neg : Bool)  (a b : PyData) (Q : PyData → Prop) : Prop := match b with
 | .none => Q (.bool (if neg then !isN a else isN a))
 | _ => False
theorem isN_th {F : Addr → Prop} {H : Hp} {v : V} {a : PyData} (t : ThV F H v a) : decide (v = V.non) = isN a := by
 cases t <;> simp [isN]
theorem ok_isN : OpOk C (fun x y H Q => y = .non ∧ Q (.bl (decide (x = .non))) H) (gIsN false) := by
 intro ρ σ P H v w a b Qd Q R hg k
 unfold gIsN at hg
 split at hg
 ·obtain ⟨col, r, t1, t2⟩ := th2 R
  cases t2
  refine ⟨rfl, k _ _ _ ⟨col, r.push (d := .bool (isN a)) ?_⟩ hg⟩
  rw [isN_th t1]; exact .bl _
 ·exact hg.elim
theorem ok_notN : OpOk C (fun x y H Q => y = .non ∧ Q (.bl (!decide (x = .non))) H) (gIsN true) := by
 intro ρ σ P H v w a b Qd Q R hg k
 unfold gIsN at hg
 split at hg
 ·obtain ⟨col, r, t1, t2⟩ := th2 R
  cases t2
  refine ⟨rfl, k _ _ _ ⟨col, r.push (d := .bool (!isN a)) ?_⟩ hg⟩
  rw [isN_th t1]; exact .bl _
 ·exact hg.elim
end
section
variable {X : Cx} {C : DC} {a b c : Expr} {ta tb tc : DE} {pos : Pos}
theorem chain_rd {f f' : Int → Int → Bool} {σ : St} {H : Hp} {Q : VK} (h : eOf C (dChain (gI0 fun i j => .bool (f i j)) (gI0 fun i j => .bool (f' i j)) ta tb tc) σ H Q) :
  tChain (rI0 fun i j => .bl (f i j)) (rI0 fun i j => .bl (f' i j)) (eOf C ta) (eOf C tb) (eOf C tc) σ H Q := by
 obtain ⟨ρ, P, Qd, R, ht, k⟩ := h
 exact ⟨ρ, P, _, R, ht, fun v x ρ1 H1 R1 h1 => ⟨ρ1, _, _, R1, h1, fun w y ρ2 H2 R2 h2 => by
  obtain ⟨col, r, t1, t2⟩ := th2 R2
  cases x with
  | int i =>
   cases y with
   | int j =>
    cases t1; cases t2
    refine ⟨i, j, rfl, rfl, f i j, rfl, ?_⟩
    have h2' : if f i j = true then tc ρ2 (fun c ρ3 => gI0 (fun i j => .bool (f' i j)) (.int j) c fun d => Qd d ρ3) else Qd (.bool false) ρ2 := h2
    cases e : f i j with
    | true =>
     rw [e] at h2'
     refine iteT ⟨ρ2, P, _, ⟨col, r⟩, by simpa using h2', fun u z ρ3 H3 R3 h3 => ?_⟩
     obtain ⟨col3, r3⟩ := R3
     have t3 := r3.pd _ List.mem_cons_self
     cases z with
     | int l =>
      cases (show ThV (Z col3) H3 u (.int l) from t3)
      exact ⟨j, l, rfl, rfl, k _ _ _ _ ⟨col3, (r3.sub fun _ h => List.mem_cons_of_mem _ h).push (.bl _)⟩ h3⟩
     | _ => exact h3.elim
    | false =>
     rw [e] at h2'
     exact iteF (k _ _ _ _ ⟨col, r.push (.bl false)⟩ (by simpa using h2'))
   | _ => exact h2.elim
  | _ => exact h2.elim⟩⟩
theorem pd_chain {op op' : CmpOp} {f f' : Int → Int → Bool} (ho : OpR X (compareOp op) (rI0 fun i j => .bl (f i j))) (ho' : OpR X (compareOp op') (rI0 fun i j => .bl (f' i j))) (ha : PE X a (eOf C ta)) (hb : PE X b (eOf C tb)) (hc : PE X c (eOf C tc))
  (hm : lastMarks [op, op'] [b, c] = false := by with_unfolding_all rfl) : PE X (.Compare a [op, op'] [b, c] pos) (eOf C (dChain (gI0 fun i j => .bool (f i j)) (gI0 fun i j => .bool (f' i j)) ta tb tc)) := PE.wk (pe_chain ho ho' ha hb hc hm) fun _ _ _ h => chain_rd h
end
end My
namespace My
open PySem L2
section
variable {X : Cx} {C : DC} {e a b : Expr} {es : List Expr} {t ta tb : DE} {u : DF} {pos : Pos}
theorem sub_cons {P P' : List Pe} {x : Pe} (h : ∀ p ∈ P, p ∈ P') : ∀ p ∈ x :: P, p ∈ x :: P' := fun p hp => (List.mem_cons.mp hp).elim (fun e => e ▸ List.mem_cons_self) fun hp => List.mem_cons_of_mem _ (h p hp)
def dNil  (ρ : List Sl) (Q : List PyData → List Sl → Prop) : Prop := Q [] ρ
def dCons (t : DE) (u : DF)  (ρ : List Sl) (Q : List PyData → List Sl → Prop) : Prop := t ρ fun d ρ1 => u ρ1 fun ds ρ2 => Q (d :: ds) ρ2
theorem dv_nil : PA X [] (vOf C dNil) := PA.wk pa_nil fun _ _ _ zz1 => el3 zz1 fun _ _ _ R ht k => k [] [] _ _ _ R (fun _ h => h) .nil ht
theorem dv_cons (ha : PE X e (eOf C t)) (hr : PA X es (vOf C u)) (hs : starEach (e :: es) X.env = (false, eval e X.env) :: starEach es X.env := by rfl) : PA X (e :: es) (vOf C (dCons t u)) := PA.wk (pa_cons ha hr hs) fun _ _ _ zz2 => el3 zz2 fun ρ P _ R ht k =>
 ⟨ρ, P, _, R, ht, fun _ _ ρ1 _ R1 h1 => ⟨ρ1, _, _, R1, h1, fun _ _ _ _ _ R2 s2 p2 h2 => k _ _ _ _ _ R2 (fun p hp => s2 p (List.mem_cons_of_mem _ hp)) (.cons (s2 _ List.mem_cons_self) p2) h2⟩⟩
def dTup (t : DF)  (ρ : List Sl) (Q : PyData → List Sl → Prop) : Prop := t ρ fun ds ρ' => ds.length ≤ 1000 ∧ Q (.tuple ds) ρ'
theorem pd_tup {x1} (h : PA X es (vOf C u)) : PE X (.Tuple es x1 pos) (eOf C (dTup u)) := PE.wk (pe_tup h) fun _ _ _ zz3 => el3 zz3 fun ρ P _ R ht k => ⟨ρ, P, _, R, ht, fun vs ds ρ' P' H' zz4 s p q => zz4.elim fun col r =>
 ⟨by rw [(p.th r).len]; exact Nat.le_of_lt (small1000 q.1), fun b hb => k _ _ _ _ ⟨col, (r.tup (p.th r) hb).sub (sub_cons s)⟩ q.2⟩⟩
def dLst (t : DF)  (ρ : List Sl) (Q : List PyData → List Sl → Prop) : Prop := t ρ fun ds ρ' => ds.length ≤ 1000 ∧ Q ds ρ'
theorem pf_lst (h : PA X es (vOf C u)) : PE X (.List es pos) (fOf C (dLst u)) := PE.wk (pe_lst h) fun _ _ _ zz5 => el3 zz5 fun ρ P _ R ht k => ⟨ρ, P, _, R, ht, fun vs ds ρ' P' H' zz6 s p q => zz6.elim fun col r =>
 ⟨by rw [(p.th r).len]; exact Nat.le_of_lt (small1000 q.1), fun b hb => k _ _ _ _ _ ⟨col, r.sub s, p.th r⟩ hb q.2⟩⟩
def dF (t : DF)  (ρ : List Sl) (Q : PyData → List Sl → Prop) : Prop := t ρ fun ds ρ' => Q (.list ds) ρ'
theorem pd_f (h : PE X e (fOf C u)) : PE X e (eOf C (dF u)) := PE.wk h fun _ _ _ zz7 => el3 zz7 fun ρ P _ R ht k => ⟨ρ, P, _, R, ht, fun _ _ _ _ _ zz8 hp q => el2 zz8 fun col r t => k _ _ _ _ ⟨col, r.lst t hp⟩ q⟩
def ixD (a b : PyData) : Option PyData := match a, b with
 | .list xs, .int i => atI xs i
 | .tuple xs, .int i => atI xs i
 | _, _ => none
theorem atI_th {F : Addr → Prop} {H : Hp} {vs : List V} {ds : List PyData} {i : Int} {d : PyData} (t : ThVs F H vs ds) (h : atI ds i = some d) : ∃ v, atI vs i = some v ∧ ThV F H v d := by
 unfold atI at h ⊢
 rw [t.len]
 cases q : ixN ds.length i with
 | none => rw [q] at h; cases h
 | some j =>
  rw [q] at h
  exact t.at h
theorem ix_rd {K : PySem.W.Frag} {col : Addr → Nat} {H : Hp} {v w : V} {a b d : PyData} (t1 : Red col H v a) (t2 : ThV (Z col) H w b) (h : ixD a b = some d) : ∃ u, ThV (Z col) H u d ∧ ∀ Q : VK, Q u H → rIx K v w H Q := by
 unfold ixD at h
 split at h
 ·cases t2
  obtain ⟨p, vs, rfl, e, t⟩ := t1.lst
  obtain ⟨u, hu, tu⟩ := atI_th t h
  exact ⟨u, tu, fun Q q => .inl ⟨p, vs, _, u, rfl, rfl, SqL.of e, hu, q⟩⟩
 ·cases t2
  obtain ⟨p, vs, rfl, e, t⟩ := t1.tup
  obtain ⟨u, hu, tu⟩ := atI_th t h
  exact ⟨u, tu, fun Q q => .inr (.inl ⟨p, vs, _, u, rfl, rfl, SqT.of e, hu, q⟩)⟩
 ·cases h
def dIx (ta tb : DE)  (ρ : List Sl) (Q : PyData → List Sl → Prop) : Prop := ta ρ fun a ρ1 => tb ρ1 fun b ρ2 => bnd (ixD a b) fun d => Q d ρ2
theorem pd_ix (ha : PE X a (eOf C ta)) (hb : PE X b (eOf C tb)) (hs : PlainIx b) : PE X (.Subscript a b pos) (eOf C (dIx ta tb)) := PE.wk (pe_ix ix_seq ha hb hs) fun _ _ _ zz9 => el3 zz9 fun ρ P _ R ht k => ⟨ρ, P, _, R, ht, fun v _ ρ1 H1 R1 h1 => ⟨ρ1, _, _, R1, h1, fun w _ ρ2 H2 R2 h2 => by
 obtain ⟨d, hd, q⟩ := bnd_of h2
 obtain ⟨col, r, t1, t2⟩ := th2 R2
 obtain ⟨u, tu, f⟩ := ix_rd (K := X.K) (.th t1) t2 hd
 exact f _ (k _ _ _ _ ⟨col, r.push tu⟩ q)⟩⟩
def dIxV (i : Nat) (tb : DE)  (ρ : List Sl) (Q : PyData → List Sl → Prop) : Prop := bnd (slotD ρ i) fun _ => tb ρ fun b ρ2 => bnd (slotD ρ2 i) fun a => bnd (ixD a b) fun d => Q d ρ2
theorem pd_ixv {i : Nat} (ha : PE X a (tVar i)) (hb : PE X b (eOf C tb)) (hs : PlainIx b) : PE X (.Subscript a b pos) (eOf C (dIxV i tb)) := PE.wk (pe_ix ix_seq ha hb hs) fun σ H Q zz10 => el3 zz10 fun ρ P Qd zz11 ht k => zz11.elim fun col0 r0 => by
 obtain ⟨_, h0, ht⟩ := bnd_of ht
 obtain ⟨v, ev, _⟩ := r0.slot h0
 refine ⟨v, ev, ρ, P, _, ⟨col0, r0⟩, ht, fun w b ρ2 H2 R2 h2 => ?_⟩
 obtain ⟨a, ha, h2⟩ := bnd_of h2
 obtain ⟨d, hd, q⟩ := bnd_of h2
 obtain ⟨col, r⟩ := R2
 obtain ⟨v', ev', t1⟩ := r.slot ha
 rw [ev] at ev'
 cases ev'
 obtain ⟨u, tu, f⟩ := ix_rd (K := X.K) t1 (r.pd _ List.mem_cons_self) hd
 exact f _ (k _ _ _ _ ⟨col, (r.sub fun _ h => List.mem_cons_of_mem _ h).push tu⟩ q)
def CbOk (C : DC) (r : List V → Hp → VK → Prop) (g : List PyData → (PyData → Prop) → Prop) : Prop :=
 ∀ {ρ : List Sl} {σ : St} {P : List Pe} {col : Addr → Nat} {H : Hp} {vs : List V} {ds : List PyData} {Qd : PyData → Prop} {Q : VK}, RelC C col ρ σ P H → ThVs (Z col) H vs ds → g ds Qd → (∀ u d H', Rel C ρ σ (.v u d :: P) H' → Qd d → Q u H') → r vs H Q
def dCb (g : List PyData → (PyData → Prop) → Prop) (u : DF)  (ρ : List Sl) (Q : PyData → List Sl → Prop) : Prop := u ρ fun ds ρ' => g ds fun d => Q d ρ'
theorem pd_cb {r : List V → Hp → VK → Prop} {g : List PyData → (PyData → Prop) → Prop} (hr : CbOk C r g) (h : PE X e (tCB r (vOf C u))) : PE X e (eOf C (dCb g u)) := PE.wk h fun _ _ _ zz12 => el3 zz12 fun ρ P _ R ht k => ⟨ρ, P, _, R, ht, fun vs ds ρ' P' H' zz13 s p q => zz13.elim fun col r =>
 hr (r.sub s) (p.th r) q fun u d H2 R2 q2 => k _ _ _ _ R2 q2⟩
theorem ths1 {F : Addr → Prop} {H : Hp} {vs : List V} {d : PyData} (t : ThVs F H vs [d]) : ∃ v, vs = [v] ∧ ThV F H v d := by
 cases t with
 | cons x y => cases y; exact ⟨_, rfl, x⟩
theorem ths2 {F : Addr → Prop} {H : Hp} {vs : List V} {d d' : PyData} (t : ThVs F H vs [d, d']) : ∃ v w, vs = [v, w] ∧ ThV F H v d ∧ ThV F H w d' := by
 cases t with
 | cons x y =>
  obtain ⟨w, rfl, z⟩ := ths1 y
  exact ⟨_, w, rfl, x, z⟩
def lenD : PyData → Option Nat
 | .list xs => some xs.length
 | .tuple xs => some xs.length
 | _ => none
def gLen  (ds : List PyData) (Q : PyData → Prop) : Prop := match ds with
 | [d] => bnd (lenD d) fun n => Q (.int n)
 | _ => False
abbrev rLen (K : PySem.W.Frag) : List V → Hp → VK → Prop := fun xs H Q => ∃ p ys, xs = [.ref p] ∧ (SqL K H p ys ∨ SqT K H p ys) ∧ Q (.int ys.length) H
theorem len_rd {K : PySem.W.Frag} {col : Addr → Nat} {H : Hp} {v : V} {a : PyData} {n : Nat} {Q : VK} (t : Red col H v a) (h : lenD a = some n) (q : Q (.int n) H) : rLen K [v] H Q := by
 cases a with
 | list ds =>
  cases h
  obtain ⟨p, vs, rfl, e, t⟩ := t.lst
  exact ⟨p, vs, rfl, .inl (SqL.of e), by rw [t.len]; exact q⟩
 | tuple ds =>
  cases h
  obtain ⟨p, vs, rfl, e, t⟩ := t.tup
  exact ⟨p, vs, rfl, .inr (SqT.of e), by rw [t.len]; exact q⟩
 | _ => cases h
theorem cb_len {K : PySem.W.Frag} : CbOk C (rLen K) gLen := by
 intro ρ σ P col H vs ds Qd Q r t g k
 unfold gLen at g
 split at g
 ·obtain ⟨v, rfl, t1⟩ := ths1 t
  obtain ⟨n, hn, q⟩ := bnd_of g
  exact len_rd (.th t1) hn (k _ _ _ ⟨col, r.push (.int _)⟩ q)
 ·exact g.elim
def dLenV (i : Nat)  (ρ : List Sl) (Q : PyData → List Sl → Prop) : Prop := bnd (slotD ρ i) fun a => bnd (lenD a) fun n => Q (.int n) ρ
theorem pd_lenv {i : Nat} {K : PySem.W.Frag} (h : PE X e (tCB (rLen K) (tCons (tVar i) tNil))) : PE X e (eOf C (dLenV i)) := PE.wk h fun _ _ _ zz14 => el3 zz14 fun ρ P _ zz15 ht k => zz15.elim fun col r => by
 obtain ⟨a, ha, ht⟩ := bnd_of ht
 obtain ⟨n, hn, q⟩ := bnd_of ht
 obtain ⟨v, ev, t⟩ := r.slot ha
 exact ⟨v, ev, len_rd t hn (k _ _ _ _ ⟨col, r.push (.int _)⟩ q)⟩
def gI2 (f : Int → Int → Int)  (ds : List PyData) (Q : PyData → Prop) : Prop := match ds with
 | [.int i, .int j] => Q (.int (f i j))
 | _ => False
theorem cb_I2 {f : Int → Int → Int} : CbOk C (fun xs H Q => ∃ i j, xs = [.int i, .int j] ∧ Q (.int (f i j)) H) (gI2 f) := by
 intro ρ σ P col H vs ds Qd Q r t g k
 unfold gI2 at g
 split at g
 ·obtain ⟨v, w, rfl, t1, t2⟩ := ths2 t
  cases t1; cases t2
  exact ⟨_, _, rfl, k _ _ _ ⟨col, r.push (.int _)⟩ g⟩
 ·exact g.elim
def gMin := gI2 fun i j => if j < i then j else i
def gMax := gI2 fun i j => if j > i then j else i
theorem cb_min : CbOk C (fun xs H Q => ∃ i j, xs = [.int i, .int j] ∧ Q (.int (if j < i then j else i)) H) gMin := cb_I2 (f := fun i j => if j < i then j else i)
def gAbs  (ds : List PyData) (Q : PyData → Prop) : Prop := match ds with
 | [.int i] => Q (.int (if i < 0 then -i else i))
 | _ => False
def gInt  (ds : List PyData) (Q : PyData → Prop) : Prop := match ds with
 | [.int i] => Q (.int i)
 | [.bool b] => Q (.int (if b then 1 else 0))
 | _ => False
def boolsD : List PyData → Option (List Bool)
 | [] => some []
 | .bool b :: r => (boolsD r).map (b :: ·)
 | _ :: _ => none
def gBs (f : List Bool → Bool)  (ds : List PyData) (Q : PyData → Prop) : Prop := match ds with
 | [.list xs] => bnd (boolsD xs) fun bs => Q (.bool (f bs))
 | _ => False
def gAll := gBs fun bs => bs.all id
def gAny := gBs fun bs => bs.any id
abbrev rListOf (K : PySem.W.Frag) : List V → Hp → VK → Prop := fun xs H Q => ∃ p ys, xs = [.ref p] ∧ (SqL K H p ys ∨ SqT K H p ys) ∧ ∀ l, H l = none → Q (.ref l) (upd H l (.lst ys))
def itemsD : PyData → Option (List PyData)
 | .list xs => some xs
 | .tuple xs => some xs
 | _ => none
theorem items_rd {col : Addr → Nat} {H : Hp} {v : V} {a : PyData} {ds : List PyData} (t : Red col H v a) (h : itemsD a = some ds) : ∃ p vs, v = .ref p ∧ (H p = some (.lst vs) ∨ H p = some (.tup vs)) ∧ ThVs (Z col) H vs ds := by
 cases a with
 | list ds =>
  cases h
  obtain ⟨p, vs, rfl, e, t⟩ := t.lst
  exact ⟨p, vs, rfl, .inl e, t⟩
 | tuple ds =>
  cases h
  obtain ⟨p, vs, rfl, e, t⟩ := t.tup
  exact ⟨p, vs, rfl, .inr e, t⟩
 | _ => cases h
def dListV (i : Nat)  (ρ : List Sl) (Q : List PyData → List Sl → Prop) : Prop := bnd (slotD ρ i) fun a => bnd (itemsD a) fun ds => Q ds ρ
theorem pf_listv {i : Nat} {K : PySem.W.Frag} (h : PE X e (tCB (rListOf K) (tCons (tVar i) tNil))) : PE X e (fOf C (dListV i)) := PE.wk h fun _ _ _ zz16 => el3 zz16 fun ρ P _ zz17 ht k => zz17.elim fun col r => by
 obtain ⟨a, ha, ht⟩ := bnd_of ht
 obtain ⟨ds, hn, q⟩ := bnd_of ht
 obtain ⟨v, ev, t⟩ := r.slot ha
 obtain ⟨p, vs, rfl, e, t⟩ := items_rd t hn
 exact ⟨_, ev, p, vs, rfl, e.elim (fun e => .inl (SqL.of e)) (fun e => .inr (SqT.of e)), fun l hl => k _ _ _ _ _ ⟨col, r, t⟩ hl q⟩
def dList (ta : DE)  (ρ : List Sl) (Q : List PyData → List Sl → Prop) : Prop := ta ρ fun a ρ' => bnd (itemsD a) fun ds => Q ds ρ'
theorem pf_list {K : PySem.W.Frag} (h : PE X e (tCB (rListOf K) (tCons (eOf C ta) tNil))) : PE X e (fOf C (dList ta)) := PE.wk h fun _ _ _ zz18 => el3 zz18 fun ρ P _ R ht k => ⟨ρ, P, _, R, ht, fun v d ρ' H' zz19 q => zz19.elim fun col r => by
 obtain ⟨ds, hn, q⟩ := bnd_of q
 obtain ⟨p, vs, rfl, e, t⟩ := items_rd (.th (r.pd _ List.mem_cons_self)) hn
 exact ⟨p, vs, rfl, e.elim (fun e => .inl (SqL.of e)) (fun e => .inr (SqT.of e)), fun l hl => k _ _ _ _ _ ⟨col, r.sub fun _ h => List.mem_cons_of_mem _ h, t⟩ hl q⟩⟩
abbrev DO := List Sl → (Option Int → List Sl → Prop) → Prop
def oOf (C : DC) (t : DO) : TO := fun σ H Q => ∃ ρ P Qd, Rel C ρ σ P H ∧ t ρ Qd ∧ ∀ o ρ' H', Rel C ρ' σ P H' → Qd o ρ' → Q o H'
def oN  (ρ : List Sl) (Q : Option Int → List Sl → Prop) : Prop := Q none ρ
def oS (t : DE)  (ρ : List Sl) (Q : Option Int → List Sl → Prop) : Prop := t ρ fun d ρ' => match d with
 | .int i => Q (some i) ρ'
 | _ => False
theorem do_n : PO X none (oOf C oN) := PO.wk po_none fun _ _ _ zz20 => el3 zz20 fun _ _ _ R ht k => k _ _ _ R ht
theorem do_s (h : PE X e (eOf C t)) : PO X (some e) (oOf C (oS t)) := PO.wk (po_some h) fun _ _ _ zz21 => el3 zz21 fun ρ P _ R ht k => ⟨ρ, P, _, R, ht, fun v d ρ' H' R' q => by
 split at q
 ·obtain ⟨col, r⟩ := R'
  have t := r.pd _ List.mem_cons_self
  cases (show ThV (Z col) H' v (.int _) from t)
  exact ⟨_, rfl, k _ _ _ (Rel.pop ⟨col, r⟩) q⟩
 ·exact q.elim⟩
def cutD (xs : List PyData) (lo hi : Option Int) : List PyData := (xs.drop (HT.sIx xs.length 0 lo)).take (HT.sIx xs.length xs.length hi - HT.sIx xs.length 0 lo)
theorem ThVs.drop {F : Addr → Prop} {H : Hp} : ∀ {vs : List V} {ds : List PyData} (n : Nat), ThVs F H vs ds → ThVs F H (vs.drop n) (ds.drop n)
 | _, _, 0, h => h
 | _, _, _ + 1, .nil => .nil
 | _, _, n + 1, .cons _ t => ThVs.drop n t
theorem ThVs.take {F : Addr → Prop} {H : Hp} : ∀ {vs : List V} {ds : List PyData} (n : Nat), ThVs F H vs ds → ThVs F H (vs.take n) (ds.take n)
 | _, _, 0, _ => .nil
 | _, _, _ + 1, .nil => .nil
 | _, _, n + 1, .cons x t => .cons x (ThVs.take n t)
theorem cut_th {F : Addr → Prop} {H : Hp} {vs : List V} {ds : List PyData} (t : ThVs F H vs ds) (lo hi : Option Int) : ThVs F H (cutV vs lo hi) (cutD ds lo hi) := by
 unfold cutV cutD
 rw [t.len]
 exact (t.drop _).take _
def listD : PyData → Option (List PyData)
 | .list xs => some xs
 | _ => none
def dSlV (i : Nat) (tl th : DO)  (ρ : List Sl) (Q : List PyData → List Sl → Prop) : Prop := bnd (slotD ρ i) fun _ => tl ρ fun lo ρ1 => th ρ1 fun hi ρ2 => bnd (slotD ρ2 i) fun a => bnd (listD a) fun xs => Q (cutD xs lo hi) ρ2
theorem pf_slv {i : Nat} {lo hi : Option Expr} {p2 : Pos} {tl th : DO} (ha : PE X a (tVar i)) (hl : PO X lo (oOf C tl)) (hh : PO X hi (oOf C th)) : PE X (.Subscript a (.Slice lo hi none p2) pos) (fOf C (dSlV i tl th)) := PE.wk (pe_slice sl_list ha hl hh) fun σ H Q zz22 => el3 zz22 fun ρ P Qd zz23 ht k => zz23.elim fun col0 r0 => by
 obtain ⟨_, h0, ht⟩ := bnd_of ht
 obtain ⟨v, ev, _⟩ := r0.slot h0
 refine ⟨v, ev, ρ, P, _, ⟨col0, r0⟩, ht, fun lo ρ1 H1 R1 h1 => ⟨ρ1, P, _, R1, h1, fun hi ρ2 H2 R2 h2 => ?_⟩⟩
 obtain ⟨a, ha, h2⟩ := bnd_of h2
 obtain ⟨xs, hx, q⟩ := bnd_of h2
 obtain ⟨col, r⟩ := R2
 obtain ⟨v', ev', t1⟩ := r.slot ha
 rw [ev] at ev'
 cases ev'
 cases a with
 | list ds =>
  cases hx
  obtain ⟨p, vs, rfl, e, t⟩ := t1.lst
  exact ⟨p, vs, rfl, SqL.of e, fun b hb => k _ _ _ _ _ ⟨col, r, cut_th t lo hi⟩ hb q⟩
 | _ => cases hx
def dSl (ta : DE) (tl th : DO)  (ρ : List Sl) (Q : List PyData → List Sl → Prop) : Prop := ta ρ fun a ρ0 => tl ρ0 fun lo ρ1 => th ρ1 fun hi ρ2 => bnd (listD a) fun xs => Q (cutD xs lo hi) ρ2
def dCat (ta tb : DE)  (ρ : List Sl) (Q : List PyData → List Sl → Prop) : Prop := ta ρ fun a ρ1 => tb ρ1 fun b ρ2 => bnd (listD a) fun xs => bnd (listD b) fun ys => xs.length + ys.length ≤ 100000 ∧ Q (xs ++ ys) ρ2
theorem pf_cat (ha : PE X a (eOf C ta)) (hb : PE X b (eOf C tb)) : PE X (.BinOp a .Add b pos) (fOf C (dCat ta tb)) := PE.wk (pe_op op_cat ha hb) fun σ H Q zz25 => el3 zz25 fun ρ P Qd R ht k =>
 ⟨ρ, P, _, R, ht, fun v a ρ1 H1 R1 h1 => ⟨ρ1, _, _, R1, h1, fun w b ρ2 H2 R2 h2 => by
  obtain ⟨xs, hx, h2⟩ := bnd_of h2
  obtain ⟨ys, hy, h3, q⟩ := bnd_of h2
  obtain ⟨col, r, t1, t2⟩ := th2 R2
  cases a with
  | list ds =>
   cases b with
   | list es =>
    cases hx; cases hy
    obtain ⟨p, vs, rfl, e, t⟩ := Red.lst (.th t1)
    obtain ⟨p', vs', rfl, e', t'⟩ := Red.lst (.th t2)
    exact ⟨p, p', vs, vs', rfl, rfl, e, e', by rw [t.len, t'.len, sizeLine_eq]; lia, fun b hb => k _ _ _ _ _ ⟨col, r, t.append t'⟩ hb q⟩
   | _ => cases hy
  | _ => cases hx⟩⟩
def repD (xs : List PyData) (n : Nat) : List PyData := (List.replicate n xs).flatten
theorem rep_th {F : Addr → Prop} {H : Hp} {vs : List V} {ds : List PyData} (t : ThVs F H vs ds) : ∀ n : Nat, ThVs F H (List.replicate n vs).flatten (repD ds n)
 | 0 => .nil
 | n + 1 => by
  unfold repD
  rw [List.replicate_succ, List.replicate_succ, List.flatten_cons, List.flatten_cons]
  exact t.append (rep_th t n)
def dRep (ta tb : DE)  (ρ : List Sl) (Q : List PyData → List Sl → Prop) : Prop := ta ρ fun a ρ1 => tb ρ1 fun b ρ2 => match b with
 | .int k => bnd (listD a) fun xs => (-1000 ≤ k ∧ k ≤ 1000 ∧ xs.length ≤ 100) ∧ Q (repD xs k.toNat) ρ2
 | _ => False
theorem pf_rep (ha : PE X a (eOf C ta)) (hb : PE X b (eOf C tb)) : PE X (.BinOp a .Mult b pos) (fOf C (dRep ta tb)) := PE.wk (pe_op op_rep ha hb) fun σ H Q zz26 => el3 zz26 fun ρ P Qd R ht k =>
 ⟨ρ, P, _, R, ht, fun v a ρ1 H1 R1 h1 => ⟨ρ1, _, _, R1, h1, fun w b ρ2 H2 R2 h2 => by
  split at h2
  ·obtain ⟨xs, hx, ⟨h3, h4, h5⟩, q⟩ := bnd_of h2
   obtain ⟨col, r, t1, t2⟩ := th2 R2
   cases t2
   cases a with
   | list ds =>
    cases hx
    obtain ⟨p, vs, rfl, e, t⟩ := Red.lst (.th t1)
    rename_i kk
    refine ⟨p, kk, vs, rfl, rfl, e, by lia, by lia, ?_, fun b hb => k _ _ _ _ _ ⟨col, r, rep_th t _⟩ hb q⟩
    have hl := t.len
    rw [← hl] at h5
    have : vs.length * kk.toNat ≤ 100 * 1000 := Nat.mul_le_mul h5 (by lia)
    rw [sizeLine_eq]
    lia
   | _ => cases hx
  ·exact h2.elim⟩⟩
def tyD : PyData → Option String
 | .none => some "NoneType"
 | .bool _ => some "bool"
 | .int _ => some "int"
 | .str _ => some "str"
 | .list _ => some "list"
 | .tuple _ => some "tuple"
 | .dict _ => some "dict"
theorem ty_rd {K : PySem.W.Frag} {col : Addr → Nat} {H : Hp} {v : V} {a : PyData} (t : Red col H v a) : ∃ T, tyD a = some T ∧ TyOf2 K H v (.type T) := by
 cases t with
 | th t => cases t with
  | non => exact ⟨_, rfl, .o .non⟩
  | bl b => exact ⟨_, rfl, .o (.bl b)⟩
  | int i => exact ⟨_, rfl, .o (.int i)⟩
  | str x => exact ⟨_, rfl, .o (.str x)⟩
  | lst _ e _ => exact ⟨_, rfl, .o (.lst e)⟩
  | tup _ e _ => exact ⟨_, rfl, .o (.tup e)⟩
  | dic _ e u => cases u with
   | t => exact ⟨_, rfl, .o (.dT e)⟩
   | k i j => exact ⟨_, rfl, .o (.dK e)⟩
   | f o ks => exact ⟨_, rfl, .f e⟩
 | ls e _ => exact ⟨_, rfl, .o (.lst e)⟩
def isiD (T : String) (d : PyData) : Bool := match tyD d with
 | some t => t == T || (T == "int" && t == "bool")
 | none => false
def TyOk (K : PySem.W.Frag) (T : String) : Prop := ∀ d t, tyD d = some t → PySem.W.kitOne K (.type t) (.type T) = some (isiD T d)
abbrev rIsi (K : PySem.W.Frag) : List V → Hp → VK → Prop := fun xs H Q => ∃ x cv c t b, xs = [x, cv] ∧ RelV cv c ∧ TyOf2 K H x t ∧ PySem.W.kitOne K t c = some b ∧ Q (.bl b) H
def dIsiV (i : Nat) (T : String)  (ρ : List Sl) (Q : PyData → List Sl → Prop) : Prop := bnd (slotD ρ i) fun a => Q (.bool (isiD T a)) ρ
theorem pd_isiv {i : Nat} {K : PySem.W.Frag} {T : String} (hT : TyOk K T) (h : PE X e (tCB (rIsi K) (tCons (tVar i) (tCons (tC (.ty T)) tNil)))) : PE X e (eOf C (dIsiV i T)) := PE.wk h fun _ _ _ zz27 => el3 zz27 fun ρ P _ zz28 ht k => zz28.elim fun col r => by
 obtain ⟨a, ha, q⟩ := bnd_of ht
 obtain ⟨v, ev, t⟩ := r.slot ha
 obtain ⟨t', e1, e2⟩ := ty_rd (K := K) t
 exact ⟨v, ev, v, .ty T, .type T, _, _, rfl, rfl, e2, hT a t' e1, k _ _ _ _ ⟨col, r.push (.bl _)⟩ q⟩
def dIsi (ta : DE) (T : String)  (ρ : List Sl) (Q : PyData → List Sl → Prop) : Prop := ta ρ fun a ρ' => Q (.bool (isiD T a)) ρ'
theorem ty_int {K : PySem.W.Frag} : TyOk K "int" := fun d t h => by cases d <;> cases h <;> with_unfolding_all rfl
theorem ty_bool {K : PySem.W.Frag} : TyOk K "bool" := fun d t h => by cases d <;> cases h <;> with_unfolding_all rfl
theorem ty_list {K : PySem.W.Frag} : TyOk K "list" := fun d t h => by cases d <;> cases h <;> with_unfolding_all rfl
theorem ty_tuple {K : PySem.W.Frag} : TyOk K "tuple" := fun d t h => by cases d <;> cases h <;> with_unfolding_all rfl
end
inductive Md where
 | sh
 | bo
 | hd
 | b2
 | bd
def rowsL : List PyData → Option (List (List PyData))
 | [] => some []
 | .list ds :: r => (rowsL r).map (ds :: ·)
 | _ => none
def rowsD : PyData → Option (List (List PyData))
 | .list xs => rowsL xs
 | _ => none
abbrev lls (dss : List (List PyData)) : List PyData := dss.map PyData.list
theorem rowsL_eq {xs : List PyData} {dss : List (List PyData)} (h : rowsL xs = some dss) : xs = lls dss := by
 induction xs generalizing dss with
 | nil => cases h; rfl
 | cons x r ih =>
  cases x with
  | list ds =>
   have h' : (rowsL r).map (ds :: ·) = some dss := h
   cases q : rowsL r with
   | none => rw [q] at h'; cases h'
   | some ess =>
    rw [q] at h'
    cases h'
    rw [ih q]; rfl
  | _ => cases h
theorem rowsD_eq {d : PyData} {dss : List (List PyData)} (h : rowsD d = some dss) : d = .list (lls dss) := by
 cases d with
 | list xs => rw [rowsL_eq h]
 | _ => cases h
theorem th_rows {F : Addr → Prop} {H : Hp} {dss : List (List PyData)} {vs : List V} (t : ThVs F H vs (lls dss)) : ∃ as : List Addr, vs = as.map V.ref ∧ Rws F F H as dss := by
 induction dss generalizing vs with
 | nil => cases t; exact ⟨[], rfl, .nil⟩
 | cons ds dss ih =>
  cases t with
  | cons x y =>
   obtain ⟨as, rfl, r⟩ := ih y
   cases x with
   | lst n e z => exact ⟨_ :: as, rfl, .cons n e z r⟩
def slot2 (ρ : List Sl) (i : Nat) : Option (List (List PyData)) := match ρ[i]? with
 | some (.o2 dss) => some dss
 | some (.b2 dss) => some dss
 | some (.sh d) => rowsD d
 | _ => none
def ArgR (F : Addr → Prop) (hand : Option (Addr × Addr)) (H : Hp) (v : V) (d : PyData) : Md → Prop
 | .sh => ThV F H v d
 | .bo => ∃ a vs ds, v = .ref a ∧ d = .list ds ∧ (∀ q, hand = some q → a ≠ q.1) ∧ H a = some (.lst vs) ∧ ThVs F H vs ds
 | .hd => ∃ q, hand = some q ∧ v = .ref q.1
 | .b2 => ∃ a as dss, v = .ref a ∧ d = .list (lls dss) ∧ (∀ q, hand = some q → a ≠ q.1) ∧ H a = some (.lst (as.map V.ref)) ∧ Rws (fun b => ∀ q, hand = some q → b ≠ q.1) F H as dss
 | .bd => ThV (fun b => ∀ q, hand = some q → b ≠ q.1) H v d
inductive ArgsR (F : Addr → Prop) (hand : Option (Addr × Addr)) (H : Hp) : List Md → List V → List PyData → Prop
 | nil : ArgsR F hand H [] [] []
 | cons {m v d ms vs ds} : ArgR F hand H v d m → ArgsR F hand H ms vs ds → ArgsR F hand H (m :: ms) (v :: vs) (d :: ds)
theorem ArgsR.len {F : Addr → Prop} {hand : Option (Addr × Addr)} {H : Hp} {ms : List Md} {vs : List V} {ds : List PyData} (t : ArgsR F hand H ms vs ds) : vs.length = ms.length ∧ ds.length = ms.length := by
 induction t with
 | nil => exact ⟨rfl, rfl⟩
 | cons _ t ih => exact ⟨congrArg (· + 1) ih.1, congrArg (· + 1) ih.2⟩
abbrev DSp := List PyData → (PyData → Prop) → Prop
def spD (ms : List Md) (sp : DSp) : Sp := fun vs H Q _ => ∃ F hand ds Qd, ((∀ b, H b = none → F b) ∧ ∀ b xs, H b = some (.tup xs) → F b) ∧ (∀ q, hand = some q → ¬ F q.1) ∧ Hq hand H ∧ ArgsR F hand H ms vs ds ∧ sp ds Qd ∧ ∀ d v H', Qd d → ThV F H' v d → Kq hand H H' → Hq hand H' → Q v H'
inductive Ar where
 | v (d : PyData)
 | s (i : Nat)
 | w (d : PyData)
inductive ArV (σ : St) (P : List Pe) : List V → List Ar → Prop
 | nil : ArV σ P [] []
 | v {v d vs as} : Pe.v v d ∈ P → ArV σ P vs as → ArV σ P (v :: vs) (.v d :: as)
 | s {i v vs as} : σ[i]? = some (some v) → ArV σ P vs as → ArV σ P (v :: vs) (.s i :: as)
 | w {v d vs as} : Pe.w v d ∈ P → ArV σ P vs as → ArV σ P (v :: vs) (.w d :: as)
abbrev DA := List Sl → (List Ar → List Sl → Prop) → Prop
def aOf (C : DC) (t : DA) : TA := fun σ H Q => ∃ ρ P Qd, Rel C ρ σ P H ∧ t ρ Qd ∧ ∀ vs as ρ' P' H', Rel C ρ' σ P' H' → (∀ p ∈ P, p ∈ P') → ArV σ P' vs as → Qd as ρ' → Q vs H'
def isSl (ρ : List Sl) (i : Nat) : Bool := match ρ[i]? with
 | some .no => false
 | none => false
 | _ => true
section
variable {X : Cx} {C : DC} {e : Expr} {es : List Expr} {t : DE} {u : DA}
def aNil  (ρ : List Sl) (Q : List Ar → List Sl → Prop) : Prop := Q [] ρ
def aV (t : DE) (u : DA)  (ρ : List Sl) (Q : List Ar → List Sl → Prop) : Prop := t ρ fun d ρ1 => u ρ1 fun as ρ2 => Q (.v d :: as) ρ2
def aS (i : Nat) (u : DA)  (ρ : List Sl) (Q : List Ar → List Sl → Prop) : Prop := isSl ρ i = true ∧ u ρ fun as ρ2 => Q (.s i :: as) ρ2
theorem da_nil : PA X [] (aOf C aNil) := PA.wk pa_nil fun _ _ _ zz31 => el3 zz31 fun _ _ _ R ht k => k [] [] _ _ _ R (fun _ h => h) .nil ht
theorem da_v (ha : PE X e (eOf C t)) (hr : PA X es (aOf C u)) (hs : starEach (e :: es) X.env = (false, eval e X.env) :: starEach es X.env := by rfl) : PA X (e :: es) (aOf C (aV t u)) := PA.wk (pa_cons ha hr hs) fun _ _ _ zz32 => el3 zz32 fun ρ P _ R ht k =>
 ⟨ρ, P, _, R, ht, fun _ _ ρ1 _ R1 h1 => ⟨ρ1, _, _, R1, h1, fun _ _ _ _ _ R2 s2 p2 h2 => k _ _ _ _ _ R2 (fun p hp => s2 p (List.mem_cons_of_mem _ hp)) (.v (s2 _ List.mem_cons_self) p2) h2⟩⟩
theorem slot_at {col : Addr → Nat} {ρ : List Sl} {σ : St} {P : List Pe} {H : Hp} {i : Nat} (r : RelC C col ρ σ P H) (h : isSl ρ i = true) : ∃ v, σ[i]? = some (some v) := by
 unfold isSl at h
 split at h
 ·cases h
 ·cases h
 ·rename_i s n1 n2
  cases q : ρ[i]? with
  | none => exact absurd q n2
  | some s =>
   have z := r.sl i s q
   cases s with
   | no => exact absurd q n1
   | sh d => obtain ⟨v, e, _⟩ := z; exact ⟨v, join_some e⟩
   | ow d => obtain ⟨a, _, e, _⟩ := z; exact ⟨_, join_some e⟩
   | bo d => obtain ⟨a, _, e, _⟩ := z; exact ⟨_, join_some e⟩
   | hd => obtain ⟨q, _, e⟩ := z; exact ⟨_, join_some e⟩
   | o2 d => obtain ⟨a, _, e, _⟩ := z; exact ⟨_, join_some e⟩
   | b2 d => obtain ⟨a, _, e, _⟩ := z; exact ⟨_, join_some e⟩
   | di f ks => obtain ⟨a, e, _⟩ := z; exact ⟨_, join_some e⟩
   | dm f ks => obtain ⟨a, e, _⟩ := z; exact ⟨_, join_some e⟩
   | bd d => obtain ⟨v, e, _⟩ := z; exact ⟨v, join_some e⟩
   | ot d => obtain ⟨v, e, _⟩ := z; exact ⟨v, join_some e⟩
def lentD (ρ : List Sl) (i : Nat) : Option PyData := match ρ[i]? with
 | some (.bd d) => some d
 | _ => none
theorem RelC.lent {col : Addr → Nat} {ρ : List Sl} {σ : St} {P : List Pe} {H : Hp} (r : RelC C col ρ σ P H) {i : Nat} {d : PyData} (h : lentD ρ i = some d) : ∃ v, σ[i]? = some (some v) ∧ ThV (Le C) C.H0 v d := by
 unfold lentD at h
 split at h
 ·rename_i d' e
  cases h
  obtain ⟨v, e1, t⟩ := r.sl i _ e
  exact ⟨v, join_some e1, t⟩
 ·cases h
theorem RelC.le {col : Addr → Nat} {ρ : List Sl} {σ : St} {P : List Pe} {H : Hp} (r : RelC C col ρ σ P H) {v : V} {d : PyData} (t : ThV (Le C) C.H0 v d) : ThV (Le C) H v d := t.mv fun b o g e => ⟨g, r.kq b o e g.2⟩
theorem RelC.slot2 {col : Addr → Nat} {ρ : List Sl} {σ : St} {P : List Pe} {H : Hp} (r : RelC C col ρ σ P H) {i : Nat} {dss : List (List PyData)} (h : slot2 ρ i = some dss) : ∃ a as, σ[i]? = some (some (.ref a)) ∧ (∀ q, C.hand = some q → a ≠ q.1) ∧ H a = some (.lst (as.map V.ref)) ∧ Rws (fun b => ∀ q, C.hand = some q → b ≠ q.1) (Z col) H as dss := by
 unfold My.slot2 at h
 split at h
 ·rename_i dss' e
  cases h
  obtain ⟨a, as, e1, c, e2, nd, t⟩ := r.sl i _ e
  exact ⟨a, as, join_some e1, r.notH (by have := c.1; lia), e2, t.mv (fun b o z e => ⟨z, e⟩) fun b o g e => ⟨r.notH (by have := g.1; lia), e⟩⟩
 ·rename_i dss' e
  cases h
  obtain ⟨a, as, e1, c, e2, t⟩ := r.sl i _ e
  exact ⟨a, as, join_some e1, c.2, e2, t.mv (fun b o z e => ⟨z, e⟩) fun b o g e => ⟨g.2, e⟩⟩
 ·rename_i d e
  cases rowsD_eq h
  obtain ⟨v, e1, t⟩ := r.sl i _ e
  cases t with
  | lst n e2 t =>
   obtain ⟨as, rfl, t2⟩ := th_rows t
   exact ⟨_, as, join_some e1, r.notH (by rw [show col _ = 0 from n]; decide), e2, t2.mv (fun b o z e => ⟨z, e⟩) fun b o g e => ⟨r.notH (by rw [show col b = 0 from g]; decide), e⟩⟩
 ·cases h
theorem da_s {i : Nat} (ha : PE X e (tVar i)) (hr : PA X es (aOf C u)) (hs : starEach (e :: es) X.env = (false, eval e X.env) :: starEach es X.env := by rfl) : PA X (e :: es) (aOf C (aS i u)) := PA.wk (pa_cons ha hr hs) fun σ H Q zz33 => el3 zz33 fun ρ P Qd zz34 ht k => zz34.elim fun col r => by
 obtain ⟨v, ev⟩ := slot_at r ht.1
 exact ⟨v, ev, ρ, P, _, ⟨col, r⟩, ht.2, fun _ _ _ _ _ R2 s2 p2 h2 => k _ _ _ _ _ R2 s2 (.s ev p2) h2⟩
def arD (ρ : List Sl) (m : Md) (a : Ar) : Option PyData := match m, a with
 | .sh, .v d => some d
 | .bo, .v (.list ds) => some (.list ds)
 | .bo, .s i => (slotD ρ i).bind fun d => (listD d).map PyData.list
 | .hd, .s i => match ρ[i]? with
  | some .hd => some .none
  | _ => none
 | .b2, .s i => (slot2 ρ i).map fun dss => .list (lls dss)
 | .bd, .v d => some d
 | .bd, .w d => some d
 | .bd, .s i => match ρ[i]? with
  | some (.bd d) => some d
  | some (.sh d) => some d
  | _ => none
 | _, _ => none
def arsD (ρ : List Sl) : List Md → List Ar → Option (List PyData)
 | [], [] => some []
 | m :: ms, a :: as => (arD ρ m a).bind fun d => (arsD ρ ms as).map (d :: ·)
 | _, _ => none
theorem listD_eq {d : PyData} {xs : List PyData} (h : listD d = some xs) : d = .list xs := by
 cases d <;> cases h
 rfl
theorem ar_ok {col : Addr → Nat} {ρ : List Sl} {σ : St} {P : List Pe} {H : Hp} (r : RelC C col ρ σ P H) {m : Md} {v : V} {d : PyData} {a : Ar} (ha : match a with | .v d => Pe.v v d ∈ P | .s i => σ[i]? = some (some v) | .w d => Pe.w v d ∈ P) (h : arD ρ m a = some d) : ArgR (Z col) C.hand H v d m := by
 unfold arD at h
 split at h
 ·cases h; exact r.pd _ ha
 ·cases h
  have z : ThV (Z col) H v (.list _) := r.pd _ ha
  cases z with
  | lst za e t => exact ⟨_, _, _, rfl, rfl, r.notH (by rw [show col _ = 0 from za]; decide), e, t⟩
 ·rename_i i
  have ha' : σ[i]? = some (some v) := ha
  cases q : slotD ρ i with
  | none => rw [q] at h; cases h
  | some d' =>
   rw [q] at h
   cases q2 : listD d' with
   | none =>
    have h' : (listD d').map PyData.list = some d := h
    rw [q2] at h'; cases h'
   | some xs =>
    have h' : (listD d').map PyData.list = some d := h
    rw [q2] at h'
    cases h'
    have := listD_eq q2
    subst this
    unfold slotD at q
    split at q
    ·rename_i d'' e
     cases q
     obtain ⟨v', e1, t⟩ := r.sl i _ e
     rw [join_some e1] at ha'
     cases ha'
     cases t with
     | lst za e t => exact ⟨_, _, _, rfl, rfl, r.notH (by rw [show col _ = 0 from za]; decide), e, t⟩
    ·rename_i ds e
     cases q
     obtain ⟨a, vs, e1, c, _, e2, t⟩ := r.sl i _ e
     rw [join_some e1] at ha'
     cases ha'
     exact ⟨_, _, _, rfl, rfl, r.notH (by lia), e2, t⟩
    ·rename_i ds e
     cases q
     obtain ⟨a, vs, e1, c, n, e2, t⟩ := r.sl i _ e
     rw [join_some e1] at ha'
     cases ha'
     exact ⟨_, _, _, rfl, rfl, n, e2, t⟩
    ·cases q
 ·rename_i i
  have ha' : σ[i]? = some (some v) := ha
  split at h
  ·rename_i e
   cases h
   obtain ⟨q, e1, e2⟩ := r.sl i _ e
   rw [join_some e2] at ha'
   cases ha'
   exact ⟨q, e1, rfl⟩
  ·cases h
 ·rename_i i
  have ha' : σ[i]? = some (some v) := ha
  cases q : slot2 ρ i with
  | none => rw [q] at h; cases h
  | some dss =>
   rw [q] at h
   cases h
   obtain ⟨a, as, e1, n, e2, t⟩ := r.slot2 q
   rw [e1] at ha'
   cases ha'
   exact ⟨a, as, dss, rfl, rfl, n, e2, t⟩
 ·cases h
  exact ThV.mv (fun b o z e => ⟨r.notH (by rw [show col b = 0 from z]; decide), e⟩) (r.pd _ ha)
 ·cases h
  exact ThV.mv (fun b o z e => ⟨z.2, e⟩) (r.le (r.pd _ ha))
 ·rename_i i
  have ha' : σ[i]? = some (some v) := ha
  split at h
  ·rename_i e
   cases h
   obtain ⟨v', e1, t⟩ := r.sl i _ e
   rw [join_some e1] at ha'
   cases ha'
   exact ThV.mv (fun b o z e => ⟨z.2, e⟩) (r.le t)
  ·rename_i e
   cases h
   obtain ⟨v', e1, t⟩ := r.sl i _ e
   rw [join_some e1] at ha'
   cases ha'
   exact ThV.mv (fun b o z e => ⟨r.notH (by rw [show col b = 0 from z]; decide), e⟩) t
  ·cases h
 ·cases h
theorem ars_ok {col : Addr → Nat} {ρ : List Sl} {σ : St} {P : List Pe} {H : Hp} (r : RelC C col ρ σ P H) : ∀ {ms : List Md} {vs : List V} {ds : List PyData} {as : List Ar}, ArV σ P vs as → arsD ρ ms as = some ds → ArgsR (Z col) C.hand H ms vs ds
 | [], _, _, _, .nil, h => by cases h; exact .nil
 | [], _, _, _, .v _ _, h => by cases h
 | [], _, _, _, .s _ _, h => by cases h
 | [], _, _, _, .w _ _, h => by cases h
 | _ :: _, _, _, _, .nil, h => by cases h
 | m :: ms, _, ds, _, .v (d := d0) (as := as) hm t, h => by
  have h' : ((arD ρ m (.v d0)).bind fun d => (arsD ρ ms as).map (d :: ·)) = some ds := h
  cases q : arD ρ m (.v d0) with
  | none => rw [q] at h'; cases h'
  | some d =>
   rw [q] at h'
   have h2 : (arsD ρ ms as).map (d :: ·) = some ds := h'
   cases q2 : arsD ρ ms as with
   | none => rw [q2] at h2; cases h2
   | some ds' =>
    rw [q2] at h2
    cases h2
    exact .cons (ar_ok r (a := .v d0) hm q) (ars_ok r t q2)
 | m :: ms, _, ds, _, .s (i := i) (as := as) hm t, h => by
  have h' : ((arD ρ m (.s i)).bind fun d => (arsD ρ ms as).map (d :: ·)) = some ds := h
  cases q : arD ρ m (.s i) with
  | none => rw [q] at h'; cases h'
  | some d =>
   rw [q] at h'
   have h2 : (arsD ρ ms as).map (d :: ·) = some ds := h'
   cases q2 : arsD ρ ms as with
   | none => rw [q2] at h2; cases h2
   | some ds' =>
    rw [q2] at h2
    cases h2
    exact .cons (ar_ok r (a := .s i) hm q) (ars_ok r t q2)
 | m :: ms, _, ds, _, .w (d := d0) (as := as) hm t, h => by
  have h' : ((arD ρ m (.w d0)).bind fun d => (arsD ρ ms as).map (d :: ·)) = some ds := h
  cases q : arD ρ m (.w d0) with
  | none => rw [q] at h'; cases h'
  | some d =>
   rw [q] at h'
   have h2 : (arsD ρ ms as).map (d :: ·) = some ds := h'
   cases q2 : arsD ρ ms as with
   | none => rw [q2] at h2; cases h2
   | some ds' =>
    rw [q2] at h2
    cases h2
    exact .cons (ar_ok r (a := .w d0) hm q) (ars_ok r t q2)
def dCall (ms : List Md) (sp : DSp) (u : DA)  (ρ : List Sl) (Q : PyData → List Sl → Prop) : Prop := u ρ fun as ρ' => bnd (arsD ρ' ms as) fun ds => sp ds fun d => Q d ρ'
theorem pd_call {ms : List Md} {sp : DSp} {E : XK} (h : PE X e (tCall (spD ms sp) [] E (aOf C u))) : PE X e (eOf C (dCall ms sp u)) := PE.wk h fun σ H Q zz35 => el3 zz35 fun ρ P Qd R ht k => ⟨ρ, P, _, R, ht, fun vs as ρ' P' H' zz36 s p q => zz36.elim fun col r => by
 obtain ⟨ds, hds, q⟩ := bnd_of q
 rw [List.append_nil]
 obtain ⟨col, r, tp⟩ := r.norm
 refine ⟨Z col, C.hand, ds, _, ⟨r.fresh, tp⟩, fun q hq z => ?_, r.hq, ars_ok r p hds, q, fun d v H2 q2 t2 k2 h2 => k _ _ _ _ ⟨col, (((r.mv k2 h2).sub s)).push t2⟩ q2⟩
 have := r.hnd q hq
 rw [show col q.1 = 0 from z] at this
 cases this⟩
end
end My
namespace My
open PySem L2
structure ItOk (C : DC) (J : It) (xs : List PyData) (P : List Pe) : Prop where
 go : ∀ {i : Nat} {ρ : List Sl} {σ : St} {P' : List Pe} {H : Hp}, (∀ p ∈ P, p ∈ P') → Rel C ρ σ P' H → i < xs.length → J.go i H
 yld : ∀ {i : Nat} {ρ : List Sl} {σ : St} {P' : List Pe} {H H' : Hp} {x : V} {d : PyData}, (∀ p ∈ P, p ∈ P') → Rel C ρ σ P' H → xs[i]? = some d → J.yld i H x H' → Rel C ρ σ (.v x d :: P') H'
 stop : ∀ {ρ : List Sl} {σ : St} {P' : List Pe} {H : Hp}, (∀ p ∈ P, p ∈ P') → Rel C ρ σ P' H → J.stop xs.length H
theorem th_lst {F : Addr → Prop} {H : Hp} {v : V} {xs : List PyData} (t : ThV F H v (.list xs)) : ∃ a vs, v = .ref a ∧ F a ∧ H a = some (.lst vs) ∧ ThVs F H vs xs := by
 cases t with
 | lst za e t => exact ⟨_, _, rfl, za, e, t⟩
theorem th_tup {F : Addr → Prop} {H : Hp} {v : V} {xs : List PyData} (t : ThV F H v (.tuple xs)) : ∃ a vs, v = .ref a ∧ F a ∧ H a = some (.tup vs) ∧ ThVs F H vs xs := by
 cases t with
 | tup za e t => exact ⟨_, _, rfl, za, e, t⟩
def iOf (C : DC) (t : DF) : TI := fun σ H R => ∃ ρ P Qd, Rel C ρ σ P H ∧ t ρ Qd ∧ ∀ xs ρ' P' H' J, Rel C ρ' σ P' H' → (∀ p ∈ P, p ∈ P') → ItOk C J xs P' → Qd xs ρ' → R J H'
section
variable {X : Cx} {C : DC} {tg e : Expr} {t : DE} {u : DF} {pos : Pos}
theorem PI.wk {tg e : Expr} {w w' : TI} (h : PI X tg e w) (f : ∀ σ H R, w' σ H R → w σ H R) : PI X tg e w' := fun pins s σ H R I q => h pins s σ H R I (f σ H R q)
theorem it_list {K : PySem.W.Frag} {a : Addr} {vs : List V} {xs : List PyData} {P : List Pe} : ItOk C (Itl K a) xs (.n a (.lst vs) :: .s vs xs :: P) where
 go := fun {i ρ σ P' H} s R hi => by
  obtain ⟨col, r⟩ := R
  have h1 := r.pd _ (s _ List.mem_cons_self)
  have h2 : ThVs (Z col) H vs xs := r.pd _ (s _ (List.mem_cons_of_mem _ List.mem_cons_self))
  have hl := h2.len
  exact ⟨vs, vs[i], SqL.of h1.2.2, List.getElem?_eq_getElem (by lia)⟩
 yld := fun {i ρ σ P' H H' x d} s R hi y => by
  obtain ⟨e, y⟩ := y
  subst e
  obtain ⟨col, r⟩ := R
  have h1 := r.pd _ (s _ List.mem_cons_self)
  have h2 : ThVs (Z col) H' vs xs := r.pd _ (s _ (List.mem_cons_of_mem _ List.mem_cons_self))
  have hx := y vs (SqL.of h1.2.2)
  obtain ⟨d', e1, t⟩ := h2.get hx
  rw [hi] at e1
  cases e1
  exact ⟨col, r.push t⟩
 stop := fun {ρ σ P' H} s R => by
  obtain ⟨col, r⟩ := R
  have h1 := r.pd _ (s _ List.mem_cons_self)
  have h2 : ThVs (Z col) H vs xs := r.pd _ (s _ (List.mem_cons_of_mem _ List.mem_cons_self))
  have hl := h2.len
  exact ⟨vs, SqL.of h1.2.2, by lia⟩
def dIl (t : DE)  (ρ : List Sl) (Q : List PyData → List Sl → Prop) : Prop := t ρ fun d ρ' => bnd (listD d) fun xs => Q xs ρ'
theorem di_list (h : PE X e (eOf C t)) : PI X tg e (iOf C (dIl t)) := PI.wk (pi_list h) fun _ _ _ zz1 => el3 zz1 fun ρ P _ R ht k => ⟨ρ, P, _, R, ht, fun v d ρ' H' zz2 q => zz2.elim fun col r => by
 obtain ⟨xs, hx, q⟩ := bnd_of q
 have := listD_eq hx
 subst this
 obtain ⟨a, vs, rfl, za, e1, t1⟩ := th_lst (show ThV (Z col) H' v (.list xs) from r.pd _ List.mem_cons_self)
 refine ⟨a, rfl, ⟨vs, SqL.of e1⟩, k xs ρ' (.n a (.lst vs) :: .s vs xs :: P) H' _ ⟨col, ?_⟩ (fun _ h => List.mem_cons_of_mem _ (List.mem_cons_of_mem _ h)) it_list q⟩
 exact ((r.sub fun _ h => List.mem_cons_of_mem _ h).add (x := .s vs xs) t1).add (x := .n a (.lst vs)) ⟨by rw [show col a = 0 from za]; decide, r.notH (by rw [show col a = 0 from za]; decide), e1⟩⟩
def tupD : PyData → Option (List PyData)
 | .tuple xs => some xs
 | _ => none
def dIt (t : DE)  (ρ : List Sl) (Q : List PyData → List Sl → Prop) : Prop := t ρ fun d ρ' => bnd (tupD d) fun xs => Q xs ρ'
def dIv (i : Nat)  (ρ : List Sl) (Q : List PyData → List Sl → Prop) : Prop := match ρ[i]? with
 | some (.sh (.list xs)) => Q xs ρ
 | some (.ow xs) => Q xs (ρ.set i (.sh (.list xs)))
 | some (.bo xs) => Q xs ρ
 | _ => False
theorem di_var {i : Nat} (h : PE X e (tVar i)) : PI X tg e (iOf C (dIv i)) := PI.wk (pi_list h) fun σ H R' zz5 => el3 zz5 fun ρ P Qd zz6 ht k => zz6.elim fun col r => by
 unfold dIv at ht
 split at ht
 ·rename_i xs e
  obtain ⟨v, e1, t⟩ := r.sl i _ e
  obtain ⟨a, vs, rfl, za, e2, t1⟩ := th_lst t
  ·refine ⟨_, join_some e1, a, rfl, ⟨vs, SqL.of e2⟩, k xs ρ (.n a (.lst vs) :: .s vs xs :: P) H _ ⟨col, ?_⟩ (fun _ h => List.mem_cons_of_mem _ (List.mem_cons_of_mem _ h)) it_list ht⟩
   exact (r.add (x := .s vs xs) t1).add (x := .n a (.lst vs)) ⟨by rw [show col a = 0 from za]; decide, r.notH (by rw [show col a = 0 from za]; decide), e2⟩
 ·rename_i xs e
  obtain ⟨a, e1, col', r'⟩ := r.freeze e
  obtain ⟨a', vs, ea, za, e2, t1⟩ := th_lst (show ThV (Z col') H (.ref a) (.list xs) from r'.pd _ List.mem_cons_self)
  cases ea
  ·refine ⟨_, join_some e1, a, rfl, ⟨vs, SqL.of e2⟩, k xs _ (.n a (.lst vs) :: .s vs xs :: P) H _ ⟨col', ?_⟩ (fun _ h => List.mem_cons_of_mem _ (List.mem_cons_of_mem _ h)) it_list ht⟩
   exact ((r'.sub fun _ h => List.mem_cons_of_mem _ h).add (x := .s vs xs) t1).add (x := .n a (.lst vs)) ⟨by rw [show col' a = 0 from za]; decide, r'.notH (by rw [show col' a = 0 from za]; decide), e2⟩
 ·rename_i xs e
  obtain ⟨a, vs, e1, c, n, e2, t⟩ := r.sl i _ e
  exact ⟨_, join_some e1, a, rfl, ⟨vs, SqL.of e2⟩, k xs ρ (.n a (.lst vs) :: .s vs xs :: P) H _ ⟨col, (r.add (x := .s vs xs) t).add (x := .n a (.lst vs)) ⟨c, n, e2⟩⟩ (fun _ h => List.mem_cons_of_mem _ (List.mem_cons_of_mem _ h)) it_list ht⟩
 ·exact ht.elim
def rngD (lo : Int) (n : Nat) : List PyData := (List.range n).map fun i => .int (lo + ((i : Nat) : Int))
theorem rngD_get {lo : Int} {n i : Nat} {d : PyData} (h : (rngD lo n)[i]? = some d) : i < n ∧ d = .int (lo + i) := by
 unfold rngD at h
 rw [List.getElem?_map] at h
 by_cases hi : i < n
 ·rw [List.getElem?_range hi] at h
  cases h
  exact ⟨hi, rfl⟩
 ·rw [List.getElem?_eq_none (by rw [List.length_range]; lia)] at h
  cases h
theorem it_rng {lo : Int} {n : Nat} {P : List Pe} : ItOk C (Itr lo n) (rngD lo n) P where
 go := fun {i _ _ _ _} _ _ hi => by
  have : (rngD lo n).length = n := by unfold rngD; rw [List.length_map, List.length_range]
  show i < n
  lia
 yld := fun {i ρ σ P' H H' x d} _ R hi y => by
  obtain ⟨e1, e2⟩ := y
  subst e1 e2
  obtain ⟨_, e3⟩ := rngD_get hi
  subst e3
  obtain ⟨col, r⟩ := R
  exact ⟨col, r.push (.int _)⟩
 stop := fun _ _ => by
  have : (rngD lo n).length = n := by unfold rngD; rw [List.length_map, List.length_range]
  show n ≤ (rngD lo n).length
  lia
def dRng1 (u : DF)  (ρ : List Sl) (Q : List PyData → List Sl → Prop) : Prop := u ρ fun ds ρ' => match ds with
 | [.int j] => (-(2 ^ 62) ≤ j ∧ j < 2 ^ 62) ∧ Q (rngD 0 j.toNat) ρ'
 | _ => False
theorem di_rng1 (h : PI X tg e (iRng1 (vOf C u))) : PI X tg e (iOf C (dRng1 u)) := PI.wk h fun _ _ _ zz7 => el3 zz7 fun ρ P _ R ht k => ⟨ρ, P, _, R, ht, fun vs ds ρ' P' H' zz8 s p q => zz8.elim fun col r => by
 split at q
 ·have t := p.th r
  obtain ⟨v, rfl, t1⟩ := ths1 t
  cases t1
  exact ⟨_, rfl, q.1.1, q.1.2, k _ _ P' _ _ ⟨col, r⟩ s it_rng q.2⟩
 ·exact q.elim⟩
def dRng2 (u : DF)  (ρ : List Sl) (Q : List PyData → List Sl → Prop) : Prop := u ρ fun ds ρ' => match ds with
 | [.int i, .int j] => (-(2 ^ 62) ≤ i ∧ i < 2 ^ 62 ∧ -(2 ^ 62) ≤ j ∧ j < 2 ^ 62) ∧ Q (rngD i (j - i).toNat) ρ'
 | _ => False
theorem di_rng2 (h : PI X tg e (iRng2 (vOf C u))) : PI X tg e (iOf C (dRng2 u)) := PI.wk h fun _ _ _ zz9 => el3 zz9 fun ρ P _ R ht k => ⟨ρ, P, _, R, ht, fun vs ds ρ' P' H' zz10 s p q => zz10.elim fun col r => by
 split at q
 ·have t := p.th r
  obtain ⟨v, w, rfl, t1, t2⟩ := ths2 t
  cases t1; cases t2
  exact ⟨_, _, rfl, q.1, k _ _ P' _ _ ⟨col, r⟩ s it_rng q.2⟩
 ·exact q.elim⟩
def enumD (xs : List PyData) : List PyData := xs.zipIdx.map fun p => .tuple [.int (p.2 : Nat), p.1]
theorem enumD_get {xs : List PyData} {i : Nat} {d : PyData} (h : (enumD xs)[i]? = some d) : ∃ x, xs[i]? = some x ∧ d = .tuple [.int (i : Nat), x] := by
 unfold enumD at h
 rw [List.getElem?_map, List.getElem?_zipIdx] at h
 cases q : xs[i]? with
 | none => rw [q] at h; cases h
 | some x => rw [q] at h; cases h; exact ⟨x, rfl, by rw [Nat.zero_add]⟩
theorem it_enum {K : PySem.W.Frag} {a : Addr} {vs : List V} {xs : List PyData} {P : List Pe} : ItOk C (Ite K a) (enumD xs) (.n a (.lst vs) :: .s vs xs :: P) where
 go := fun {i ρ σ P' H} s R hi => by
  obtain ⟨col, r⟩ := R
  have h1 := r.pd _ (s _ List.mem_cons_self)
  have h2 : ThVs (Z col) H vs xs := r.pd _ (s _ (List.mem_cons_of_mem _ List.mem_cons_self))
  have hl := h2.len
  have hi' : i < xs.length := by unfold enumD at hi; rw [List.length_map, List.length_zipIdx] at hi; exact hi
  exact ⟨vs, vs[i], SqL.of h1.2.2, List.getElem?_eq_getElem (by lia)⟩
 yld := fun {i ρ σ P' H H' x d} s R hi y => by
  obtain ⟨p, v, rfl, hp, rfl, y⟩ := y
  obtain ⟨col, r⟩ := R
  have h1 := r.pd _ (s _ List.mem_cons_self)
  have h2 : ThVs (Z col) H vs xs := r.pd _ (s _ (List.mem_cons_of_mem _ List.mem_cons_self))
  have hx := y vs (SqL.of h1.2.2)
  obtain ⟨x, e1, rfl⟩ := enumD_get hi
  obtain ⟨d', e2, t⟩ := h2.get hx
  rw [e1] at e2
  cases e2
  exact ⟨col, r.tup (.cons (.int _) (.cons t .nil)) hp⟩
 stop := fun {ρ σ P' H} s R => by
  obtain ⟨col, r⟩ := R
  have h1 := r.pd _ (s _ List.mem_cons_self)
  have h2 : ThVs (Z col) H vs xs := r.pd _ (s _ (List.mem_cons_of_mem _ List.mem_cons_self))
  have hl := h2.len
  exact ⟨vs, SqL.of h1.2.2, by unfold enumD; rw [List.length_map, List.length_zipIdx]; lia⟩
def dEnum (t : DE)  (ρ : List Sl) (Q : List PyData → List Sl → Prop) : Prop := t ρ fun d ρ' => bnd (listD d) fun xs => Q (enumD xs) ρ'
end
def dCompL (tt : DT) (te : DE) (ρ : List Sl) (Q : List PyData → Prop) : List PyData → List PyData → Prop
 | [], acc => Q acc
 | x :: r, acc => tt (ρ ++ [.sh x]) fun b ρ' => ρ' = ρ ++ [.sh x] ∧ if b = true then te (ρ ++ [.sh x]) fun d ρ'' => ρ'' = ρ ++ [.sh x] ∧ dCompL tt te ρ Q r (acc ++ [d]) else dCompL tt te ρ Q r acc
def dComp (j : Nat) (it : DF) (tt : DT) (te : DE)  (ρ : List Sl) (Q : List PyData → List Sl → Prop) : Prop := it ρ fun xs ρ1 => (ρ1.length = j ∧ xs.length ≤ 1000) ∧ dCompL tt te ρ1 (fun ds => Q ds ρ1) xs []
def dTrue  (ρ : List Sl) (Q : Bool → List Sl → Prop) : Prop := Q true ρ
section
variable {X : Cx} {C : DC}
theorem PTs.wk {es : List Expr} {t t' : TT} (h : PTs X es t) (f : ∀ σ H Q, t' σ H Q → t σ H Q) : PTs X es t' := fun pins s σ H Q I q => h pins s σ H Q I (f σ H Q q)
theorem dts_nil : PTs X [] (cOf C dTrue) := PTs.wk pts_nil fun _ _ _ zz13 => el3 zz13 fun _ _ _ R ht k => k _ _ _ R ht
theorem Rel.ext {ρ : List Sl} {σ : St} {P : List Pe} {H : Hp} {x : V} {d : PyData} (R : Rel C ρ σ (.v x d :: P) H) : Rel C (ρ ++ [.sh d]) (σ ++ [some x]) P H := by
 obtain ⟨col, r⟩ := R
 have t : ThV (Z col) H x d := r.pd _ List.mem_cons_self
 have r := r.sub fun _ h => List.mem_cons_of_mem _ h
 refine ⟨col, { r with sl := fun i s e => ?_, len := by rw [List.length_append, List.length_append, r.len]; rfl }⟩
 by_cases hi : i < ρ.length
 ·rw [List.getElem?_append_left hi] at e
  rw [List.getElem?_append_left (by rw [← r.len]; exact hi)]
  exact r.sl i s e
 ·rw [List.getElem?_append_right (by lia)] at e
  rw [List.getElem?_append_right (by rw [← r.len]; lia), ← r.len]
  match q : i - ρ.length with
  | 0 =>
   rw [q] at e
   cases e
   exact ⟨x, rfl, t⟩
  | n + 1 => rw [q] at e; simp at e
theorem RelC.unext {col : Addr → Nat} {ρ ρ' : List Sl} {σ σ' : St} {P : List Pe} {H : Hp} (r : RelC C col (ρ ++ ρ') (σ ++ σ') P H) (hl : ρ.length = σ.length) : RelC C col ρ σ P H := by
 refine { r with sl := fun i s e => ?_, len := hl }
 have hi := (List.getElem?_eq_some_iff.mp e).1
 have := r.sl i s (by rw [List.getElem?_append_left hi]; exact e)
 rw [List.getElem?_append_left (by lia)] at this
 exact this
theorem ThVs.snoc {F : Addr → Prop} {H : Hp} {vs : List V} {ds : List PyData} {v : V} {d : PyData} (t : ThVs F H vs ds) (x : ThV F H v d) : ThVs F H (vs ++ [v]) (ds ++ [d]) := t.append (.cons x .nil)
theorem pad_eq {σ : St} {n j : Nat} {x : V} (h1 : n = σ.length + 1) (h2 : j = σ.length) : (padS n j σ).set j (some x) = σ ++ [some x] := by
 subst h1 h2
 unfold padS
 rw [List.take_of_length_le (by simp), List.set_append_right _ _ (Nat.le_refl _), List.set_append_right _ _ (Nat.le_refl _)]
 simp
theorem comp_rd {it : DF} {tt : DT} {te : DE} {n j : Nat} (hn : n = j + 1) {σ : St} {H : Hp} {Q : VK} (h : fOf C (dComp j it tt te) σ H Q) : tComp (iOf C it) n j (fun _ => cOf C tt) (fun _ => eOf C te) σ H Q := by
 obtain ⟨ρ, P, Qd, R, ht, k⟩ := h
 refine ⟨ρ, P, _, R, ht, fun xs ρ1 P1 H1 J R1 s1 io q => ?_⟩
 obtain ⟨⟨hj, hx⟩, q⟩ := q
 have lz : ∀ m, m ≤ 1000 → m ≤ sizeLine := fun m hm => Nat.le_of_lt (small1000 hm)
 refine ⟨fun i m ys H' => m = xs.length - i ∧ i ≤ xs.length ∧ ys.length ≤ i ∧ ∃ acc, Rel C ρ1 σ (.s ys acc :: P1) H' ∧ dCompL tt te ρ1 (fun ds => Qd ds ρ1) (xs.drop i) acc, ⟨xs.length, by simp, Nat.zero_le _, Nat.le_refl _, [], ?_, q⟩, ?_⟩
 ·obtain ⟨col, r⟩ := R1
  exact ⟨col, r.add (x := .s [] []) .nil⟩
 rintro i m ys H2 ⟨rfl, hi, hy, acc, R2, q2⟩
 refine ⟨lz _ (by lia), ?_⟩
 have sub2 : ∀ p ∈ P1, p ∈ Pe.s ys acc :: P1 := fun _ h => List.mem_cons_of_mem _ h
 have hlen : ρ1.length = σ.length := by obtain ⟨col, r⟩ := R2; exact r.len
 by_cases hlt : i < xs.length
 ·rw [List.drop_eq_getElem_cons hlt] at q2
  refine .inr ⟨io.go sub2 R2 hlt, fun ys' H' => ys'.length ≤ i + 1 ∧ ∃ acc, Rel C ρ1 σ (.s ys' acc :: P1) H' ∧ dCompL tt te ρ1 (fun ds => Qd ds ρ1) (xs.drop (i + 1)) acc, fun ys' H' zz14 => zz14.elim fun h1 h2 => ⟨xs.length - (i + 1), by lia, rfl, hlt, h1, h2⟩, fun x H3 y a => ?_⟩
  have R3 := (io.yld sub2 R2 (List.getElem?_eq_getElem hlt) y).ext
  rw [pad_eq (by rw [hn, ← hlen, hj]) (by rw [← hlen, hj])]
  refine ⟨_, _, _, R3, q2, fun b ρ' H4 R4 q4 => ?_⟩
  obtain ⟨rfl, q4⟩ := q4
  cases b with
  | true =>
   refine iteT ⟨_, _, _, R4, by simpa using q4, fun v d ρ'' H5 R5 q5 => ?_⟩
   obtain ⟨rfl, q5⟩ := q5
   refine ⟨by rw [List.length_append]; simp; lia, acc ++ [d], ?_, q5⟩
   obtain ⟨col, r⟩ := R5
   have t1 : ThV (Z col) H5 v d := r.pd _ List.mem_cons_self
   have t2 : ThVs (Z col) H5 ys acc := r.pd _ (List.mem_cons_of_mem _ List.mem_cons_self)
   exact ⟨col, ((r.unext hlen).sub fun _ h => List.mem_cons_of_mem _ (List.mem_cons_of_mem _ h)).add (x := .s (ys ++ [v]) (acc ++ [d])) (t2.snoc t1)⟩
  | false =>
   refine iteF ⟨by lia, acc, ?_, by simpa using q4⟩
   obtain ⟨col, r⟩ := R4
   exact ⟨col, r.unext hlen⟩
 ·have e : i = xs.length := by lia
  subst e
  rw [List.drop_length] at q2
  refine .inl ⟨io.stop sub2 R2, fun p hp => k _ _ _ _ _ ?_ hp q2⟩
  obtain ⟨col, r⟩ := R2
  exact ⟨col, r.sub fun p hp => List.mem_cons_of_mem _ (s1 p hp), r.pd _ List.mem_cons_self⟩
end
structure DEnds where
 nx : List Sl → Prop
 rt : PyData → Prop
 bk : List Sl → Prop := fun _ => False
 ct : List Sl → Prop := fun _ => False
 ro : Sl → Prop := fun _ => False
abbrev DS := DEnds → List Sl → Prop
def NewV (C : DC) (col : Addr → Nat) (H : Hp) (v : V) : Sl → Prop
 | .ow ds => ∃ a vs, v = .ref a ∧ C.H0 a = none ∧ col a ≠ 0 ∧ H a = some (.lst vs) ∧ ThVs (Z col) H vs ds
 | .o2 dss => ∃ a as, v = .ref a ∧ (C.H0 a = none ∧ col a ≠ 0) ∧ H a = some (.lst (as.map V.ref)) ∧ (a :: as).Nodup ∧ Rws (fun b => C.H0 b = none ∧ col b ≠ 0) (Z col) H as dss
 | .di false ks => ∃ a, v = .ref a ∧ C.H0 a = none ∧ H a = some (.dT (dEn ks))
 | _ => False
structure EndsR (C : DC) (P : List Pe) (Dd : DEnds) (D : Ends) : Prop where
 nx : ∀ ρ σ H, Rel C ρ σ P H → Dd.nx ρ → D.nx σ H
 rt : ∀ v d ρ σ H, Rel C ρ σ (.v v d :: P) H → Dd.rt d → D.rt v H
 bk : ∀ ρ σ H, Rel C ρ σ P H → Dd.bk ρ → D.bk σ H
 ct : ∀ ρ σ H, Rel C ρ σ P H → Dd.ct ρ → D.ct σ H
 ro : ∀ (v : V) (s : Sl) (ρ : List Sl) σ H col, RelC C col ρ σ P H → NewV C col H v s → Dd.ro s → D.rt v H
def sOf (C : DC) (t : DS) : TS := fun D σ H => ∃ ρ P Dd, Rel C ρ σ P H ∧ t Dd ρ ∧ EndsR C P Dd D
section
variable {X : Cx} {C : DC} {st : Stmt} {sts : List Stmt} {e : Expr} {t u : DS} {te : DE} {tf : DF} {c : DT} {pos : Pos}
theorem PS.wk {t t' : TS} (h : PS X st t) (f : ∀ D σ H, t' D σ H → t D σ H) : PS X st t' := fun pins s σ H D I q => h pins s σ H D I (f D σ H q)
theorem PSs.wk {t t' : TS} (h : PSs X sts t) (f : ∀ D σ H, t' D σ H → t D σ H) : PSs X sts t' := fun pins s σ H D I q => h pins s σ H D I (f D σ H q)
def dSeq (t u : DS)  (D : DEnds) (ρ : List Sl) : Prop := t { D with nx := u D } ρ
def dNext  (D : DEnds) (ρ : List Sl) : Prop := D.nx ρ
theorem dss_nil : PSs X [] (sOf C dNext) := PSs.wk pss_nil fun _ _ _ zz15 => el3 zz15 fun _ _ _ R ht E => E.nx _ _ _ R ht
theorem dss_one (h : PS X st (sOf C t)) : PSs X [st] (sOf C t) := pss_one h
theorem dss_cons (h1 : PS X st (sOf C t)) (h2 : PSs X sts (sOf C u)) : PSs X (st :: sts) (sOf C (dSeq t u)) := PSs.wk (pss_cons h1 h2) fun _ _ _ zz16 => el3 zz16 fun ρ P Dd R ht E => ⟨ρ, P, { Dd with nx := u Dd }, R, ht, ⟨fun ρ' _ _ R' h => ⟨ρ', P, Dd, R', h, E⟩, E.rt, E.bk, E.ct, E.ro⟩⟩
def Go (f : List Sl → Prop) (ρ : List Sl) : Prop := f ρ
theorem go {f : List Sl → Prop} {ρ : List Sl} (h : f ρ) : Go f ρ := h
def dSeqG (t u : DS) (D : DEnds) (ρ : List Sl) : Prop := t { D with nx := Go (u D) } ρ
theorem dss_consG (h1 : PS X st (sOf C t)) (h2 : PSs X sts (sOf C u)) : PSs X (st :: sts) (sOf C (dSeqG t u)) := PSs.wk (pss_cons h1 h2) fun _ _ _ zz17 => el3 zz17 fun ρ P Dd R ht E => ⟨ρ, P, { Dd with nx := Go (u Dd) }, R, ht, ⟨fun ρ' _ _ R' h => ⟨ρ', P, Dd, R', h, E⟩, E.rt, E.bk, E.ct, E.ro⟩⟩
def dMid (t : DS)  (D : DEnds) (ρ : List Sl) : Prop := ∃ M : List Sl → Prop, t { D with nx := M } ρ ∧ ∀ ρ', M ρ' → D.nx ρ'
theorem ds_mid (h : PS X st (sOf C t)) : PS X st (sOf C (dMid t)) := PS.wk h fun _ _ _ ⟨ρ, P, Dd, R, ⟨M, h1, h2⟩, E⟩ => ⟨ρ, P, { Dd with nx := M }, R, h1, ⟨fun ρ' σ' H' R' h => E.nx ρ' σ' H' R' (h2 ρ' h), E.rt, E.bk, E.ct, E.ro⟩⟩
theorem ds_no : PS X st (sOf C fun _ _ => False) := PS.wk ps_no fun _ _ _ zz22 => el3 zz22 fun _ _ _ _ h _ => h
def dRet (te : DE)  (D : DEnds) (ρ : List Sl) : Prop := te ρ fun d _ => D.rt d
theorem ds_ret (h : PE X e (eOf C te)) : PS X (.Return (some e) pos) (sOf C (dRet te)) := PS.wk (ps_ret h) fun _ _ _ zz23 => el3 zz23 fun ρ P _ R ht E => ⟨ρ, P, _, R, ht, fun v d _ _ R' q => E.rt v d _ _ _ R' q⟩
def dIfS (c : DT) (t u : DS)  (D : DEnds) (ρ : List Sl) : Prop := c ρ fun b ρ' => if b = true then t D ρ' else u D ρ'
theorem ds_if {ce : Expr} {a b : List Stmt} (hc : PT X ce (cOf C c)) (ha : PSs X a (sOf C t)) (hb : PSs X b (sOf C u)) : PS X (.If ce a b pos) (sOf C (dIfS c t u)) := PS.wk (ps_if hc ha hb) fun _ _ _ zz26 => el3 zz26 fun ρ P Dd R ht E => ⟨ρ, P, _, R, ht, fun b ρ' _ R' q => by
 cases b with
 | true => exact iteT ⟨ρ', P, Dd, R', by simpa using q, E⟩
 | false => exact iteF ⟨ρ', P, Dd, R', by simpa using q, E⟩⟩
def dDrop (te : DE)  (D : DEnds) (ρ : List Sl) : Prop := te ρ fun _ ρ' => D.nx ρ'
def dSet (i : Nat) (te : DE)  (D : DEnds) (ρ : List Sl) : Prop := te ρ fun d ρ' => D.nx (ρ'.set i (.sh d))
theorem ds_set {i : Nat} (hp : PS X st (tAsg (eOf C te) (gName i))) : PS X st (sOf C (dSet i te)) := PS.wk hp fun _ _ _ zz28 => el3 zz28 fun ρ P _ R ht E => ⟨ρ, P, _, R, ht, fun v d ρ' H' zz29 q => zz29.elim fun col r => E.nx _ _ _ ⟨col, ((r.store (i := i) (r.pd _ List.mem_cons_self)).sub fun _ h => List.mem_cons_of_mem _ h)⟩ q⟩
def dOwn (i : Nat) (tf : DF)  (D : DEnds) (ρ : List Sl) : Prop := tf ρ fun ds ρ' => D.nx (ρ'.set i (.ow ds))
theorem ds_own {i : Nat} (hp : PS X st (tAsg (fOf C tf) (gName i))) : PS X st (sOf C (dOwn i tf)) := PS.wk hp fun _ _ _ zz30 => el3 zz30 fun ρ P _ R ht E => ⟨ρ, P, _, R, ht, fun p vs ds ρ' H1 zz31 hp q => el2 zz31 fun col r t => E.nx _ _ _ (r.own t hp) q⟩
def dApp (i : Nat) (te : DE)  (D : DEnds) (ρ : List Sl) : Prop := match ρ[i]? with
 | some (.ow _) => te ρ fun d ρ' => match ρ'[i]? with
  | some (.ow ds) => ds.length ≤ 1000 ∧ D.nx (ρ'.set i (.ow (ds ++ [d])))
  | _ => False
 | _ => False
theorem ds_app {i : Nat} {K : PySem.W.Frag} (hp : PS X st (tDrop (tBM K "list" rAppend (tVar i) (tCons (eOf C te) tNil)))) : PS X st (sOf C (dApp i te)) := PS.wk hp fun D σ H zz36 => el3 zz36 fun ρ P Dd zz37 ht E => zz37.elim fun col r => by
 unfold dApp at ht
 split at ht
 ·rename_i ds0 e0
  obtain ⟨a, vs, e1, c, n, e2, t⟩ := r.sl i _ e0
  refine ⟨.ref a, join_some e1, .inl ⟨rfl, vs, SqL.of e2⟩, ρ, P, _, ⟨col, r⟩, ht, fun v d ρ' H' zz38 q => zz38.elim fun col' r' => ?_⟩
  split at q
  ·rename_i ds e0'
   obtain ⟨a', vs', e1', c', n', e2', t'⟩ := r'.sl i _ e0'
   rw [e1] at e1'
   cases e1'
   exact ⟨a, vs', v, rfl, rfl, e2', by rw [t'.len]; exact small1000 q.1, E.nx _ _ _ ⟨col', ((r'.write e0' e1 (t'.snoc (r'.pd _ List.mem_cons_self)))).sub fun _ h => List.mem_cons_of_mem _ h⟩ q.2⟩
  ·exact q.elim
 ·exact ht.elim
def dSetI (i : Nat) (te tk : DE)  (D : DEnds) (ρ : List Sl) : Prop := te ρ fun d ρ1 => match ρ1[i]? with
 | some (.ow _) => tk ρ1 fun k ρ2 => match ρ2[i]? with
  | some (.ow ds) => match k with
   | .int k => bnd (ixN ds.length k) fun j => D.nx (ρ2.set i (.ow (ds.set j d)))
   | _ => False
  | _ => False
 | _ => False
theorem ThVs.set {F : Addr → Prop} {H : Hp} {v : V} {d : PyData} (x : ThV F H v d) : ∀ {vs : List V} {ds : List PyData} (j : Nat), ThVs F H vs ds → ThVs F H (vs.set j v) (ds.set j d)
 | _, _, _, .nil => .nil
 | _, _, 0, .cons _ t => .cons x t
 | _, _, j + 1, .cons y t => .cons y (ThVs.set x j t)
abbrev DG := PyData → List Sl → (List Sl → Prop) → Prop
def gOf (C : DC) (g : DG) : TG := fun v σ H Q => ∃ ρ P d Qd, Rel C ρ σ (.v v d :: P) H ∧ g d ρ Qd ∧ ∀ ρ' σ', Rel C ρ' σ' P H → Qd ρ' → Q σ' H
theorem PG.wk {tg : Expr} {g g' : TG} (h : PG X tg g) (f : ∀ v σ H Q, g' v σ H Q → g v σ H Q) : PG X tg g' := fun pins s σ H v u Q I r q => h pins s σ H v u Q I r (f v σ H Q q)
def gN (i : Nat)  (d : PyData) (ρ : List Sl) (Q : List Sl → Prop) : Prop := Q (ρ.set i (.sh d))
theorem dg_name {tg : Expr} {i : Nat} (h : PG X tg (gName i)) : PG X tg (gOf C (gN i)) := PG.wk h fun _ _ _ _ ⟨_, _, _, _, ⟨col, r⟩, ht, k⟩ => k _ _ ⟨col, ((r.store (i := i) (r.pd _ List.mem_cons_self)).sub fun _ h => List.mem_cons_of_mem _ h)⟩ ht
def gT2 (i j : Nat)  (d : PyData) (ρ : List Sl) (Q : List Sl → Prop) : Prop := match d with
 | .tuple [a, b] => Q ((ρ.set i (.sh a)).set j (.sh b))
 | _ => False
def gT3 (i j k : Nat)  (d : PyData) (ρ : List Sl) (Q : List Sl → Prop) : Prop := match d with
 | .tuple [a, b, c] => Q (((ρ.set i (.sh a)).set j (.sh b)).set k (.sh c))
 | _ => False
theorem dg_t2 {tg : Expr} {i j : Nat} {K : PySem.W.Frag} (h : PG X tg (gTup K 2 (gCons (gName i) (gCons (gName j) gNil)))) : PG X tg (gOf C (gT2 i j)) := PG.wk h fun v σ H Q ⟨ρ, P, d, Qd, ⟨col, r⟩, ht, k⟩ => by
 unfold gT2 at ht
 split at ht
 ·rename_i a b
  have z : ThV (Z col) H v (.tuple [a, b]) := r.pd _ List.mem_cons_self
  cases z with
  | tup za e t =>
   obtain ⟨x, y, rfl, t1, t2⟩ := ths2 t
   exact ⟨_, _, rfl, SqT.of e, rfl, x, [y], rfl, y, [], rfl, rfl, k _ _ ⟨col, (((r.store (i := i) t1).store (i := j) t2).sub fun _ h => List.mem_cons_of_mem _ h)⟩ ht⟩
 ·exact ht.elim
theorem dg_t3 {tg : Expr} {i j l : Nat} {K : PySem.W.Frag} (h : PG X tg (gTup K 3 (gCons (gName i) (gCons (gName j) (gCons (gName l) gNil))))) : PG X tg (gOf C (gT3 i j l)) := PG.wk h fun v σ H Q ⟨ρ, P, d, Qd, ⟨col, r⟩, ht, k⟩ => by
 unfold gT3 at ht
 split at ht
 ·rename_i a b c
  have z : ThV (Z col) H v (.tuple [a, b, c]) := r.pd _ List.mem_cons_self
  cases z with
  | tup za e t =>
   cases t with
   | cons t1 t =>
    obtain ⟨y, z, rfl, t2, t3⟩ := ths2 t
    exact ⟨_, _, rfl, SqT.of e, rfl, _, [y, z], rfl, y, [z], rfl, z, [], rfl, rfl, k _ _ ⟨col, ((((r.store (i := i) t1).store (i := j) t2).store (i := l) t3).sub fun _ h => List.mem_cons_of_mem _ h)⟩ ht⟩
 ·exact ht.elim
def dAsg (te : DE) (g : DG)  (D : DEnds) (ρ : List Sl) : Prop := te ρ fun d ρ' => g d ρ' D.nx
theorem ds_asg {g : DG} (hp : PS X st (tAsg (eOf C te) (gOf C g))) : PS X st (sOf C (dAsg te g)) := PS.wk hp fun _ _ _ zz45 => el3 zz45 fun ρ P _ R ht E => ⟨ρ, P, _, R, ht, fun v d ρ' H' R' q => ⟨ρ', P, d, _, R', q, fun ρ2 σ2 R2 q2 => E.nx _ _ _ R2 q2⟩⟩
def Blk (t : DS) (D : DEnds) (ρ : List Sl) : Prop := t D ρ
def dFor (it : DF) (g : DG) (tb : DS) (D : DEnds) (ρ : List Sl) : Prop := it ρ fun xs ρ1 => ∃ I : List PyData → List Sl → Prop, I xs ρ1 ∧ (∀ x r ρ, I (x :: r) ρ → g x ρ (Blk tb { nx := I r, ct := I r, bk := D.nx, rt := D.rt })) ∧ ∀ ρ, I [] ρ → D.nx ρ
theorem ds_for {it : DF} {g : DG} {tb : DS} (hp : PS X st (tFor (iOf C it) (gOf C g) (sOf C tb))) : PS X st (sOf C (dFor it g tb)) := PS.wk hp fun D σ H zz46 => el3 zz46 fun ρ P Dd R ht E => ⟨ρ, P, _, R, ht, fun xs ρ1 P1 H1 J R1 s1 io q => by
 obtain ⟨I, q0, qs, qd⟩ := q
 refine ⟨fun i m σ' H' => m = xs.length - i ∧ i ≤ xs.length ∧ ∃ ρ', Rel C ρ' σ' P1 H' ∧ I (xs.drop i) ρ', ⟨xs.length, by simp, Nat.zero_le _, ρ1, R1, q0⟩, ?_⟩
 rintro i m σ2 H2 ⟨rfl, hi, ρ2, R2, q2⟩
 by_cases hlt : i < xs.length
 ·rw [List.drop_eq_getElem_cons hlt] at q2
  refine .inr ⟨io.go (fun _ h => h) R2 hlt, fun σ' H' => ∃ ρ', Rel C ρ' σ' P1 H' ∧ I (xs.drop (i + 1)) ρ', fun σ' H' h => ⟨xs.length - (i + 1), by lia, rfl, hlt, h⟩, fun x H3 y => ?_⟩
  refine ⟨ρ2, P1, _, _, io.yld (fun _ h => h) R2 (List.getElem?_eq_getElem hlt) y, qs _ _ _ q2, fun ρ3 σ3 R3 q3 => ?_⟩
  refine ⟨ρ3, P1, ⟨I (xs.drop (i + 1)), Dd.rt, Dd.nx, I (xs.drop (i + 1)), fun _ => False⟩, R3, q3, ⟨fun ρ4 σ4 H4 R4 q4 => ⟨ρ4, R4, q4⟩, fun v d ρ4 σ4 H4 R4 q4 => E.rt v d ρ4 σ4 H4 (R4.sub (sub_cons s1)) q4, fun ρ4 σ4 H4 R4 q4 => E.nx ρ4 σ4 H4 (R4.sub s1) q4, fun ρ4 σ4 H4 R4 q4 => ⟨ρ4, R4, q4⟩, fun _ _ _ _ _ _ _ _ h => h.elim⟩⟩
 ·have e : i = xs.length := by lia
  subst e
  rw [List.drop_length] at q2
  exact .inl ⟨io.stop (fun _ h => h) R2, E.nx _ _ _ (R2.sub s1) (qd _ q2)⟩⟩
def dWhile (c : DT) (tb : DS)  (D : DEnds) (ρ : List Sl) : Prop := ∃ W : Nat → List Sl → Prop, (∃ m, W m ρ) ∧ ∀ m ρ, W m ρ → c ρ fun b ρ1 => if b = true then Blk tb { nx := fun ρ' => ∃ m', m' < m ∧ W m' ρ', ct := fun ρ' => ∃ m', m' < m ∧ W m' ρ', bk := D.nx, rt := D.rt } ρ1 else D.nx ρ1
theorem ds_while {tb : DS} (hp : PS X st (tWhile (cOf C c) (sOf C tb))) : PS X st (sOf C (dWhile c tb)) := PS.wk hp fun D σ H ⟨ρ, P, Dd, R, ⟨W, ⟨m0, w0⟩, turn⟩, E⟩ => by
 refine ⟨fun m σ' H' => ∃ ρ', Rel C ρ' σ' P H' ∧ W m ρ', ⟨m0, ρ, R, w0⟩, ?_⟩
 rintro m σ1 H1 ⟨ρ1, R1, w1⟩
 refine ⟨ρ1, P, _, R1, turn m ρ1 w1, fun b ρ2 H2 R2 q2 => ?_⟩
 cases b with
 | true =>
  refine iteT ⟨fun σ' H' => ∃ ρ', Rel C ρ' σ' P H' ∧ ∃ m', m' < m ∧ W m' ρ', fun σ' H' zz48 => zz48.elim fun ρ' zz49 => zz49.elim fun R' zz50 => zz50.elim fun m' zz51 => zz51.elim fun hm w => ⟨m', hm, ρ', R', w⟩, ρ2, P, ⟨fun ρ' => ∃ m', m' < m ∧ W m' ρ', Dd.rt, Dd.nx, fun ρ' => ∃ m', m' < m ∧ W m' ρ', fun _ => False⟩, R2, by simpa [Blk] using q2, ⟨fun ρ4 σ4 H4 R4 q4 => ⟨ρ4, R4, q4⟩, E.rt, fun ρ4 σ4 H4 R4 q4 => E.nx ρ4 σ4 H4 R4 q4, fun ρ4 σ4 H4 R4 q4 => ⟨ρ4, R4, q4⟩, fun _ _ _ _ _ _ _ _ h => h.elim⟩⟩
 | false => exact iteF (E.nx _ _ _ R2 (by simpa using q2))
end
open PySem.Spec PyProof.Rows
def slOf : Md → PyData → Sl
 | .sh, d => .sh d
 | .bo, .list ds => .bo ds
 | .bo, _ => .no
 | .hd, _ => .hd
 | .b2, d => match rowsD d with
  | some dss => .b2 dss
  | none => .no
 | .bd, d => .bd d
theorem rowsL_lls : ∀ dss : List (List PyData), rowsL (lls dss) = some dss
 | [] => rfl
 | ds :: dss => by
  show (rowsL (lls dss)).map (ds :: ·) = some (ds :: dss)
  rw [rowsL_lls dss]; rfl
theorem slOf_b2 (dss : List (List PyData)) : slOf .b2 (.list (lls dss)) = .b2 dss := by
 show (match rowsL (lls dss) with
  | some dss => Sl.b2 dss
  | none => .no) = _
 rw [rowsL_lls]
def startD (n : Nat) : List Md → List PyData → List Sl
 | m :: ms, d :: ds => slOf m d :: startD (n - 1) ms ds
 | _, _ => List.replicate n .no
def startN : List Str → List Md → List PyData → List Sl
 | [], _, _ => []
 | _ :: N, ms, ds => (match ms, ds with
  | m :: _, d :: _ => slOf m d
  | _, _ => .no) :: startN N ms.tail ds.tail
theorem startN_nil : ∀ N : List Str, startN N [] [] = List.replicate N.length .no
 | [] => rfl
 | _ :: N => by
  show Sl.no :: startN N [] [] = _
  rw [startN_nil N]; rfl
theorem startN_eq : ∀ {N : List Str} {ms : List Md} {ds : List PyData}, ms.length ≤ N.length → ds.length = ms.length → startN N ms ds = startD N.length ms ds
 | N, [], [], _, _ => startN_nil N
 | _ :: N, m :: ms, d :: ds, h1, h2 => by
  show slOf m d :: startN N ms ds = slOf m d :: startD (N.length + 1 - 1) ms ds
  rw [startN_eq (by simpa using h1) (by simpa using h2)]; rfl
 | [], _ :: _, _, h, _ => by simp at h
 | _, [], _ :: _, _, h => by simp at h
 | _, _ :: _, [], _, h => by simp at h
section
variable {P : Program} {w : World} {K : PySem.W.Frag} {mg : Str → Option Value} {base : Heap}
theorem start_sl {C : DC} {col : Addr → Nat} {H : Hp} {F : Addr → Prop} {hand : Option (Addr × Addr)} (hC : C.hand = hand) (hH : C.H0 = H) (f : ∀ b, F b → col b = 0) (lo : ∀ b, col b ≤ 1) {ms : List Md} {vs : List V} {ds : List PyData} {n : Nat} (ar : ArgsR F hand H ms vs ds) :
  ∀ (i : Nat) (s : Sl), (startD n ms ds)[i]? = some s → ∀ j : Nat, SlR C col H j ((vs.map some ++ List.replicate (n - vs.length) none)[i]?).join s := by
 induction ar generalizing n with
 | nil =>
  intro i s e j
  have e' : (List.replicate n Sl.no)[i]? = some s := e
  rw [List.getElem?_replicate] at e'
  split at e'
  ·cases e'; trivial
  ·cases e'
 | @cons m v d ms vs ds a t ih =>
  intro i s e j
  have e' : (slOf m d :: startD (n - 1) ms ds)[i]? = some s := e
  cases i with
  | zero =>
   cases e'
   show SlR C col H j (some v) (slOf m d)
   have mv0 : ∀ b o, F b → H b = some o → Z col b ∧ H b = some o := fun b o z e => ⟨f b z, e⟩
   cases m with
   | sh => exact ⟨v, rfl, ThV.mv mv0 a⟩
   | bo =>
    obtain ⟨ad, us, es, rfl, rfl, nh, e2, t2⟩ := a
    exact ⟨ad, us, rfl, lo ad, by rw [hC]; exact nh, e2, ThVs.mv mv0 t2⟩
   | hd =>
    obtain ⟨q, hq, rfl⟩ := a
    exact ⟨q, hC.trans hq, rfl⟩
   | b2 =>
    obtain ⟨ad, as, dss, rfl, rfl, nh, e2, t2⟩ := a
    rw [slOf_b2]
    exact ⟨ad, as, rfl, ⟨lo ad, by rw [hC]; exact nh⟩, e2, t2.mv mv0 fun b o g e => ⟨⟨lo b, by rw [hC]; exact g⟩, e⟩⟩
   | bd => exact ⟨v, rfl, ThV.mv (fun b o g e => ⟨⟨(by rw [hH, e]; exact fun q => nomatch q), by rw [hC]; exact g⟩, by rw [hH]; exact e⟩) a⟩
  | succ i =>
   have := ih (n := n - 1) i s e' j
   rw [List.map_cons, List.cons_append, List.getElem?_cons_succ, List.length_cons, show n - (vs.length + 1) = n - 1 - vs.length by lia]
   exact this
theorem start_len {F : Addr → Prop} {hand : Option (Addr × Addr)} {H : Hp} {ms : List Md} {vs : List V} {ds : List PyData} {n : Nat} (a : ArgsR F hand H ms vs ds) (h : ms.length ≤ n) : (startD n ms ds).length = n := by
 induction a generalizing n with
 | nil => show (List.replicate n Sl.no).length = n; rw [List.length_replicate]
 | @cons m v d ms vs ds a t ih =>
  show (slOf m d :: startD (n - 1) ms ds).length = n
  rw [List.length_cons] at h
  rw [List.length_cons, ih (by lia)]
  lia
open Classical in
theorem fn_d {x qual : Str} {st : Stmt} {f : Addr} {fd : FuncData} {N ps : List Str} {k : Nat} {sp : DSp} {ms : List Md} (F : Fun K x qual st f fd) (S : FnScope N ps (defScope st)) (hm : ms.length = ps.length)
  (hb : ∀ (C : DC) (cdv : Value) (A : Around) (outer : List Env) (s : Shared) (H : Hp) (E : XK), Room k (A.deeper (envOfC qual (defScope st) s.heap.objs.size f cdv)) →
   ∃ t, PSs (cxOf CX0 P w K mg base N qual (defScope st) f cdv A outer s H E).nox (defBody st) (sOf C t) ∧ ∀ ds Q, ds.length = ms.length → sp ds Q → t { nx := fun _ => Q .none, rt := Q } (startN N ms ds)) :
  FnOk P w K mg base CX0 (k + 1) f fd ps (spD ms sp) := by
 refine F.ok S (fun vs H Q E h => ?_) (fun cdv A outer s H vs Q E hr h => ?_)
 ·obtain ⟨_, _, _, _, _, _, _, a, _⟩ := h
  rw [a.len.1, hm]
 ·obtain ⟨G, hand, ds, Qd, h1, h2, h3, a, h4, h5⟩ := h
  obtain ⟨t, ht, q⟩ := hb ⟨G, hand, H⟩ cdv A outer s H E hr
  have hN : ps.length ≤ N.length := by have := congrArg List.length S.pre; rw [List.length_take] at this; lia
  let col : Addr → Nat := fun b => if G b then 0 else 1
  have c0 : ∀ b, G b → col b = 0 := fun b hb => if_pos hb
  have c1 : ∀ b, ¬ G b → col b = 1 := fun b hb => if_neg hb
  have lo : ∀ b, col b ≤ 1 := fun b => by
   by_cases z : G b
   ·rw [c0 b z]; lia
   ·rw [c1 b z]; lia
  refine ⟨_, ht, startD N.length ms ds, [], ⟨fun _ => Qd .none, Qd, fun _ => False, fun _ => False, fun _ => False⟩, ⟨col, fun b hb => c0 b (h1.1 b hb), fun b hb => ?_, fun q hq => c1 _ (h2 q hq), fun i s e => start_sl (C := ⟨G, hand, H⟩) rfl rfl c0 lo a i s e i, fun p hp => (nomatch hp), Kq.refl, h3, h3, h1, ?_⟩, by rw [← startN_eq (by lia) a.len.2]; exact q ds Qd a.len.2 h4, ⟨fun ρ σ H' R h => ?_, fun v d ρ σ H' R h => ?_, fun _ _ _ _ h => h.elim, fun _ _ _ _ h => h.elim, fun _ _ _ _ _ _ _ _ h => h.elim⟩⟩
  ·by_cases z : G b
   ·exact z
   ·rw [c1 b z] at hb; cases hb
  ·rw [start_len a (by lia)]
   unfold L2.start
   rw [List.length_append, List.length_map, List.length_replicate, a.len.1]
   lia
  ·obtain ⟨col', r⟩ := R
   exact h5 _ _ _ h .non r.kq r.hq
  ·obtain ⟨col', r⟩ := R
   exact h5 _ _ _ h (ThV.mv (fun b o z e => ⟨r.inF b z, e⟩) (r.pd _ List.mem_cons_self)) r.kq r.hq
abbrev DSpO := List PyData → (List (List PyData) → Prop) → Prop
def spDO (ms : List Md) (sp : DSpO) : Sp := fun vs H Q _ => ∃ F hand ds Qd, ((∀ b, H b = none → F b) ∧ ∀ b xs, H b = some (.tup xs) → F b) ∧ (∀ q, hand = some q → ¬ F q.1) ∧ Hq hand H ∧ ArgsR F hand H ms vs ds ∧ sp ds Qd ∧
 ∀ dss a as H', Qd dss → H a = none → (∀ b ∈ as, H b = none) → (a :: as).Nodup → H' a = some (.lst (as.map V.ref)) → Rws (fun _ => True) (fun b => F b ∧ b ∉ a :: as) H' as dss → Kq hand H H' → Hq hand H' → Q (.ref a) H'
def roO (Q : List (List PyData) → Prop) : Sl → Prop
 | .o2 dss => Q dss
 | _ => False
open Classical in
theorem fn_dO {x qual : Str} {st : Stmt} {f : Addr} {fd : FuncData} {N ps : List Str} {k : Nat} {sp : DSpO} {ms : List Md} (F : Fun K x qual st f fd) (S : FnScope N ps (defScope st)) (hm : ms.length = ps.length)
  (hb : ∀ (C : DC) (cdv : Value) (A : Around) (outer : List Env) (s : Shared) (H : Hp) (E : XK), Room k (A.deeper (envOfC qual (defScope st) s.heap.objs.size f cdv)) →
   ∃ t, PSs (cxOf CX0 P w K mg base N qual (defScope st) f cdv A outer s H E).nox (defBody st) (sOf C t) ∧ ∀ ds Q, ds.length = ms.length → sp ds Q → t { nx := fun _ => False, rt := fun _ => False, ro := roO Q } (startN N ms ds)) :
  FnOk P w K mg base CX0 (k + 1) f fd ps (spDO ms sp) := by
 refine F.ok S (fun vs H Q E h => ?_) (fun cdv A outer s H vs Q E hr h => ?_)
 ·obtain ⟨_, _, _, _, _, _, _, a, _⟩ := h
  rw [a.len.1, hm]
 ·obtain ⟨G, hand, ds, Qd, h1, h2, h3, a, h4, h5⟩ := h
  obtain ⟨t, ht, q⟩ := hb ⟨G, hand, H⟩ cdv A outer s H E hr
  have hN : ps.length ≤ N.length := by have := congrArg List.length S.pre; rw [List.length_take] at this; lia
  let col : Addr → Nat := fun b => if G b then 0 else 1
  have c0 : ∀ b, G b → col b = 0 := fun b hb => if_pos hb
  have c1 : ∀ b, ¬ G b → col b = 1 := fun b hb => if_neg hb
  have lo : ∀ b, col b ≤ 1 := fun b => by
   by_cases z : G b
   ·rw [c0 b z]; lia
   ·rw [c1 b z]; lia
  refine ⟨_, ht, startD N.length ms ds, [], ⟨fun _ => False, fun _ => False, fun _ => False, fun _ => False, roO Qd⟩, ⟨col, fun b hb => c0 b (h1.1 b hb), fun b hb => ?_, fun q hq => c1 _ (h2 q hq), fun i s e => start_sl (C := ⟨G, hand, H⟩) rfl rfl c0 lo a i s e i, fun p hp => (nomatch hp), Kq.refl, h3, h3, h1, ?_⟩, by rw [← startN_eq (by lia) a.len.2]; exact q ds Qd a.len.2 h4, ⟨fun _ _ _ _ h => h.elim, fun _ _ _ _ _ _ h => h.elim, fun _ _ _ _ h => h.elim, fun _ _ _ _ h => h.elim, fun v s ρ σ H' col' r nw h => ?_⟩⟩
  ·by_cases z : G b
   ·exact z
   ·rw [c1 b z] at hb; cases hb
  ·rw [start_len a (by lia)]
   unfold L2.start
   rw [List.length_append, List.length_map, List.length_replicate, a.len.1]
   lia
  ·cases s with
   | o2 dss => ?_
   | _ => exact h.elim
   obtain ⟨a, as, rfl, c, e2, nd, t⟩ := nw
   refine h5 dss a as H' h c.1 (fun b hb => (t.mem hb).1.1) nd e2 (t.mv (fun b o z e => ⟨⟨r.inF b z, fun q => ?_⟩, e⟩) fun _ _ _ e => ⟨trivial, e⟩) r.kq r.hq
   rcases List.mem_cons.mp q with q | q
   ·exact c.2 (q ▸ z)
   ·exact (t.mem q).1.2 z
end
end My
namespace My
open PySem L2
section
variable {X : Cx} {C : DC} {tg e a b : Expr} {t ta tb : DE} {u : DF} {pos : Pos}
def intsD : List PyData → Option (List Int)
 | [] => some []
 | .int b :: r => (intsD r).map (b :: ·)
 | _ :: _ => none
theorem ints_of {F : Addr → Prop} {H : Hp} {ds : List PyData} {vs : List V} {bs : List Int} (t : ThVs F H vs ds) (h : intsD ds = some bs) : vs = bs.map V.int := by
 induction ds generalizing vs bs with
 | nil => cases t; cases h; rfl
 | cons d r ih =>
  cases t with
  | cons x y =>
   cases x with
   | int b =>
    have h' : (intsD r).map (b :: ·) = some bs := h
    cases q : intsD r with
    | none => rw [q] at h'; cases h'
    | some cs =>
     rw [q] at h'
     cases h'
     rw [ih y q]; rfl
   | _ => cases h
def gIn (neg : Bool)  (a b : PyData) (Q : PyData → Prop) : Prop := match a, b with
 | .int i, .list xs => bnd (intsD xs) fun ns => Q (.bool (if neg then !(ns.contains i) else ns.contains i))
 | _, _ => False
def dIndexV (i : Nat) (tk : DE)  (ρ : List Sl) (Q : PyData → List Sl → Prop) : Prop := bnd (slotD ρ i) fun a0 => bnd (listD a0) fun _ => tk ρ fun k ρ2 => match k with
 | .int k => bnd (slotD ρ2 i) fun a => bnd (listD a) fun xs => bnd (intsD xs) fun ns => (k ∈ ns ∧ ns.length ≤ 100000) ∧ Q (.int (ns.idxOf k : Nat)) ρ2
 | _ => False
def dLrev (t : DE)  (ρ : List Sl) (Q : List PyData → List Sl → Prop) : Prop := t ρ fun d ρ' => bnd (listD d) fun xs => Q xs.reverse ρ'
def dIrev (t : DE)  (ρ : List Sl) (Q : List PyData → List Sl → Prop) : Prop := t ρ fun d ρ' => bnd (listD d) fun xs => Q xs.reverse ρ'
theorem pf_comp {n j : Nat} {it : DF} {tt : DT} {te : DE} (hn : n = j + 1) (h : PE X e (tComp (iOf C it) n j (fun _ => cOf C tt) (fun _ => eOf C te))) : PE X e (fOf C (dComp j it tt te)) := PE.wk h fun _ _ _ h => comp_rd hn h
def gB2 (f : Bool → Bool → Bool)  (a b : PyData) (Q : PyData → Prop) : Prop := match a, b with
 | .bool i, .bool j => Q (.bool (f i j))
 | _, _ => False
end
theorem a1_0 {α : Type} {x : α} : atI [x] 0 = some x := rfl
theorem a2_0 {α : Type} {x y : α} : atI [x, y] 0 = some x := rfl
theorem a2_1 {α : Type} {x y : α} : atI [x, y] 1 = some y := rfl
theorem a3_0 {α : Type} {x y z : α} : atI [x, y, z] 0 = some x := rfl
theorem a3_1 {α : Type} {x y z : α} : atI [x, y, z] 1 = some y := rfl
theorem a3_2 {α : Type} {x y z : α} : atI [x, y, z] 2 = some z := rfl
theorem iteTT {a b : Prop} : (if true = true then a else b) = a := rfl
theorem iteFF {a b : Prop} : (if false = true then a else b) = b := rfl
theorem iteTB {a b : Bool} : (if true = true then a else b) = a := rfl
theorem iteFB {a b : Bool} : (if false = true then a else b) = b := rfl
theorem iteTI {a b : Int} : (if true = true then a else b) = a := rfl
theorem iteFI {a b : Int} : (if false = true then a else b) = b := rfl
theorem bnd_some {α : Type} {a : α} {Q : α → Prop} : bnd (some a) Q = Q a := rfl
theorem compM {α : Type} {te : DE} {ρ : List Sl} {Q : List PyData → Prop} {g f : α → PyData} : ∀ {xs : List α} {acc : List PyData}, (∀ x ∈ xs, ∀ Q' : PyData → List Sl → Prop, Q' (f x) (ρ ++ [.sh (g x)]) → te (ρ ++ [.sh (g x)]) Q') → Q (acc ++ xs.map f) → dCompL dTrue te ρ Q (xs.map g) acc
 | [], acc, _, q => by
  have q' : Q (acc ++ []) := q
  rw [List.append_nil] at q'
  exact q'
 | x :: r, acc, h, q => by
  refine ⟨rfl, ?_⟩
  rw [if_pos rfl]
  refine h x List.mem_cons_self _ ⟨rfl, compM (fun y hy => h y (List.mem_cons_of_mem _ hy)) ?_⟩
  rw [List.append_assoc]
  exact q
theorem compF {α : Type} {tt : DT} {te : DE} {ρ : List Sl} {Q : List PyData → Prop} {g f : α → PyData} {p : α → Bool} : ∀ {xs : List α} {acc : List PyData}, (∀ x ∈ xs, ∀ Q' : Bool → List Sl → Prop, Q' (p x) (ρ ++ [.sh (g x)]) → tt (ρ ++ [.sh (g x)]) Q') → (∀ x ∈ xs, p x = true → ∀ Q' : PyData → List Sl → Prop, Q' (f x) (ρ ++ [.sh (g x)]) → te (ρ ++ [.sh (g x)]) Q') →
  Q (acc ++ (xs.filter p).map f) → dCompL tt te ρ Q (xs.map g) acc
 | [], acc, _, _, q => by
  have q' : Q (acc ++ []) := q
  rw [List.append_nil] at q'
  exact q'
 | x :: r, acc, h1, h2, q => by
  refine h1 x List.mem_cons_self _ ⟨rfl, ?_⟩
  cases e : p x with
  | true =>
   rw [if_pos rfl]
   refine h2 x List.mem_cons_self e _ ⟨rfl, compF (fun y hy => h1 y (List.mem_cons_of_mem _ hy)) (fun y hy => h2 y (List.mem_cons_of_mem _ hy)) ?_⟩
   rw [List.filter_cons_of_pos e] at q
   rw [List.append_assoc]
   exact q
  | false =>
   rw [if_neg Bool.false_ne_true]
   refine compF (fun y hy => h1 y (List.mem_cons_of_mem _ hy)) (fun y hy => h2 y (List.mem_cons_of_mem _ hy)) ?_
   rw [List.filter_cons_of_neg (by rw [e]; exact Bool.false_ne_true)] at q
   exact q
end My
namespace My
open PySem L2
def dCompL3 (tt : DT) (te : DE) (ρ : List Sl) (Q : List PyData → Prop) : List PyData → List PyData → Prop
 | [], acc => Q acc
 | .tuple [x, y, z] :: r, acc => tt (ρ ++ [.sh x, .sh y, .sh z]) fun b ρ' => ρ' = ρ ++ [.sh x, .sh y, .sh z] ∧ if b = true then te (ρ ++ [.sh x, .sh y, .sh z]) fun d ρ'' => ρ'' = ρ ++ [.sh x, .sh y, .sh z] ∧ dCompL3 tt te ρ Q r (acc ++ [d]) else dCompL3 tt te ρ Q r acc
 | _ :: _, _ => False
def dCompT3 (it : DF) (tt : DT) (te : DE) (ρ : List Sl) (Q : List PyData → List Sl → Prop) : Prop := it ρ fun xs ρ1 => xs.length ≤ 1000 ∧ dCompL3 tt te ρ1 (fun ds => Q ds ρ1) xs []
section
variable {X : Cx} {C : DC}
end
section
variable {X : Cx} {C : DC}
theorem pss_exC {sts : List Stmt} {t : DS} (h : ∀ C, PSs X sts (sOf C t)) : PSs X sts (fun D σ H => ∃ C, sOf C t D σ H) := fun pins s σ H D I zz2 => zz2.elim fun C q => h C pins s σ H D I q
open Classical in
theorem law_start {H : Hp} {hd hl : Addr} {v0 : V} {k : Nat} {t : DS} {D : Ends} (d : Hd H hd hl) (hD : ∀ H', D.rt (.bl true) H') (ht : t { nx := fun _ => False, rt := fun d => d = .bool true } (.no :: .hd :: List.replicate k .no)) :
  ∃ C, sOf C t D (some v0 :: some (.ref hd) :: List.replicate k none) H := by
 refine ⟨⟨fun b => b ≠ hd, some (hd, hl), H⟩, _, [], ⟨fun _ => False, fun d => d = .bool true, fun _ => False, fun _ => False, fun _ => False⟩, ⟨fun b => if b = hd then 1 else 0, fun b hb => ?_, fun b hb => ?_, fun q hq => ?_, fun i s e => ?_, fun p hp => (nomatch hp), Kq.refl, fun q hq => ?_, fun q hq => ?_, ⟨fun b hb => ?_, fun b xs hb => ?_⟩, ?_⟩, ht, ⟨fun _ _ _ _ h => h.elim, fun v d ρ σ H' R h => ?_, fun _ _ _ _ h => h.elim, fun _ _ _ _ h => h.elim, fun _ _ _ _ _ _ _ _ h => h.elim⟩⟩
 ·obtain ⟨o, e⟩ := d.at1
  exact if_neg fun z => by rw [z, e] at hb; cases hb
 ·intro z
  have hb' : (if b = hd then 1 else 0) = 0 := hb
  rw [if_pos z] at hb'
  cases hb'
 ·cases hq
  exact if_pos rfl
 ·match i with
  | 0 => cases e; trivial
  | 1 => cases e; exact ⟨(hd, hl), rfl, rfl⟩
  | i + 2 =>
   have e' : (List.replicate k Sl.no)[i]? = some s := e
   rw [List.getElem?_replicate] at e'
   split at e'
   ·cases e'; trivial
   ·cases e'
 ·cases hq; exact d
 ·cases hq; exact d
 ·intro z
  obtain ⟨o, e⟩ := d.at1
  rw [z] at hb
  have hb' : H hd = none := hb
  rw [e] at hb'; cases hb'
 ·intro z
  obtain ⟨_, _, _, _, _, _, _, _, e⟩ := id d
  rw [z] at hb
  have hb' : H hd = some (.tup xs) := hb
  rw [e] at hb'; cases hb'
 ·simp
 ·obtain ⟨col, r⟩ := R
  have t := r.pd _ List.mem_cons_self
  subst h
  cases (show ThV (Z col) H' v (.bool true) from t)
  exact hD H'
end
end My
namespace My
open PySem L2
section
variable {X : Cx} {C : DC}
def gT5 (i j k l n : Nat)  (d : PyData) (ρ : List Sl) (Q : List Sl → Prop) : Prop := match d with
 | .tuple [a, b, c, e, f] => Q (((((ρ.set i (.sh a)).set j (.sh b)).set k (.sh c)).set l (.sh e)).set n (.sh f))
 | _ => False
def strsD : List PyData → Option (List Str)
 | [] => some []
 | .str b :: r => (strsD r).map (b :: ·)
 | _ :: _ => none
theorem strs_of {F : Addr → Prop} {H : Hp} : ∀ {ds : List PyData} {vs : List V} {bs : List Str}, ThVs F H vs ds → strsD ds = some bs → vs = bs.map V.str
 | [], _, _, .nil, h => by cases h; rfl
 | .str b :: r, _, _, .cons x y, h => by
  cases x
  unfold strsD at h
  cases q : strsD r with
  | none => rw [q] at h; cases h
  | some cs =>
   rw [q] at h
   cases h
   rw [strs_of y q]; rfl
theorem flat_strs : ∀ ns : List Str, (ns.map V.str).all flatV = true
 | [] => rfl
 | n :: ns => by rw [List.map_cons, List.all_cons, flat_strs ns]; rfl
def gInS (neg : Bool)  (a b : PyData) (Q : PyData → Prop) : Prop := match a, b with
 | .str i, .tuple xs => bnd (strsD xs) fun ns => Q (.bool (if neg then !(inV (.str i) (ns.map V.str)) else inV (.str i) (ns.map V.str)))
 | _, _ => False
theorem ok_inS {K : PySem.W.Frag} {neg : Bool} : OpOk C (rIn K neg) (gInS neg) := by
 intro ρ σ P H v w a b Qd Q R hg k
 unfold gInS at hg
 split at hg
 ·obtain ⟨ns, hn, q⟩ := bnd_of hg
  obtain ⟨col, r, t1, t2⟩ := th2 R
  cases t1
  cases t2 with
  | tup za e t =>
   have z := strs_of t hn
   subst z
   exact ⟨_, _, rfl, .inr (SqT.of e), rfl, flat_strs ns, k _ _ _ ⟨col, r.push (.bl _)⟩ q⟩
 ·exact hg.elim
def gMaxP  (ds : List PyData) (Q : PyData → Prop) : Prop := match ds with
 | [.list xs] => xs ≠ [] ∧ (∀ x ∈ xs, ∃ i j : Int, x = .tuple [.int i, .int j]) ∧ ∀ x ∈ xs, Q x
 | _ => False
theorem cut_neg1 {xs : List PyData} {x : PyData} : cutD (xs ++ [x]) none (some (-1)) = xs := by
 have e1 : HT.sIx (xs ++ [x]).length 0 none = 0 := rfl
 have e2 : HT.sIx (xs ++ [x]).length (xs ++ [x]).length (some (-1)) = xs.length := by
  show (if (-1 : Int) < 0 then ((-1 : Int) + (((xs ++ [x]).length : Nat) : Int)).toNat else min (-1 : Int).toNat (xs ++ [x]).length) = xs.length
  rw [if_pos (by decide), List.length_append, List.length_singleton]
  lia
 unfold cutD
 rw [e1, e2, List.drop_zero, Nat.sub_zero, List.take_left]
end
end My
namespace My
open PySem L2
section
variable {X : Cx} {C : DC} {e : Expr} {u : DF}
def dPopI (i : Nat) (tk : DE)  (ρ : List Sl) (Q : PyData → List Sl → Prop) : Prop := match ρ[i]? with
 | some (.ow _) => tk ρ fun k ρ' => match ρ'[i]? with
  | some (.ow ds) => match k with
   | .int k => bnd (ixN ds.length k) fun j => bnd (ds[j]?) fun d => ds.length ≤ 1000 ∧ Q d (ρ'.set i (.ow (ds.eraseIdx j)))
   | _ => False
  | _ => False
 | _ => False
def dLrng (t : DE)  (ρ : List Sl) (Q : List PyData → List Sl → Prop) : Prop := t ρ fun d ρ' => match d with
 | .int n => (0 ≤ n ∧ n ≤ 1000) ∧ Q (rngD 0 n.toNat) ρ'
 | _ => False
end
end My
namespace My
open PySem L2
def zipD (xs ys : List PyData) : List PyData := (xs.zip ys).map fun p => .tuple [p.1, p.2]
section
variable {X : Cx} {C : DC} {tg e : Expr} {t u : DE}
def dZip (t u : DE)  (ρ : List Sl) (Q : List PyData → List Sl → Prop) : Prop := t ρ fun d ρ1 => u ρ1 fun d2 ρ2 => bnd (listD d) fun xs => bnd (listD d2) fun ys => Q (zipD xs ys) ρ2
end
def dCompL2 (tt : DT) (te : DE) (ρ : List Sl) (Q : List PyData → Prop) : List PyData → List PyData → Prop
 | [], acc => Q acc
 | .tuple [x, y] :: r, acc => tt (ρ ++ [.sh x, .sh y]) fun b ρ' => ρ' = ρ ++ [.sh x, .sh y] ∧ if b = true then te (ρ ++ [.sh x, .sh y]) fun d ρ'' => ρ'' = ρ ++ [.sh x, .sh y] ∧ dCompL2 tt te ρ Q r (acc ++ [d]) else dCompL2 tt te ρ Q r acc
 | _ :: _, _ => False
def dCompT2 (it : DF) (tt : DT) (te : DE) (ρ : List Sl) (Q : List PyData → List Sl → Prop) : Prop := it ρ fun xs ρ1 => xs.length ≤ 1000 ∧ dCompL2 tt te ρ1 (fun ds => Q ds ρ1) xs []
section
variable {X : Cx} {C : DC}
end
section
variable {X : Cx} {C : DC} {st : Stmt} {te : DE}
end
end My
namespace My
open PySem L2
section
variable {X : Cx} {C : DC} {st : Stmt}
def dIns (i : Nat) (tk te : DE)  (D : DEnds) (ρ : List Sl) : Prop := match ρ[i]? with
 | some (.ow _) => tk ρ fun k ρ1 => te ρ1 fun d ρ2 => match ρ2[i]? with
  | some (.ow ds) => ∃ n : Nat, k = .int ((n : Nat) : Int) ∧ n ≤ ds.length ∧ ds.length ≤ 1000 ∧ D.nx (ρ2.set i (.ow (ds.take n ++ [d] ++ ds.drop n)))
  | _ => False
 | _ => False
end
end My
namespace My
open PySem L2
theorem Rws.mvm {G F G' F' : Addr → Prop} {H H' : Hp} {as : List Addr} {dss : List (List PyData)} (t : Rws G F H as dss) (f : ∀ b o, F b → H b = some o → F' b ∧ H' b = some o) (g : ∀ b o, b ∈ as → G b → H b = some o → G' b ∧ H' b = some o) : Rws G' F' H' as dss := by
 induction t with
 | nil => exact .nil
 | cons x e y _ ih =>
  have := g _ _ List.mem_cons_self x e
  exact .cons this.1 this.2 (y.mv f) (ih fun b o hb => g b o (List.mem_cons_of_mem _ hb))
theorem Rws.put {G F : Addr → Prop} {H : Hp} {as : List Addr} {dss : List (List PyData)} {b : Addr} {ws : List V} {es : List PyData} (t : Rws G F H as dss) (nd : as.Nodup) {k : Nat} (hb : as[k]? = some b) (mv0 : ∀ x o, F x → H x = some o → F x ∧ upd H b (.lst ws) x = some o) (y : ThVs F (upd H b (.lst ws)) ws es) : Rws G F (upd H b (.lst ws)) as (dss.set k es) := by
 induction t generalizing k with
 | nil => cases hb
 | @cons c vs as ds dss x e z t ih =>
  have nd' := List.nodup_cons.mp nd
  cases k with
  | zero =>
   have : c = b := Option.some.inj hb
   subst this
   exact .cons x upd_same y (t.mvm mv0 fun d o hd g e => ⟨g, by rw [upd_ne (show d ≠ c from fun q => nd'.1 (by rw [← q]; exact hd))]; exact e⟩)
  | succ k =>
   have hb' : as[k]? = some b := hb
   have : c ≠ b := fun q => nd'.1 (q ▸ List.mem_of_getElem? hb')
   exact .cons x (by rw [upd_ne this]; exact e) (z.mv mv0) (ih nd'.2 hb')
section
variable {C : DC} {col col' : Addr → Nat} {ρ : List Sl} {σ σ' : St} {P : List Pe} {H H' : Hp} {p : Addr}
theorem RelC.chg (r : RelC C col ρ σ P H) (i : Nat) (s : Sl) (hl : ρ.length = σ'.length) (fr : ∀ b, H' b = none → col' b = 0) (inF : ∀ b, col' b = 0 → C.F b) (hnd : ∀ q, C.hand = some q → col' q.1 = 1)
  (z : ∀ b o, col b = 0 → H b = some o → col' b = 0 ∧ H' b = some o)
  (lo : ∀ b o, col b ≤ 1 → (∀ q, C.hand = some q → b ≠ q.1) → H b = some o → col' b ≤ 1 ∧ H' b = some o)
  (c2 : ∀ c as dss, Pe.o c as dss ∈ P → ∀ b o, col b = 2 * c + 2 → H b = some o → col' b = 2 * c + 2 ∧ H' b = some o)
  (ow : ∀ b o j, j ≠ i → col b = 2 * j + 3 → H b = some o → col' b = 2 * j + 3 ∧ H' b = some o)
  (kq : Kq C.hand C.H0 H') (hq : Hq C.hand H') (same : ∀ j, j ≠ i → σ'[j]? = σ[j]?)
  (new : i < ρ.length → SlR C col' H' i (σ'[i]?).join s) : RelC C col' (ρ.set i s) σ' P H' := by
 have mv0 : ∀ b o, Z col b → H b = some o → Z col' b ∧ H' b = some o := z
 refine ⟨fr, inF, hnd, fun j s' es => ?_, fun x hx => ?_, kq, hq, r.hq0, r.nf, by rw [List.length_set]; exact hl⟩
 ·by_cases hj : j = i
  ·subst hj
   rw [List.getElem?_set] at es
   simp only [if_true] at es
   split at es
   ·rename_i hl'
    cases es
    exact new hl'
   ·cases es
  ·rw [List.getElem?_set_ne (Ne.symm hj)] at es
   rw [same j hj]
   have h := r.sl j s' es
   cases s' with
   | no => trivial
   | sh d => obtain ⟨v, e1, t⟩ := h; exact ⟨v, e1, t.mv mv0⟩
   | ow ds => obtain ⟨a, vs, e1, c, n, e2, t⟩ := h; exact ⟨a, vs, e1, (ow a _ j hj c e2).1, n, (ow a _ j hj c e2).2, t.mv mv0⟩
   | bo ds => obtain ⟨a, vs, e1, c, n, e2, t⟩ := h; exact ⟨a, vs, e1, (lo a _ c n e2).1, n, (lo a _ c n e2).2, t.mv mv0⟩
   | hd => exact h
   | o2 dss => obtain ⟨a, as, e1, c, e2, nd, t⟩ := h; exact ⟨a, as, e1, ⟨(ow a _ j hj c.1 e2).1, c.2⟩, (ow a _ j hj c.1 e2).2, nd, t.mv mv0 fun b o g e => ⟨⟨(ow b o j hj g.1 e).1, g.2⟩, (ow b o j hj g.1 e).2⟩⟩
   | b2 dss => obtain ⟨a, as, e1, c, e2, t⟩ := h; exact ⟨a, as, e1, ⟨(lo a _ c.1 c.2 e2).1, c.2⟩, (lo a _ c.1 c.2 e2).2, t.mv mv0 fun b o g e => ⟨⟨(lo b o g.1 g.2 e).1, g.2⟩, (lo b o g.1 g.2 e).2⟩⟩
   | di f ks =>
    obtain ⟨a, e1, c, n, e2⟩ := h
    obtain ⟨o, ho⟩ := Option.ne_none_iff_exists'.mp e2.ne
    exact ⟨a, e1, (ow a o j hj c ho).1, n, e2.mv fun o e => (ow a o j hj c e).2⟩
   | dm f ks =>
    obtain ⟨a, e1, c, n, e2⟩ := h
    obtain ⟨o, ho⟩ := Option.ne_none_iff_exists'.mp e2.ne
    exact ⟨a, e1, (ow a o j hj c ho).1, n, e2.mv fun o e => (ow a o j hj c e).2⟩
   | bd d => exact h
   | ot d =>
    obtain ⟨v, e1, t⟩ := h
    refine ⟨v, e1, t.mv fun b o g e => ?_⟩
    rcases g with g | ⟨g, xs, gt⟩
    ·exact ⟨.inl ⟨(ow b o j hj g.1 e).1, g.2⟩, (ow b o j hj g.1 e).2⟩
    ·have := z b o g e
     exact ⟨.inr ⟨this.1, xs, by rw [e] at gt; rw [this.2]; exact gt⟩, this.2⟩
 ·have h := r.pd x hx
  cases x with
  | v v d => exact ThV.mv mv0 h
  | n a o => exact ⟨(lo a o h.1 h.2.1 h.2.2).1, h.2.1, (lo a o h.1 h.2.1 h.2.2).2⟩
  | s vs ds => exact ThVs.mv mv0 h
  | o c as dss => exact ⟨h.1, h.2.mv mv0 fun b o g e => ⟨⟨(c2 c as dss hx b o g.1 e).1, g.2⟩, (c2 c as dss hx b o g.1 e).2⟩⟩
  | w v d => exact h
theorem set_out {α : Type} {xs : List α} {x : α} : xs.set xs.length x = xs := List.set_eq_of_length_le (Nat.le_refl _)
theorem RelC.hold {c : Nat} {as : List Addr} {dss : List (List PyData)} {vs : List V} {ds : List PyData} (r : RelC C col ρ σ (.o c as dss :: P) H) (t : ThVs (Z col) H vs ds) (hp : H p = none) : Rel C ρ σ (.o c (as ++ [p]) (dss ++ [ds]) :: P) (upd H p (.lst vs)) := by
 let col' : Addr → Nat := fun b => if b = p then 2 * c + 2 else col b
 have ca : col' p = 2 * c + 2 := if_pos rfl
 have cn : ∀ b, b ≠ p → col' b = col b := fun b hb => if_neg hb
 have ne : ∀ b o, H b = some o → b ≠ p := fun b o e q => by rw [q, hp] at e; cases e
 have mvp : ∀ b o, H b = some o → col' b = col b ∧ upd H p (.lst vs) b = some o := fun b o e => ⟨cn b (ne b o e), by rw [upd_ne (ne b o e)]; exact e⟩
 have r1 := r.lay (o := .lst vs) hp
 have c0 : C.H0 p = none := r.kq.fr r.hq hp
 obtain ⟨nd, rw'⟩ := r.pd (.o c as dss) List.mem_cons_self
 have R : RelC C col' ρ σ P (upd H p (.lst vs)) := by
  have := RelC.chg (col' := col') (H' := upd H p (.lst vs)) (σ' := σ) (r.sub fun _ h => List.mem_cons_of_mem _ h) ρ.length .no r.len (fun b hb => ?_) (fun b hb => ?_) (fun q hq => ?_) (fun b o c e => ?_) (fun b o c _ e => ?_) (fun _ _ _ _ b o c e => ?_) (fun b o j _ c e => ?_) r1.kq r1.hq (fun _ _ => rfl) (fun z => absurd z (Nat.lt_irrefl _))
  ·rw [set_out] at this; exact this
  ·have q : b ≠ p := fun q => by rw [q, upd_same] at hb; cases hb
   rw [cn b q]; exact r1.fresh b hb
  ·have q : b ≠ p := fun q => by rw [q, ca] at hb; cases hb
   rw [cn b q] at hb; exact r.inF b hb
  ·obtain ⟨o', e'⟩ := (r.hq q hq).at1
   rw [(mvp _ _ e').1]; exact r.hnd q hq
  ·rw [(mvp b o e).1]; exact ⟨c, (mvp b o e).2⟩
  ·rw [(mvp b o e).1]; exact ⟨c, (mvp b o e).2⟩
  ·rw [(mvp b o e).1]; exact ⟨c, (mvp b o e).2⟩
  ·rw [(mvp b o e).1]; exact ⟨c, (mvp b o e).2⟩
 refine ⟨col', R.add (x := .o c (as ++ [p]) (dss ++ [ds])) ⟨?_, ?_⟩⟩
 ·refine List.nodup_append.mpr ⟨nd, List.nodup_cons.mpr ⟨(fun z => nomatch z), List.nodup_nil⟩, fun a ha b hb => ?_⟩
  obtain ⟨_, w, e⟩ := rw'.mem ha
  cases List.mem_singleton.mp hb
  exact ne a _ e
 ·exact (rw'.mv (fun b o zz e => ⟨(mvp b o e).1.trans zz, (mvp b o e).2⟩) fun b o g e => ⟨⟨(mvp b o e).1.trans g.1, g.2⟩, (mvp b o e).2⟩).snoc ⟨ca, c0⟩ upd_same (t.mv fun b o zz e => ⟨(mvp b o e).1.trans zz, (mvp b o e).2⟩)
theorem RelC.own2 {i c : Nat} {as : List Addr} {dss : List (List PyData)} (r : RelC C col ρ σ (.o c as dss :: P) H) (hP : ∀ bs ess, Pe.o c bs ess ∉ P) (hp : H p = none) : Rel C (ρ.set i (.o2 dss)) (σ.set i (some (.ref p))) P (upd H p (.lst (as.map V.ref))) := by
 obtain ⟨nd, rw'⟩ := r.pd (.o c as dss) List.mem_cons_self
 let col' : Addr → Nat := fun b => if b ∈ p :: as then 2 * i + 3 else col b
 have ne : ∀ b o, H b = some o → b ≠ p := fun b o e q => by rw [q, hp] at e; cases e
 have ca : ∀ b, b ∈ p :: as → col' b = 2 * i + 3 := fun b hb => if_pos hb
 have cn : ∀ b, b ∉ p :: as → col' b = col b := fun b hb => if_neg hb
 have ni : ∀ b o, H b = some o → col b ≠ 2 * c + 2 → b ∉ p :: as := fun b o e h2 q => by
  rcases List.mem_cons.mp q with q | q
  ·exact ne b o e q
  ·exact h2 (rw'.mem q).1.1
 have r1 := r.lay (o := .lst (as.map V.ref)) hp
 have c0 : C.H0 p = none := r.kq.fr r.hq hp
 have up : ∀ b o, H b = some o → upd H p (.lst (as.map V.ref)) b = some o := fun b o e => by rw [upd_ne (ne b o e)]; exact e
 have z0 : ∀ b o, col b = 0 → H b = some o → col' b = 0 ∧ upd H p (.lst (as.map V.ref)) b = some o := fun b o c e => ⟨by rw [cn b (ni b o e (by lia))]; exact c, up b o e⟩
 refine ⟨col', RelC.chg (r.sub fun _ h => List.mem_cons_of_mem _ h) i _ (by rw [List.length_set]; exact r.len) (fun b hb => ?_) (fun b hb => ?_) (fun q hq => ?_) z0 (fun b o c _ e => ⟨?_, up b o e⟩) (fun c' bs ess hb b o cb e => ⟨by rw [cn b (ni b o e (fun q => hP bs ess (by rw [show c = c' by lia]; exact hb)))]; exact cb, up b o e⟩) (fun b o j hj c e => ⟨?_, up b o e⟩) r1.kq r1.hq (fun j hj => by rw [List.getElem?_set_ne (Ne.symm hj)]) fun hl => ?_⟩
 ·have q : b ∉ p :: as := fun q => by
   rcases List.mem_cons.mp q with q | q
   ·rw [q, upd_same] at hb; cases hb
   ·obtain ⟨_, vs, e⟩ := rw'.mem q
    rw [up b _ e] at hb; cases hb
  rw [cn b q]; exact r1.fresh b hb
 ·have q : b ∉ p :: as := fun q => by rw [ca b q] at hb; cases hb
  rw [cn b q] at hb; exact r.inF b hb
 ·obtain ⟨o', e'⟩ := (r.hq q hq).at1
  have := r.hnd q hq
  rw [cn _ (ni _ _ e' (by lia))]; exact this
 ·rw [cn b (ni b o e (by lia))]; exact c
 ·rw [cn b (ni b o e (by lia))]; exact c
 ·refine ⟨p, as, by rw [List.getElem?_set, if_pos rfl, if_pos (by rw [← r.len]; exact hl)]; rfl, ⟨ca p List.mem_cons_self, c0⟩, upd_same, List.nodup_cons.mpr ⟨fun q => ?_, nd⟩, ?_⟩
  ·obtain ⟨_, vs, e⟩ := rw'.mem q
   exact ne p _ e rfl
  ·exact rw'.mvm z0 fun b o hb g e => ⟨⟨ca b (List.mem_cons_of_mem _ hb), g.2⟩, up b o e⟩
theorem RelC.own2c {i : Nat} {as : List Addr} {dss : List (List PyData)} (r : RelC C col ρ σ P H) (hf : ∀ b ∈ p :: as, H b = none) (nd : (p :: as).Nodup) (k : Kq C.hand H H') (q : Hq C.hand H') (ep : H' p = some (.lst (as.map V.ref))) (t : Rws (fun _ => True) (fun b => col b = 0 ∧ b ∉ p :: as) H' as dss) : Rel C (ρ.set i (.o2 dss)) (σ.set i (some (.ref p))) P H' := by
 let col' : Addr → Nat := fun b => if b ∈ p :: as then 2 * i + 3 else col b
 have ca : ∀ b, b ∈ p :: as → col' b = 2 * i + 3 := fun b hb => if_pos hb
 have cn : ∀ b, b ∉ p :: as → col' b = col b := fun b hb => if_neg hb
 have ni : ∀ b o, H b = some o → b ∉ p :: as := fun b o e z => by rw [hf b z] at e; cases e
 have up : ∀ b o, col b ≠ 1 → H b = some o → H' b = some o := fun b o h e => k b o e (r.notH h)
 have r1 := r.mv k q
 have h0 : ∀ b ∈ p :: as, C.H0 b = none := fun b hb => r.kq.fr r.hq (hf b hb)
 refine ⟨col', RelC.chg r i _ (by rw [List.length_set]; exact r.len) (fun b hb => ?_) (fun b hb => ?_) (fun x hx => ?_) (fun b o c e => ⟨?_, up b o (by lia) e⟩) (fun b o c n e => ⟨?_, k b o e n⟩) (fun _ _ _ _ b o c e => ⟨?_, up b o (by lia) e⟩) (fun b o j hj c e => ⟨?_, up b o (by lia) e⟩) r1.kq r1.hq (fun j hj => by rw [List.getElem?_set_ne (Ne.symm hj)]) fun hl => ?_⟩
 ·have z : b ∉ p :: as := fun z => by
   rcases List.mem_cons.mp z with z | z
   ·rw [z, ep] at hb; cases hb
   ·obtain ⟨_, vs, e⟩ := t.mem z
    rw [e] at hb; cases hb
  rw [cn b z]; exact r1.fresh b hb
 ·have z : b ∉ p :: as := fun z => by rw [ca b z] at hb; cases hb
  rw [cn b z] at hb; exact r.inF b hb
 ·obtain ⟨o', e'⟩ := (r.hq x hx).at1
  rw [cn _ (ni _ _ e')]; exact r.hnd x hx
 ·rw [cn b (ni b o e)]; exact c
 ·rw [cn b (ni b o e)]; exact c
 ·rw [cn b (ni b o e)]; exact c
 ·rw [cn b (ni b o e)]; exact c
 ·refine ⟨p, as, by rw [List.getElem?_set, if_pos rfl, if_pos (by rw [← r.len]; exact hl)]; rfl, ⟨ca p List.mem_cons_self, h0 p List.mem_cons_self⟩, ep, nd, ?_⟩
  exact t.mvm (fun b o g e => ⟨by rw [show Z col' b ↔ col' b = 0 from Iff.rfl, cn b g.2]; exact g.1, e⟩) fun b o hb _ e => ⟨⟨ca b (List.mem_cons_of_mem _ hb), h0 b (List.mem_cons_of_mem _ hb)⟩, e⟩
theorem RelC.write2 {i k : Nat} {a b : Addr} {as : List Addr} {ws : List V} {dss : List (List PyData)} {es : List PyData} (r : RelC C col ρ σ P H) (e : ρ[i]? = some (.o2 dss)) (ea : (σ[i]?).join = some (.ref a)) (eh : H a = some (.lst (as.map V.ref))) (hb : as[k]? = some b) (t : ThVs (Z col) H ws es) :
  RelC C col (ρ.set i (.o2 (dss.set k es))) σ P (upd H b (.lst ws)) := by
 obtain ⟨a', as', e1, c, e2, nd, rs⟩ := r.sl i _ e
 rw [e1] at ea
 cases ea
 rw [eh] at e2
 have e2' : as.map V.ref = as'.map V.ref := by
  injection e2 with e2
  injection e2 with e2
 have : as = as' := by
  have := congrArg (List.map fun v : V => match v with | .ref a => a | _ => 0) e2'
  rw [List.map_map, List.map_map] at this
  have id : ((fun v : V => match v with | .ref a => a | _ => 0) ∘ V.ref) = (fun a : Addr => a) := rfl
  rw [id, List.map_id', List.map_id'] at this
  exact this
 subst this
 have mb := List.mem_of_getElem? hb
 have cb := (rs.mem mb).1
 have nab : a ≠ b := fun q => (List.nodup_cons.mp nd).1 (q ▸ mb)
 have ne : ∀ x, col x ≠ 2 * i + 3 → x ≠ b := fun x hx q => hx (q ▸ cb.1)
 have up : ∀ x o, col x ≠ 2 * i + 3 → H x = some o → upd H b (.lst ws) x = some o := fun x o h e => by rw [upd_ne (ne x h)]; exact e
 refine RelC.chg r i _ r.len (fun x hx => ?_) r.inF r.hnd (fun x o c e => ⟨c, up x o (by lia) e⟩) (fun x o c _ e => ⟨c, up x o (by lia) e⟩) (fun _ _ _ _ x o c e => ⟨c, up x o (by lia) e⟩) (fun x o j hj c e => ⟨c, up x o (by lia) e⟩) (fun x o e q => ?_) (fun q hq => ?_) (fun _ _ => rfl) fun _ => ?_
 ·by_cases q : x = b
  ·rw [q, upd_same] at hx; cases hx
  ·rw [upd_ne q] at hx; exact r.fresh x hx
 ·have z := r.kq x o e q
  have q' : x ≠ b := fun q' => by rw [q', cb.2] at e; cases e
  rw [upd_ne q']; exact z
 ·obtain ⟨o1, h1⟩ := (r.hq0 q hq).at1
  obtain ⟨o2, h2⟩ := (r.hq0 q hq).at2
  exact (r.hq q hq).wr (fun z => by rw [← z, cb.2] at h1; cases h1) (fun z => by rw [← z, cb.2] at h2; cases h2)
 ·refine ⟨a, as, e1, c, by rw [upd_ne nab]; exact eh, nd, ?_⟩
  have mv0 : ∀ x o, Z col x → H x = some o → Z col x ∧ upd H b (.lst ws) x = some o := fun x o zz e => ⟨zz, up x o (by rw [show col x = 0 from zz]; lia) e⟩
  exact rs.put (List.nodup_cons.mp nd).2 hb mv0 (t.mv mv0)
end
end My
namespace My
open PySem L2
theorem rows_th {F : Addr → Prop} {H : Hp} {as : List Addr} {dss : List (List PyData)} (t : Rws F F H as dss) : ThVs F H (as.map V.ref) (lls dss) := by
 induction t with
 | nil => exact .nil
 | cons x e y _ ih => exact .cons (.lst x e y) ih
section
variable {X : Cx} {C : DC} {a b e : Expr} {pos : Pos}
theorem RelC.freeze2 {col : Addr → Nat} {ρ : List Sl} {σ : St} {P : List Pe} {H : Hp} {i : Nat} {dss : List (List PyData)} (r : RelC C col ρ σ P H) (e : ρ[i]? = some (.o2 dss)) :
  ∃ a, σ[i]? = some (some (.ref a)) ∧ Rel C (ρ.set i (.sh (.list (lls dss)))) σ (.v (.ref a) (.list (lls dss)) :: P) H := by
 obtain ⟨a, as, e1, c, e2, nd, t⟩ := r.sl i _ e
 let col' : Addr → Nat := fun b => if b ∈ a :: as then 0 else col b
 have ca : ∀ b, b ∈ a :: as → col' b = 0 := fun b hb => if_pos hb
 have cn : ∀ b, b ∉ a :: as → col' b = col b := fun b hb => if_neg hb
 have cc : ∀ b, b ∈ a :: as → col b = 2 * i + 3 ∧ C.H0 b = none := fun b hb => by
  rcases List.mem_cons.mp hb with q | q
  ·rw [q]; exact c
  ·exact (t.mem q).1
 have ni : ∀ b, col b ≠ 2 * i + 3 → b ∉ a :: as := fun b h q => h (cc b q).1
 have z0 : ∀ b o, Z col b → H b = some o → Z col' b ∧ H b = some o := fun b o zz e => ⟨(cn b (ni b (by rw [show col b = 0 from zz]; lia))).trans zz, e⟩
 have T : ThV (Z col') H (.ref a) (.list (lls dss)) := .lst (ca a List.mem_cons_self) e2 (rows_th (t.mvm z0 fun b o hb _ e => ⟨ca b (List.mem_cons_of_mem _ hb), e⟩))
 have R : RelC C col' (ρ.set i (.sh (.list (lls dss)))) σ P H := by
  refine RelC.chg r i _ r.len (fun b hb => ?_) (fun b hb => ?_) (fun q hq => ?_) z0 (fun b o c _ e => ⟨?_, e⟩) (fun _ _ _ _ b o c e => ⟨?_, e⟩) (fun b o j hj c e => ⟨?_, e⟩) r.kq r.hq (fun _ _ => rfl) fun _ => ⟨_, e1, T⟩
  ·by_cases q : b ∈ a :: as
   ·exact ca b q
   ·rw [cn b q]; exact r.fresh b hb
  ·by_cases q : b ∈ a :: as
   ·exact r.nf.1 b (cc b q).2
   ·rw [cn b q] at hb; exact r.inF b hb
  ·have := r.hnd q hq
   rw [cn _ (ni _ (by lia))]; exact this
  ·rw [cn b (ni b (by lia))]; exact c
  ·rw [cn b (ni b (by lia))]; exact c
  ·rw [cn b (ni b (by lia))]; exact c
 exact ⟨a, join_some e1, col', R.push T⟩
def dVar2 (i : Nat)  (ρ : List Sl) (Q : PyData → List Sl → Prop) : Prop := match ρ[i]? with
 | some (.o2 dss) => Q (.list (lls dss)) (ρ.set i (.sh (.list (lls dss))))
 | _ => False
theorem pd_var2 {i : Nat} (h : PE X e (tVar i)) : PE X e (eOf C (dVar2 i)) := PE.wk h fun σ H Q z => el3 z fun ρ P Qd R ht k => R.elim fun col r => by
 unfold dVar2 at ht
 split at ht
 ·rename_i dss e
  obtain ⟨a, e1, R⟩ := r.freeze2 e
  exact ⟨_, e1, k _ _ _ _ R ht⟩
 ·exact ht.elim
abbrev DP := List Sl → Option PyData
def pOf (C : DC) (f : DP) : TE := fun σ H Q => ∃ ρ P col d, RelC C col ρ σ P H ∧ f ρ = some d ∧ ∀ v, ThV (Z col) H v d → Q v H
def pC (d : PyData) : DP := fun _ => some d
def pV (i : Nat) : DP := fun ρ => match ρ[i]? with
 | some (.sh d) => some d
 | _ => none
def pIx (f g : DP) : DP := fun ρ => (f ρ).bind fun a => (g ρ).bind fun b => ixD a b
theorem pp_c {v : V} {d : PyData} (h : PE X e (tC v)) (t : ∀ F H, ThV F H v d) : PE X e (pOf C (pC d)) := PE.wk h fun _ _ _ ⟨_, _, _, _, _, hf, k⟩ => by
 cases hf
 exact k _ (t _ _)
theorem pp_var {i : Nat} (h : PE X e (tVar i)) : PE X e (pOf C (pV i)) := PE.wk h fun _ _ _ ⟨ρ, _, _, d, r, hf, k⟩ => by
 unfold pV at hf
 split at hf
 ·rename_i d' e
  cases hf
  obtain ⟨v, e1, t⟩ := r.sl i _ e
  exact ⟨v, join_some e1, k v t⟩
 ·cases hf
theorem pp_ix {f g : DP} (ha : PE X a (pOf C f)) (hb : PE X b (pOf C g)) (hs : PlainIx b) : PE X (.Subscript a b pos) (pOf C (pIx f g)) := PE.wk (pe_ix ix_seq ha hb hs) fun _ _ _ ⟨ρ, P, col, d, r, hf, k⟩ => by
 unfold pIx at hf
 cases q1 : f ρ with
 | none => rw [q1] at hf; cases hf
 | some x =>
  rw [q1] at hf
  have hf : ((g ρ).bind fun b => ixD x b) = some d := hf
  cases q2 : g ρ with
  | none => rw [q2] at hf; cases hf
  | some y =>
   rw [q2] at hf
   refine ⟨ρ, P, col, x, r, q1, fun v t1 => ⟨ρ, P, col, y, r, q2, fun w t2 => ?_⟩⟩
   obtain ⟨u, tu, f⟩ := ix_rd (K := X.K) (.th t1) t2 hf
   exact f _ (k u tu)
def dIx2 (i : Nat) (f g : DP)  (ρ : List Sl) (Q : PyData → List Sl → Prop) : Prop := bnd (slot2 ρ i) fun dss => match f ρ, g ρ with
 | some (.int k), some (.int m) => bnd (atI dss k) fun ds => bnd (atI ds m) fun d => Q d ρ
 | _, _ => False
theorem atI_map {α β : Type} {f : α → β} {xs : List α} {i : Int} {x : α} (h : atI xs i = some x) : atI (xs.map f) i = some (f x) := by
 unfold atI at h ⊢
 rw [List.length_map]
 cases q : ixN xs.length i with
 | none => rw [q] at h; cases h
 | some j =>
  rw [q] at h
  have h' : xs[j]? = some x := h
  show (xs.map f)[j]? = some (f x)
  rw [List.getElem?_map, h']; rfl
theorem atI_row {G F : Addr → Prop} {H : Hp} {as : List Addr} {dss : List (List PyData)} {k : Int} {ds : List PyData} (t : Rws G F H as dss) (h : atI dss k = some ds) : ∃ j b vs, ixN dss.length k = some j ∧ as[j]? = some b ∧ atI as k = some b ∧ dss[j]? = some ds ∧ G b ∧ H b = some (.lst vs) ∧ ThVs F H vs ds := by
 unfold atI at h
 cases q : ixN dss.length k with
 | none => rw [q] at h; cases h
 | some j =>
  rw [q] at h
  have h' : dss[j]? = some ds := h
  obtain ⟨b, vs, e1, g, e2, t2⟩ := t.at h'
  refine ⟨j, b, vs, rfl, e1, ?_, h', g, e2, t2⟩
  unfold atI
  rw [t.len, q]; exact e1
theorem pd_ix2 {i : Nat} {f g : DP} {x : Expr} {p2 : Pos} (hx : PE X x (tVar i)) (ha : PE X a (pOf C f)) (hb : PE X b (pOf C g)) (hs : PlainIx a) (hs2 : PlainIx b) : PE X (.Subscript (.Subscript x a pos) b p2) (eOf C (dIx2 i f g)) := PE.wk (pe_ix ix_seq (pe_ix ix_seq hx ha hs) hb hs2) fun σ H Q z => el3 z fun ρ P Qd R ht k => R.elim fun col r => by
 obtain ⟨dss, h2, ht⟩ := bnd_of ht
 split at ht
 ·rename_i k1 m1 hf hg
  obtain ⟨ds, hd, ht⟩ := bnd_of ht
  obtain ⟨d, hd2, q⟩ := bnd_of ht
  obtain ⟨a, as, e1, n, e2, t⟩ := r.slot2 h2
  obtain ⟨j, b, vs, hj, ej, ea, ed, g, eb, tv⟩ := atI_row t hd
  obtain ⟨u, hu, tu⟩ := atI_th tv hd2
  refine ⟨.ref a, e1, ρ, P, col, _, r, hf, fun v tv1 => ?_⟩
  cases tv1
  refine .inl ⟨a, _, k1, .ref b, rfl, rfl, SqL.of e2, atI_map ea, ρ, P, col, _, r, hg, fun v tv2 => ?_⟩
  cases tv2
  exact .inl ⟨b, vs, m1, u, rfl, rfl, SqL.of eb, hu, k _ _ _ _ ⟨col, r.push tu⟩ q⟩
 ·exact ht.elim
end
end My
namespace My
open PySem L2
section
variable {X : Cx} {C : DC} {e : Expr}
theorem pp_gi {i : Int} (h : PE X e (tC (.int i))) : PE X e (pOf C (pC (.int i))) := pp_c h fun _ _ => .int i
end
end My
namespace My
open PySem L2
theorem held_new : ∀ P : List Pe, ∃ c : Nat, ∀ c', c ≤ c' → ∀ as dss, Pe.o c' as dss ∉ P
 | [] => ⟨0, fun _ _ _ _ h => nomatch h⟩
 | x :: P => by
  obtain ⟨c, h⟩ := held_new P
  cases x with
  | o d as dss =>
   refine ⟨c + d + 1, fun c' hc as' dss' hm => ?_⟩
   rcases List.mem_cons.mp hm with e | e
   ·injection e with e
    lia
   ·exact h c' (by lia) _ _ e
  | _ =>
   refine ⟨c, fun c' hc as' dss' hm => ?_⟩
   rcases List.mem_cons.mp hm with e | e
   ·cases e
   ·exact h c' hc _ _ e
section
variable {X : Cx} {C : DC} {st : Stmt} {e : Expr} {te : DE} {pos : Pos} {u : DA}
def dSet2 (i : Nat) (te : DE) (f g : DP)  (D : DEnds) (ρ : List Sl) : Prop := te ρ fun d ρ1 => match ρ1[i]? with
 | some (.o2 dss) => match f ρ1, g ρ1 with
  | some (.int k), some (.int m) => bnd (ixN dss.length k) fun j => bnd (dss[j]?) fun ds => bnd (ixN ds.length m) fun n => D.nx (ρ1.set i (.o2 (dss.set j (ds.set n d))))
  | _, _ => False
 | _ => False
theorem ds_set2 {i : Nat} {f g : DP} {K : PySem.W.Frag} (hp : PS X st (tAsg (eOf C te) (gSub (tOp (rIx K) (tVar i) (pOf C f)) (pOf C g) rSetL))) : PS X st (sOf C (dSet2 i te f g)) := PS.wk hp fun D σ H z => el3 z fun ρ P Dd R ht E => ⟨ρ, P, _, R, ht, fun v d ρ1 H1 R1 q1 => R1.elim fun col1 r1 => by
 split at q1
 ·rename_i dss e0
  split at q1
  ·rename_i k m hf hg
   obtain ⟨j, hj, q1⟩ := bnd_of q1
   obtain ⟨ds, hd, q1⟩ := bnd_of q1
   obtain ⟨n, hn, q⟩ := bnd_of q1
   obtain ⟨a, as, e1, c, e2, nd, t⟩ := r1.sl i _ e0
   obtain ⟨b, vs, eb1, g1, eb2, tv⟩ := t.at hd
   have ea : atI (as.map V.ref) k = some (.ref b) := by
    unfold atI
    rw [List.length_map, t.len, hj]
    show (as.map V.ref)[j]? = _
    rw [List.getElem?_map, eb1]; rfl
   refine ⟨.ref a, join_some e1, ρ1, _, col1, _, r1, hf, fun u tu => ?_⟩
   cases tu
   refine .inl ⟨a, _, k, .ref b, rfl, rfl, SqL.of e2, ea, ρ1, _, col1, _, r1, hg, fun u tu => ?_⟩
   cases tu
   exact ⟨b, vs, m, n, rfl, rfl, eb2, by rw [tv.len]; exact hn, E.nx _ _ _ ⟨col1, ((r1.write2 e0 e1 e2 eb1 (ThVs.set (r1.pd (.v v d) List.mem_cons_self) n tv))).sub fun _ h => List.mem_cons_of_mem _ h⟩ q⟩
  ·exact q1.elim
 ·exact q1.elim⟩
def dRet2 (i : Nat)  (D : DEnds) (ρ : List Sl) : Prop := match ρ[i]? with
 | some (.o2 dss) => D.ro (.o2 dss)
 | some (.ow ds) => D.ro (.ow ds)
 | some (.di false ks) => D.ro (.di false ks)
 | _ => False
theorem ds_ret2 {i : Nat} (h : PE X e (tVar i)) : PS X (.Return (some e) pos) (sOf C (dRet2 i)) := PS.wk (ps_ret h) fun D σ H z => el3 z fun ρ P Dd R ht E => R.elim fun col r => by
 unfold dRet2 at ht
 split at ht
 ·rename_i dss e0
  obtain ⟨a, as, e1, c, e2, nd, t⟩ := r.sl i _ e0
  exact ⟨_, join_some e1, E.ro _ (.o2 dss) ρ σ H col r ⟨a, as, rfl, ⟨c.2, by lia⟩, e2, nd, t.mv (fun _ _ z e => ⟨z, e⟩) fun b o g e => ⟨⟨g.2, by have := g.1; lia⟩, e⟩⟩ ht⟩
 ·rename_i ds e0
  obtain ⟨a, vs, e1, c, n, e2, t⟩ := r.sl i _ e0
  exact ⟨_, join_some e1, E.ro _ (.ow ds) ρ σ H col r ⟨a, vs, rfl, n, by lia, e2, t⟩ ht⟩
 ·rename_i ks e0
  obtain ⟨a, e1, c, n, e2⟩ := r.sl i _ e0
  exact ⟨_, join_some e1, E.ro _ (.di false ks) ρ σ H col r ⟨a, rfl, n, e2⟩ ht⟩
 ·exact ht.elim
def dOwn2F (i : Nat) (ms : List Md) (sp : DSpO) (u : DA)  (D : DEnds) (ρ : List Sl) : Prop := u ρ fun as ρ' => bnd (arsD ρ' ms as) fun ds => sp ds fun dss => D.nx (ρ'.set i (.o2 dss))
theorem ds_own2f {i : Nat} {ms : List Md} {sp : DSpO} {E : XK} (h : PS X st (tAsg (tCall (spDO ms sp) [] E (aOf C u)) (gName i))) : PS X st (sOf C (dOwn2F i ms sp u)) := PS.wk h fun D σ H z => el3 z fun ρ P Dd R ht E => ⟨ρ, P, _, R, ht, fun vs as ρ' P' H' R' s p q => R'.elim fun col r => by
 obtain ⟨ds, hds, q⟩ := bnd_of q
 rw [List.append_nil]
 obtain ⟨col, r, tp⟩ := r.norm
 refine ⟨Z col, C.hand, ds, _, ⟨r.fresh, tp⟩, fun q hq z => ?_, r.hq, ars_ok r p hds, q, fun dss a as' H2 q2 fa fas nd ea t k2 h2 => ?_⟩
 ·have := r.hnd q hq
  rw [show col q.1 = 0 from z] at this
  cases this
 ·exact E.nx _ _ _ ((r.sub s).own2c (i := i) (fun b hb => (List.mem_cons.mp hb).elim (fun q => by rw [q]; exact fa) (fas b)) nd k2 h2 ea t) q2⟩
def dCompLO (tf : DF) (ρ : List Sl) (Q : List (List PyData) → Prop) : List PyData → List (List PyData) → Prop
 | [], acc => Q acc
 | x :: r, acc => tf (ρ ++ [.sh x]) fun ds ρ' => ρ' = ρ ++ [.sh x] ∧ dCompLO tf ρ Q r (acc ++ [ds])
def dOwn2C (i j : Nat) (it : DF) (tf : DF)  (D : DEnds) (ρ : List Sl) : Prop := it ρ fun xs ρ1 => (ρ1.length = j ∧ xs.length ≤ 1000) ∧ dCompLO tf ρ1 (fun dss => D.nx (ρ1.set i (.o2 dss))) xs []
theorem ds_own2C {i n j : Nat} {it tf : DF} (hn : n = j + 1) (hp : PS X st (fun D σ H => tComp (iOf C it) n j (fun _ => cOf C dTrue) (fun _ => fOf C tf) σ H fun v H1 => D.nx (σ.set i (some v)) H1)) : PS X st (sOf C (dOwn2C i j it tf)) := PS.wk hp fun D σ H z => el3 z fun ρ P Dd R ht E => by
 refine ⟨ρ, P, _, R, ht, fun xs ρ1 P1 H1 J R1 s1 io q => ?_⟩
 obtain ⟨⟨hj, hx⟩, q⟩ := q
 obtain ⟨c, hc⟩ := held_new P1
 have lz : ∀ m, m ≤ 1000 → m ≤ sizeLine := fun m hm => Nat.le_of_lt (small1000 hm)
 refine ⟨fun i' m ys H' => m = xs.length - i' ∧ i' ≤ xs.length ∧ ys.length ≤ i' ∧ ∃ as acc, ys = as.map V.ref ∧ Rel C ρ1 σ (.o c as acc :: P1) H' ∧ dCompLO tf ρ1 (fun dss => Dd.nx (ρ1.set i (.o2 dss))) (xs.drop i') acc, ⟨xs.length, by simp, Nat.zero_le _, Nat.le_refl _, [], [], rfl, ?_, q⟩, ?_⟩
 ·obtain ⟨col, r⟩ := R1
  exact ⟨col, r.add (x := .o c [] []) ⟨List.nodup_nil, .nil⟩⟩
 rintro i' m ys H2 ⟨rfl, hi, hy, as, acc, rfl, R2, q2⟩
 refine ⟨lz _ (by lia), ?_⟩
 have sub2 : ∀ p ∈ P1, p ∈ Pe.o c as acc :: P1 := fun _ h => List.mem_cons_of_mem _ h
 have hlen : ρ1.length = σ.length := by obtain ⟨col, r⟩ := R2; exact r.len
 by_cases hlt : i' < xs.length
 ·rw [List.drop_eq_getElem_cons hlt] at q2
  refine .inr ⟨io.go sub2 R2 hlt, fun ys' H' => ys'.length ≤ i' + 1 ∧ ∃ as acc, ys' = as.map V.ref ∧ Rel C ρ1 σ (.o c as acc :: P1) H' ∧ dCompLO tf ρ1 (fun dss => Dd.nx (ρ1.set i (.o2 dss))) (xs.drop (i' + 1)) acc, fun ys' H' hh => ⟨xs.length - (i' + 1), by lia, rfl, hlt, hh.1, hh.2⟩, fun x H3 y a => ?_⟩
  have R3 := (io.yld sub2 R2 (List.getElem?_eq_getElem hlt) y).ext
  rw [pad_eq (by rw [hn, ← hlen, hj]) (by rw [← hlen, hj])]
  refine ⟨_, _, fun b ρ' => b = true ∧ ρ' = ρ1 ++ [Sl.sh xs[i']], R3, ⟨rfl, rfl⟩, fun b ρ' H4 R4 q4 => ?_⟩
  obtain ⟨rfl, rfl⟩ := q4
  refine iteT ⟨_, _, _, R4, q2, fun p vs ds ρ'' H5 R5 hp q5 => ?_⟩
  obtain ⟨rfl, q5⟩ := q5
  obtain ⟨col, r, t⟩ := R5
  refine ⟨by rw [List.length_append]; simp at hy ⊢; lia, as ++ [p], acc ++ [ds], by rw [List.map_append]; rfl, ?_, q5⟩
  exact (r.unext hlen).hold t hp
 ·have e : i' = xs.length := by lia
  subst e
  rw [List.drop_length] at q2
  refine .inl ⟨io.stop sub2 R2, fun p hp => ?_⟩
  obtain ⟨col, r⟩ := R2
  obtain ⟨col', r'⟩ := r.own2 (i := i) (hc c (Nat.le_refl _)) hp
  exact E.nx _ _ _ ⟨col', r'.sub s1⟩ q2
end
end My
namespace My
open PySem L2
section
variable {X : Cx} {C : DC} {e : Expr} {ta : DE}
end
end My
namespace My
abbrev Tb := List (Option Int)
abbrev Rn := List (Option Nat)
abbrev Wy := Nat × Nat × Int
def stepF (st lv c : Int) : Option Int := if lv + c < 0 then none else some (if st < lv + c then st else lv + c)
def gt {α : Type} (t : List (Option α)) (p : Nat) : Option α := (t[p]?).join
def behF (st : Int) (t : Tb) (w : Wy) : Option Int := match gt t w.1 with
 | none => none
 | some l => stepF st l w.2.2
def moreF : Option Int → Option Int → Bool
 | none, _ => false
 | some _, none => true
 | some a, some b => decide (b < a)
theorem step_bd {st l c x : Int} (h0 : 0 ≤ st) (h : stepF st l c = some x) : 0 ≤ x ∧ x ≤ st := by
 unfold stepF at h
 split at h
 ·cases h
 ·have := Option.some.inj h
  subst this
  split <;> lia
structure TabOk (m : Nat) (st : Int) (t : Tb) : Prop where
 len : t.length = m
 bd : ∀ p x, gt t p = some x → 0 ≤ x ∧ x ≤ st
structure LandOk (m : Nat) (ws : List Wy) : Prop where
 m1 : 1 ≤ m
 m2 : m ≤ 12
 few : ws.length ≤ 40
 st : ∀ w ∈ ws, w.1 < m
 en : ∀ w ∈ ws, w.2.1 < m
 lo : ∀ w ∈ ws, -1000000000000000000 ≤ w.2.2
 hi : ∀ w ∈ ws, w.2.2 ≤ 1000000000000000000
theorem gt_out {α : Type} {t : List (Option α)} {p : Nat} (h : t.length ≤ p) : gt t p = none := by unfold gt; rw [List.getElem?_eq_none h]; rfl
theorem gt_at {α : Type} {t : List (Option α)} {p : Nat} (h : p < t.length) : t[p]? = some (gt t p) := by unfold gt; rw [List.getElem?_eq_getElem h]; rfl
theorem gt_set {α : Type} {t : List (Option α)} {i j : Nat} {x : Option α} (h : i < t.length) : gt (t.set i x) j = if i = j then x else gt t j := by
 unfold gt
 rw [List.getElem?_set]
 by_cases e : i = j
 ·rw [if_pos e, if_pos h, if_pos e]; rfl
 ·rw [if_neg e, if_neg e]
theorem gt_rep {α : Type} {m p : Nat} : gt (List.replicate m (none : Option α)) p = none := by
 unfold gt
 rw [List.getElem?_replicate]
 split <;> rfl
theorem tab_ext {t u : Tb} (hl : t.length = u.length) (h : ∀ p, gt t p = gt u p) : t = u := by
 apply List.ext_getElem?
 intro i
 by_cases hi : i < t.length
 ·rw [gt_at hi, gt_at (by lia), h i]
 ·rw [List.getElem?_eq_none (by lia), List.getElem?_eq_none (by lia)]
def rstep (st : Int) (t : Tb) (acc : Tb × Rn) (p : Wy × Nat) : Tb × Rn :=
 if moreF (behF st t p.1) (gt acc.1 p.1.2.1) = true then (acc.1.set p.1.2.1 (behF st t p.1), acc.2.set p.1.2.1 (some p.2)) else acc
def rowF (m : Nat) (ws : List Wy) (st : Int) (t s : Tb) : Tb × Rn := ws.zipIdx.foldl (rstep st t) (s, List.replicate m none)
abbrev Rw := Tb × Rn
inductive Rows (m : Nat) (ws : List Wy) (st : Int) (b : Tb) : List Rw → Prop
 | one : Rows m ws st b [(b, List.replicate m none)]
 | more {r rs} : Rows m ws st b (r :: rs) → (rowF m ws st r.1 r.1).1 ≠ r.1 → Rows m ws st b (rowF m ws st r.1 r.1 :: r :: rs)
section
variable {m : Nat} {ws : List Wy} {st : Int} {b : Tb}
end
end My
namespace My
end My
namespace My
structure Wk (ws : List Wy) (st : Int) (b : Tb) (N : List Nat) (P : Nat → Nat) (L : Nat → Int) : Prop where
 way : ∀ k n, N[k]? = some n → ∃ w, ws[n]? = some w ∧ w.1 = P k ∧ w.2.1 = P (k + 1) ∧ stepF st (L k) w.2.2 = some (L (k + 1))
 beg : gt b (P 0) = some (L 0)
 rise : ∀ k, 1 ≤ k → k ≤ N.length → moreF (some (L k)) (gt b (P k)) = true
 strict : ∀ i j, i < j → j ≤ N.length → P i = P j → L i < L j
section
variable {m : Nat} {ws : List Wy} {st : Int} {b : Tb}
end
section
variable {ws : List Wy} {st : Int} {b : Tb} {N : List Nat} {P : Nat → Nat} {L : Nat → Int}
end
section
variable {m : Nat} {ws : List Wy} {st : Int} {b : Tb} {N : List Nat} {P : Nat → Nat} {L : Nat → Int}
end
end My
namespace My
abbrev Sp2 := Nat × Int
section
variable {m : Nat} {ws : List Wy} {st : Int} {b g : Sp2}
end
end My
namespace My
section
variable {ws : List Wy} {row : List Nat} {cs : List Int} {st sc gv x y : Int} {p0 : Nat}
end
end My
namespace My
section
variable {m : Nat} {row : List Nat} {cs : List Int} {sc gv : Int} {B S ws : List Wy}
end
section
variable {m : Nat} {ws : List Wy} {row : List Nat} {cs : List Int} {sc gv st x y : Int} {p0 pl : Nat}
end
end My
namespace My
section
variable {m : Nat} {ws : List Wy} {st : Int}
end
end My
namespace My
section
variable {m : Nat} {st : Int}
end
end My
namespace L2
open PySem PySem.Spec PyProof.Rows
def compOkS (N : List Str) (osc scope : Scope) (x : Str) (j : Nat) : Bool :=
 decide N.Nodup && decide (N[j]? = some x) && decide (scope.kind = .function) && decide (osc.kind = .function) && (scope.names.lookup x == some .local) &&
  scope.names.all fun y => match y.2 with
   | .cell => false
   | .local => scope.names.lookup y.1 == some .local && (y.1 == x || !(N.contains y.1))
   | .free => osc.names.lookup y.1 == some .cell
   | _ => true
theorem CompSc.old {N : List Str} {osc scope : Scope} {x : Str} {j : Nat} (h : compOkS N osc scope x j = true) : CompSc N N osc scope j x := by
 unfold compOkS at h
 simp only [Bool.and_eq_true, decide_eq_true_eq, List.all_eq_true, beq_iff_eq] at h
 obtain ⟨⟨⟨⟨⟨h1, h0⟩, h2⟩, h3⟩, h4⟩, h5⟩ := h
 refine ⟨h1, h0, fun i y _ e => e, Nat.le_succ _, h2, fun y hy e => ?_, fun y hy e => ?_, fun y hy e => ?_, h4, h3, fun y hy e => ?_⟩
 ·have := h5 y hy; rw [e] at this; cases this
 ·have := h5 y hy
  rw [e] at this
  simp only [Bool.and_eq_true, beq_iff_eq] at this
  exact this.1
 ·have := h5 y hy
  rw [e] at this
  simp only [Bool.and_eq_true, Bool.or_eq_true, beq_iff_eq, Bool.not_eq_true', List.contains_eq_mem, decide_eq_false_iff_not] at this
  exact this.2
 ·have := h5 y hy
  rw [e] at this
  simp only [beq_iff_eq] at this
  exact this
end L2
namespace My
open PySem L2
def dCompLS (j : Nat) (tt : DT) (te : DE) (ρ : List Sl) (Q : List PyData → Prop) : List PyData → List PyData → Prop
 | [], acc => Q acc
 | x :: r, acc => tt (ρ.set j (.sh x)) fun b ρ' => ρ' = ρ.set j (.sh x) ∧ if b = true then te (ρ.set j (.sh x)) fun d ρ'' => ρ'' = ρ.set j (.sh x) ∧ dCompLS j tt te ρ Q r (acc ++ [d]) else dCompLS j tt te ρ Q r acc
def dCompS (n j : Nat) (it : DF) (tt : DT) (te : DE)  (ρ : List Sl) (Q : List PyData → List Sl → Prop) : Prop := it ρ fun xs ρ1 => (ρ1.length = n ∧ ρ1[j]? = some .no ∧ xs.length ≤ 1000) ∧ dCompLS j tt te ρ1 (fun ds => Q ds ρ1) xs []
theorem compMS {α : Type} {te : DE} {ρ : List Sl} {Q : List PyData → Prop} {j : Nat} {g f : α → PyData} : ∀ {xs : List α} {acc : List PyData}, (∀ x ∈ xs, ∀ Q' : PyData → List Sl → Prop, Q' (f x) (ρ.set j (.sh (g x))) → te (ρ.set j (.sh (g x))) Q') → Q (acc ++ xs.map f) → dCompLS j dTrue te ρ Q (xs.map g) acc
 | [], acc, _, q => by rw [List.map_nil, List.append_nil] at q; exact q
 | x :: xs, acc, h, q => ⟨rfl, iteT (h x List.mem_cons_self _ ⟨rfl, compMS (xs := xs) (fun y hy => h y (List.mem_cons_of_mem _ hy)) (by rw [List.append_assoc]; exact q)⟩)⟩
section
variable {X : Cx} {C : DC}
theorem RelC.unset {col : Addr → Nat} {ρ : List Sl} {σ : St} {P : List Pe} {H : Hp} {j : Nat} {s : Sl} {v : Option V} (r : RelC C col (ρ.set j s) (σ.set j v) P H) (hj : ρ[j]? = some .no) (hl : ρ.length = σ.length) : RelC C col ρ σ P H := by
 refine { r with sl := fun i s' e => ?_, len := hl }
 by_cases c : j = i
 ·subst c
  rw [hj] at e
  cases e
  trivial
 ·have := r.sl i s' (by rw [List.getElem?_set_ne c]; exact e)
  rw [List.getElem?_set_ne c] at this
  exact this
theorem pad_eqS {σ : St} {n j : Nat} {x : V} (h1 : n = σ.length) : (padS n j σ).set j (some x) = σ.set j (some x) := by
 subst h1
 unfold padS
 rw [List.take_append_of_le_length (Nat.le_refl _), List.take_length, List.set_set]
theorem comp_rdS {it : DF} {tt : DT} {te : DE} {n j : Nat} {σ : St} {H : Hp} {Q : VK} (h : fOf C (dCompS n j it tt te) σ H Q) : tComp (iOf C it) n j (fun _ => cOf C tt) (fun _ => eOf C te) σ H Q := by
 obtain ⟨ρ, P, Qd, R, ht, k⟩ := h
 refine ⟨ρ, P, _, R, ht, fun xs ρ1 P1 H1 J R1 s1 io q => ?_⟩
 obtain ⟨⟨hn, hj, hx⟩, q⟩ := q
 have lz : ∀ m, m ≤ 1000 → m ≤ sizeLine := fun m hm => Nat.le_of_lt (small1000 hm)
 refine ⟨fun i m ys H' => m = xs.length - i ∧ i ≤ xs.length ∧ ys.length ≤ i ∧ ∃ acc, Rel C ρ1 σ (.s ys acc :: P1) H' ∧ dCompLS j tt te ρ1 (fun ds => Qd ds ρ1) (xs.drop i) acc, ⟨xs.length, by simp, Nat.zero_le _, Nat.le_refl _, [], ?_, q⟩, ?_⟩
 ·obtain ⟨col, r⟩ := R1
  exact ⟨col, r.add (x := .s [] []) .nil⟩
 rintro i m ys H2 ⟨rfl, hi, hy, acc, R2, q2⟩
 refine ⟨lz _ (by lia), ?_⟩
 have sub2 : ∀ p ∈ P1, p ∈ Pe.s ys acc :: P1 := fun _ h => List.mem_cons_of_mem _ h
 have hlen : ρ1.length = σ.length := by obtain ⟨col, r⟩ := R2; exact r.len
 by_cases hlt : i < xs.length
 ·rw [List.drop_eq_getElem_cons hlt] at q2
  refine .inr ⟨io.go sub2 R2 hlt, fun ys' H' => ys'.length ≤ i + 1 ∧ ∃ acc, Rel C ρ1 σ (.s ys' acc :: P1) H' ∧ dCompLS j tt te ρ1 (fun ds => Qd ds ρ1) (xs.drop (i + 1)) acc, fun ys' H' hh => ⟨xs.length - (i + 1), by lia, rfl, hlt, hh.1, hh.2⟩, fun x H3 y a => ?_⟩
  have R3 : Rel C (ρ1.set j (.sh xs[i])) (σ.set j (some x)) (.s ys acc :: P1) H3 := by
   obtain ⟨col, r⟩ := io.yld sub2 R2 (List.getElem?_eq_getElem hlt) y
   exact ⟨col, (r.store (i := j) (r.pd _ List.mem_cons_self)).sub fun _ h => List.mem_cons_of_mem _ h⟩
  rw [pad_eqS (by rw [← hlen, hn])]
  refine ⟨_, _, _, R3, q2, fun b ρ' H4 R4 q4 => ?_⟩
  obtain ⟨rfl, q4⟩ := q4
  cases b with
  | true =>
   refine iteT ⟨_, _, _, R4, by simpa using q4, fun v d ρ'' H5 R5 q5 => ?_⟩
   obtain ⟨rfl, q5⟩ := q5
   refine ⟨by rw [List.length_append]; simp; lia, acc ++ [d], ?_, q5⟩
   obtain ⟨col, r⟩ := R5
   have t1 : ThV (Z col) H5 v d := r.pd _ List.mem_cons_self
   have t2 : ThVs (Z col) H5 ys acc := r.pd _ (List.mem_cons_of_mem _ List.mem_cons_self)
   exact ⟨col, ((r.unset hj hlen).sub fun _ h => List.mem_cons_of_mem _ (List.mem_cons_of_mem _ h)).add (x := .s (ys ++ [v]) (acc ++ [d])) (t2.snoc t1)⟩
  | false =>
   refine iteF ⟨by lia, acc, ?_, by simpa using q4⟩
   obtain ⟨col, r⟩ := R4
   exact ⟨col, r.unset hj hlen⟩
 ·have e : i = xs.length := by lia
  subst e
  rw [List.drop_length] at q2
  refine .inl ⟨io.stop sub2 R2, fun p hp => k _ _ _ _ _ ?_ hp q2⟩
  obtain ⟨col, r⟩ := R2
  exact ⟨col, r.sub fun p hp => List.mem_cons_of_mem _ (s1 p hp), r.pd _ List.mem_cons_self⟩
variable {st : Stmt} {te : DE}
end
end My
namespace My
open PySem L2
section
variable {X : Cx} {C : DC} {st : Stmt} {te : DE} {tg e : Expr} {u : DF}
def dExt (i : Nat) (te : DE)  (D : DEnds) (ρ : List Sl) : Prop := match ρ[i]? with
 | some (.ow _) => te ρ fun d ρ' => match ρ'[i]? with
  | some (.ow ds) => match d with
   | .list es => ds.length + es.length ≤ 90000 ∧ D.nx (ρ'.set i (.ow (ds ++ es)))
   | _ => False
  | _ => False
 | _ => False
theorem ds_ext {i : Nat} {K : PySem.W.Frag} (hp : PS X st (tDrop (tBM K "list" rExtend (tVar i) (tCons (eOf C te) tNil)))) : PS X st (sOf C (dExt i te)) := PS.wk hp fun D σ H z => el3 z fun ρ P Dd R ht E => R.elim fun col r => by
 unfold dExt at ht
 split at ht
 ·rename_i ds0 e0
  obtain ⟨a, vs, e1, c, n, e2, t⟩ := r.sl i _ e0
  refine ⟨.ref a, join_some e1, .inl ⟨rfl, vs, SqL.of e2⟩, ρ, P, _, ⟨col, r⟩, ht, fun v d ρ' H' R' q => R'.elim fun col' r' => ?_⟩
  split at q
  ·rename_i ds e0'
   split at q
   ·rename_i es
    obtain ⟨a', vs', e1', c', n', e2', t'⟩ := r'.sl i _ e0'
    rw [e1] at e1'
    cases e1'
    have tv : ThV (Z col') H' v (.list es) := r'.pd _ List.mem_cons_self
    cases tv with
    | lst z eb tw =>
     have hs := sizeLine_eq
     exact ⟨a, _, vs', _, rfl, rfl, e2', eb, by rw [t'.len, tw.len]; have := q.1; lia, E.nx _ _ _ ⟨col', ((r'.write e0' e1 (t'.append tw))).sub fun _ h => List.mem_cons_of_mem _ h⟩ q.2⟩
   ·exact q.elim
  ·exact q.elim
 ·exact ht.elim
def downD (lo : Int) (n : Nat) : List PyData := (List.range n).map fun i => .int (lo - ((i : Nat) : Int))
theorem downD_get {lo : Int} {n i : Nat} {d : PyData} (h : (downD lo n)[i]? = some d) : i < n ∧ d = .int (lo - (i : Nat)) := by
 unfold downD at h
 rw [List.getElem?_map] at h
 by_cases c : i < n
 ·rw [List.getElem?_range c] at h
  cases h
  exact ⟨c, rfl⟩
 ·rw [List.getElem?_eq_none (by rw [List.length_range]; lia)] at h
  cases h
theorem it_down {lo : Int} {n : Nat} {P : List Pe} : ItOk C (Itd lo n) (downD lo n) P where
 go := fun {i _ _ _ _} _ _ hi => by
  have : (downD lo n).length = n := by unfold downD; rw [List.length_map, List.length_range]
  show i < n
  lia
 yld := fun {i ρ σ P' H H' x d} _ R hi y => by
  obtain ⟨e1, e2⟩ := y
  subst e1 e2
  obtain ⟨_, e3⟩ := downD_get hi
  subst e3
  obtain ⟨col, r⟩ := R
  exact ⟨col, r.push (.int _)⟩
 stop := fun _ _ => by
  have : (downD lo n).length = n := by unfold downD; rw [List.length_map, List.length_range]
  show n ≤ (downD lo n).length
  lia
def dRngD (u : DF)  (ρ : List Sl) (Q : List PyData → List Sl → Prop) : Prop := u ρ fun ds ρ' => match ds with
 | [.int i, .int j, .int k] => k = -1 ∧ (-(2 ^ 61) ≤ i ∧ i < 2 ^ 61 ∧ -(2 ^ 61) ≤ j ∧ j < 2 ^ 61) ∧ Q (downD i (i - j).toNat) ρ'
 | _ => False
theorem di_rngD (h : PI X tg e (iRngD (vOf C u))) : PI X tg e (iOf C (dRngD u)) := PI.wk h fun _ _ _ z => el3 z fun ρ P _ R ht k => ⟨ρ, P, _, R, ht, fun vs ds ρ' P' H' R' s p q => R'.elim fun col r => by
 split at q
 ·obtain ⟨rfl, qb, q⟩ := q
  have t := p.th r
  cases t with
  | cons t1 t =>
   cases t with
   | cons t2 t =>
    cases t with
    | cons t3 t =>
     cases t
     cases t1; cases t2; cases t3
     exact ⟨_, _, rfl, qb, k _ _ P' _ _ ⟨col, r⟩ s it_down q⟩
 ·exact q.elim⟩
end
end My
namespace My
open PySem L2
section
variable {C : DC}
section
variable {X : Cx} {st : Stmt} {ta : DF}
def dCompF (n j : Nat) (it : DF) (tt : DT) (te : DE) (ρ : List Sl) (Q : List PyData → List Sl → Prop) : Prop := dCompS n j it tt te (ρ.set j .no) Q
theorem Rel.forget {ρ : List Sl} {σ : St} {P : List Pe} {H : Hp} {j : Nat} (r : Rel C ρ σ P H) : Rel C (ρ.set j .no) σ P H := by
 obtain ⟨col, r⟩ := r
 refine ⟨col, { r with sl := fun i s e => ?_, len := by rw [List.length_set]; exact r.len }⟩
 by_cases c : j = i
 ·subst c
  rw [List.getElem?_set] at e
  simp only [if_true] at e
  split at e
  ·cases e; trivial
  ·cases e
 ·rw [List.getElem?_set_ne c] at e
  exact r.sl i s e
theorem pf_compF {e : Expr} {n j : Nat} {it : DF} {tt : DT} {te : DE} (h : PE X e (tComp (iOf C it) n j (fun _ => cOf C tt) (fun _ => eOf C te))) : PE X e (fOf C (dCompF n j it tt te)) := PE.wk h fun _ _ _ ⟨_, P, Qd, R, ht, k⟩ => comp_rdS ⟨_, P, Qd, R.forget, ht, k⟩
variable {a b : Expr} {te : DE} {pos : Pos}
end
end
section
variable {X : Cx} {C : DC} {st : Stmt} {te : DE}
def dAug (f : Int → Int → Int) (i : Nat) (te : DE) (D : DEnds) (ρ : List Sl) : Prop := match ρ[i]? with
 | some (.sh (.int x)) => te ρ fun d ρ' => match d with
  | .int y => D.nx (ρ'.set i (.sh (.int (f x y))))
  | _ => False
 | _ => False
theorem ds_aug {f : Int → Int → Int} {i : Nat} (hp : PS X st (tAug i (eOf C te) (ipI f))) : PS X st (sOf C (dAug f i te)) := PS.wk hp fun _ _ _ zz => el3 zz fun ρ P _ R ht E => R.elim fun col r => by
 unfold dAug at ht
 split at ht
 ·rename_i x e
  obtain ⟨v, e1, t⟩ := r.sl i _ e
  cases (show ThV (Z col) _ v (.int x) from t)
  refine ⟨_, join_some e1, ρ, P, _, ⟨col, r⟩, ht, fun v d ρ' H' R' q => ?_⟩
  split at q
  ·obtain ⟨col', r'⟩ := R'
   have t' := r'.pd _ List.mem_cons_self
   cases (show ThV (Z col') H' v (.int _) from t')
   exact ⟨_, _, rfl, rfl, E.nx _ _ _ ⟨col', ((r'.store (i := i) (d := .int (f x _)) (.int _)).sub fun _ h => List.mem_cons_of_mem _ h)⟩ q⟩
  ·exact q.elim
 ·exact ht.elim
end
section
variable {C : DC}
end
section
variable {X : Cx} {C : DC}
end
end My
namespace My
open PySem L2
section
variable {C : DC}
def gMinI (ds : List PyData) (Q : PyData → Prop) : Prop := match ds with
 | [.list xs] => bnd (intsD xs) fun ns => ns ≠ [] ∧ ∀ M, lowI ns M → Q (.int M)
 | _ => False
end
section
variable {X : Cx} {C : DC} {st : Stmt} {te : DE}
end
section
variable {C : DC}
end
section
variable {C : DC} {col col2 : Addr → Nat} {ρ : List Sl} {σ : St} {P : List Pe} {H H2 : Hp} {i : Nat} {ds : List PyData} {a : Addr} {vs : List V}
variable {X : Cx} {e : Expr}
end
end My
namespace L2
open PySem PySem.Spec PyProof.Rows
section
variable {κ : Type} [DecidableEq κ]
def valV (kvs : List (κ × V)) (k : κ) : Option V := (kvs.find? fun kv => decide (kv.1 = k)).map (·.2)
def putK (kvs : List (κ × V)) (k : κ) (v : V) : List (κ × V) :=
 if (kvs.any fun kv => decide (kv.1 = k)) = true then kvs.map (fun kv => if kv.1 = k then (kv.1, v) else kv) else kvs ++ [(k, v)]
def dropK (kvs : List (κ × V)) (k : κ) : List (κ × V) := kvs.filter fun kv => decide (kv.1 ≠ k)
theorem valV_pos {p : κ × V} {r : List (κ × V)} {k : κ} (e : p.1 = k) : valV (p :: r) k = some p.2 := by simp [valV, List.find?_cons, e]
theorem valV_neg {p : κ × V} {r : List (κ × V)} {k : κ} (e : ¬ p.1 = k) : valV (p :: r) k = valV r k := by simp [valV, List.find?_cons, e]
theorem valV_any (k : κ) : ∀ kvs : List (κ × V), (kvs.any fun kv => decide (kv.1 = k)) = (valV kvs k).isSome
 | [] => rfl
 | p :: r => by
  rw [List.any_cons]
  by_cases e : p.1 = k
  ·simp only [valV_pos e, decide_eq_true e, Bool.true_or, Option.isSome_some]
  ·rw [valV_neg e, decide_eq_false e, Bool.false_or]; exact valV_any k r
theorem length_putK (kvs : List (κ × V)) (k : κ) (v : V) : (putK kvs k v).length ≤ kvs.length + 1 := by
 unfold putK
 split
 ·rw [List.length_map]; omega
 ·rw [List.length_append, List.length_cons, List.length_nil]; omega
theorem RelO.isSome_eq {o : Option V} {u : Option Value} (r : RelO o u) : o.isSome = u.isSome := by
 cases o with
 | none => cases u with
  | none => rfl
  | some _ => exact (show False from r).elim
 | some _ => cases u with
  | none => exact (show False from r).elim
  | some _ => rfl
theorem RelO.getD {o : Option V} {u : Option Value} {d : V} {d' : Value} (r : RelO o u) (rd : RelV d d') : RelV (o.getD d) (u.getD d') := by
 cases o with
 | none => cases u with
  | none => exact rd
  | some _ => exact (show False from r).elim
 | some _ => cases u with
  | none => exact (show False from r).elim
  | some _ => exact r
theorem KV.val {kvs : List (κ × V)} {vs : List (κ × Value)} (r : KV kvs vs) (k : κ) : RelO (valV kvs k) (valueAt vs k) := by
 unfold KV at r
 induction r with
 | nil => exact True.intro
 | @cons p q ps qs h t ih =>
  obtain ⟨h1, h2⟩ := h
  by_cases e : p.1 = k
  ·have e' : q.1 = k := h1.symm.trans e
   have b : valueAt (q :: qs) k = some q.2 := by simp [valueAt, List.find?_cons, e']
   rw [valV_pos e, b]; exact h2
  ·have e' : ¬ q.1 = k := fun z => e (h1.trans z)
   have b : valueAt (q :: qs) k = valueAt qs k := by simp [valueAt, List.find?_cons, e']
   rw [valV_neg e, b]; exact ih
theorem KV.any {kvs : List (κ × V)} {vs : List (κ × Value)} (r : KV kvs vs) (k : κ) : (kvs.any fun kv => decide (kv.1 = k)) = vs.any fun kv => decide (kv.1 = k) := by
 unfold KV at r
 induction r with
 | nil => rfl
 | cons h t ih => rw [List.any_cons, List.any_cons, ih, h.1]
theorem KV.repl {kvs : List (κ × V)} {vs : List (κ × Value)} (r : KV kvs vs) (k : κ) {y : V} {u : Value} (ry : RelV y u) :
  KV (kvs.map fun kv => if kv.1 = k then (kv.1, y) else kv) (vs.map fun kv => if kv.1 = k then (kv.1, u) else kv) := by
 unfold KV at r ⊢
 induction r with
 | nil => exact .nil
 | @cons p q ps qs h t ih =>
  rw [List.map_cons, List.map_cons]
  refine .cons ?_ ih
  obtain ⟨h1, h2⟩ := h
  by_cases e : p.1 = k
  ·rw [if_pos e, if_pos (h1.symm.trans e)]; exact ⟨h1, ry⟩
  ·rw [if_neg e, if_neg (fun z => e (h1.trans z))]; exact ⟨h1, h2⟩
theorem KV.put {kvs : List (κ × V)} {vs : List (κ × Value)} (r : KV kvs vs) (k : κ) {y : V} {u : Value} (ry : RelV y u) : KV (putK kvs k y) (stored vs k u) := by
 unfold putK stored
 rw [r.any k]
 by_cases e : (vs.any fun kv => decide (kv.1 = k)) = true
 ·rw [if_pos e, if_pos e]; exact r.repl k ry
 ·rw [if_neg e, if_neg e]; exact Paired.snoc r ⟨rfl, ry⟩
theorem KV.length {kvs : List (κ × V)} {vs : List (κ × Value)} (r : KV kvs vs) : kvs.length = vs.length := Paired.length r
theorem dropK_le (kvs : List (κ × V)) (k : κ) : (dropK kvs k).length ≤ kvs.length := List.length_filter_le _ _
end
theorem kV_is {P : Program} {w : World} {k : Key} {u : Value} (r : RelV (kV k) u) : (mixKind P w).is k u = true := by
 cases k with
 | inl i => obtain ⟨t, e⟩ := (show ∃ t, u = Value.int i t from r); subst e; exact mixKind_int P w i t
 | inr x => obtain ⟨t, e⟩ := (show ∃ t, u = Value.str x t from r); subst e; exact mixKind_str P w x t
theorem items_are {P : Program} {w : World} : ∀ {ks : List Key} {us : List Value}, Vals (ks.map kV) us → ItemsAre (mixKind P w) ks us
 | [], _, r => by rw [List.map_nil] at r; cases r; exact .nil
 | k :: ks, _, r => by
  rw [List.map_cons] at r
  cases r with
  | cons h t => exact .cons (kV_is h) (items_are t)
abbrev KT (H : Hp) : List (List Key × V) → List (List Key × Addr × Value) → Prop := Paired fun p q => p.1 = q.1 ∧ H q.2.1 = some (.tup (p.1.map kV)) ∧ RelV p.2 q.2.2
theorem KT.val {H : Hp} {kvs : List (List Key × V)} {xs : List (List Key × Addr × Value)} (r : KT H kvs xs) (k : List Key) : RelO (valV kvs k) ((atKey xs k).map (·.2)) := by
 induction r with
 | nil => exact True.intro
 | @cons p q ps qs h t ih =>
  obtain ⟨h1, _, h2⟩ := h
  by_cases e : p.1 = k
  ·have e' : q.1 = k := h1.symm.trans e
   have b : atKey (q :: qs) k = some q.2 := by simp [atKey, List.find?_cons, e']
   rw [valV_pos e, b]; exact h2
  ·have e' : ¬ q.1 = k := fun z => e (h1.trans z)
   have b : atKey (q :: qs) k = atKey qs k := by simp [atKey, List.find?_cons, e']
   rw [valV_neg e, b]; exact ih
theorem KT.repl {H : Hp} {kvs : List (List Key × V)} {xs : List (List Key × Addr × Value)} (r : KT H kvs xs) (k : List Key) {y : V} {u : Value} (ry : RelV y u) :
  KT H (kvs.map fun kv => if kv.1 = k then (kv.1, y) else kv) (xs.map (putAt k u)) := by
 induction r with
 | nil => exact .nil
 | @cons p q ps qs h t ih =>
  rw [List.map_cons, List.map_cons]
  refine .cons ?_ ih
  obtain ⟨h1, h2, h3⟩ := h
  unfold putAt
  by_cases e : p.1 = k
  ·rw [if_pos e, if_pos (h1.symm.trans e)]; exact ⟨h1, h2, ry⟩
  ·rw [if_neg e, if_neg (fun z => e (h1.trans z))]; exact ⟨h1, h2, h3⟩
theorem KT.put {H : Hp} {kvs : List (List Key × V)} {xs : List (List Key × Addr × Value)} (r : KT H kvs xs) (k : List Key) {b : Addr} {y : V} {u : Value} (hb : H b = some (.tup (k.map kV))) (ry : RelV y u) :
  KT H (putK kvs k y) (storedH xs k b u) := by
 have e : (kvs.any fun kv => decide (kv.1 = k)) = (atKey xs k).isSome := by
  rw [valV_any, (r.val k).isSome_eq, Option.isSome_map]
 unfold putK storedH
 rw [e]
 by_cases q : (atKey xs k).isSome = true
 ·rw [if_pos q, if_pos q]; exact r.repl k ry
 ·rw [if_neg q, if_neg q]; exact Paired.snoc r ⟨rfl, hb, ry⟩
theorem KT.keeps {H H' : Hp} {kvs : List (List Key × V)} {xs : List (List Key × Addr × Value)} (r : KT H kvs xs) (ht : ∀ b ys, H b = some (.tup ys) → H' b = some (.tup ys)) : KT H' kvs xs :=
 Paired.mapP r fun _ _ z => ⟨z.1, ht _ _ z.2.1, z.2.2⟩
section
variable {P : Program} {w : World} {H : Hp} {h : Heap} {a : Addr}
theorem rd_of {u : HO} (ok : HOk P w H h) (e : Rd H a u) : ObjOk P w H h a u := e.ok ok
theorem dk_rd {kvs : List (Key × V)} (ok : HOk P w H h) (e : Rd H a (.dK kvs)) : kvs.length ≤ sizeLine ∧ (a == sysModules) = false ∧ ∃ vs, KV kvs vs ∧ h.DictOf (mixKind P w) a vs :=
 show ObjOk P w H h a (.dK kvs) from rd_of ok e
theorem dk_of {kvs : List (Key × V)} (ok : HOk P w H h) (e : H a = some (.dK kvs)) : kvs.length ≤ sizeLine ∧ (a == sysModules) = false ∧ ∃ vs, KV kvs vs ∧ h.DictOf (mixKind P w) a vs := dk_rd ok (.inl e)
theorem key_of {ks : List Key} (ok : HOk P w H h) (e : H a = some (.tup (ks.map kV))) : (tupleKind (mixKind P w)).is h ks a := by
 obtain ⟨_, its, r, o, h1, h2, n, h3⟩ := (show ObjOk P w H h a (.tup (ks.map kV)) from ok a _ e)
 exact ⟨o, its.toArray, n, h1, h2, h3, by simpa using items_are r⟩
theorem dt_rd {kvs : List (List Key × V)} (ok : HOk P w H h) (e : Rd H a (.dT kvs)) : kvs.length ≤ sizeLine ∧ (a == sysModules) = false ∧
  ∃ xs, KT H kvs xs ∧ h.DictOfH (tupleKind (mixKind P w)) a xs := by
 obtain ⟨z, y, xs, r, o, es, ep, h1, h2, h3, h4, h5⟩ := (show ObjOk P w H h a (.dT kvs) from rd_of ok e)
 refine ⟨z, y, xs, r, o, es, ep, h1, h2, h3, h4, fun x hx => ?_, h5⟩
 have all : ∀ {l : List (List Key × V)} {m : List (List Key × Addr × Value)}, KT H l m → ∀ x ∈ m, (tupleKind (mixKind P w)).is h x.1 x.2.1 := by
  intro l m q
  induction q with
  | nil => intro x hx; exact nomatch hx
  | @cons p q ps qs hq t ih =>
   intro x hx
   rcases List.mem_cons.mp hx with e | hx
   ·subst e
    exact key_of ok (by rw [← hq.1]; exact hq.2.1)
   ·exact ih x hx
 exact all r x hx
theorem dt_of {kvs : List (List Key × V)} (ok : HOk P w H h) (e : H a = some (.dT kvs)) : kvs.length ≤ sizeLine ∧ (a == sysModules) = false ∧
  ∃ xs, KT H kvs xs ∧ h.DictOfH (tupleKind (mixKind P w)) a xs := dt_rd ok (.inl e)
end
def DGet (H : Hp) (a : Addr) (y : V) (r : Option V) : Prop :=
 (∃ kvs k, Rd H a (.dK kvs) ∧ y = kV k ∧ r = valV kvs k) ∨ ∃ kvs k b, Rd H a (.dT kvs) ∧ y = .ref b ∧ H b = some (.tup (k.map kV)) ∧ r = valV kvs k
def DPut (H : Hp) (a : Addr) (y v : V) (H' : Hp) : Prop :=
 (∃ kvs k, H a = some (.dK kvs) ∧ y = kV k ∧ kvs.length < sizeLine ∧ H' = upd H a (.dK (putK kvs k v))) ∨
 ∃ kvs k b, H a = some (.dT kvs) ∧ y = .ref b ∧ H b = some (.tup (k.map kV)) ∧ kvs.length < sizeLine ∧ H' = upd H a (.dT (putK kvs k v))
theorem DGet.t {H : Hp} {a b : Addr} {kvs : List (List Key × V)} {k : List Key} (e : H a = some (.dT kvs)) (eb : H b = some (.tup (k.map kV))) : DGet H a (.ref b) (valV kvs k) := .inr ⟨kvs, k, b, .inl e, rfl, eb, rfl⟩
theorem DPut.t {H : Hp} {a b : Addr} {kvs : List (List Key × V)} {k : List Key} {v : V} (e : H a = some (.dT kvs)) (eb : H b = some (.tup (k.map kV))) (hl : kvs.length < sizeLine) :
  DPut H a (.ref b) v (upd H a (.dT (putK kvs k v))) := .inr ⟨kvs, k, b, e, rfl, eb, hl, rfl⟩
section
variable {X : Cx} {pins : List (Addr × Obj)} {σ : St} {H : Hp} {s : Shared} {a : Addr} {y v : V} {u r : Value} {o : Option V} {A : Around} {E : Value → Shared → Prop}
theorem Inv.big (I : Inv X pins σ H s) : sysModules < s.heap.objs.size := by
 have h : mainGlobals < s.heap.objs.size := (I.mod.glob.keeps I.bk).lt
 exact Nat.lt_trans (by decide) h
theorem d_getItem {Q : Value → Shared → Prop} (hu : A.units + 1 < cLine) (I : Inv X pins σ H s) (g : DGet H a y (some v)) (ry : RelV y u) (h : ∀ w' s', Inv X pins σ H s' → RelV v w' → Q w' s') :
  wpAny (model X.prog X.w) A (getItem (.ref a) u) Q E s := by
 rcases g with ⟨kvs, k, e, ey, l⟩ | ⟨kvs, k, b, e, ey, eb, l⟩
 ·subst ey
  obtain ⟨z, hd, vs, rel, dd⟩ := dk_rd I.hok e
  obtain ⟨w', hw, rw'⟩ := RelO.some_of (v := v) (o := valueAt vs k) (by rw [l]; exact rel.val k)
  exact wpAny_getItem_of (kV_is ry) dd.mapOf hw (h w' _ (I.tok _) rw')
 ·subst ey
  cases (show u = Value.ref b from ry)
  obtain ⟨z, hd, xs, rel, dd⟩ := dt_rd I.hok e
  obtain ⟨w', hw, rw'⟩ := RelO.some_of (v := v) (o := (atKey xs k).map (·.2)) (by rw [l]; exact rel.val k)
  obtain ⟨p, hp, hp2⟩ := Option.map_eq_some_iff.mp hw
  refine wpAny_getItem_heap (tupleKind_room_in1 hu) (key_of I.hok eb) dd hp ?_
  rw [hp2]
  exact h w' _ (I.tok _) rw'
theorem d_notIn {Q : Value → Shared → Prop} (hu : A.units + 1 < cLine) (I : Inv X pins σ H s) (g : DGet H a y o) (ry : RelV y u) (h : ∀ s', Inv X pins σ H s' → Q (.bool (!o.isSome)) s') :
  wpAny (model X.prog X.w) A (compareOp .NotIn u (.ref a)) Q E s := by
 rcases g with ⟨kvs, k, e, ey, l⟩ | ⟨kvs, k, b, e, ey, eb, l⟩
 ·subst ey
  obtain ⟨z, hd, vs, rel, dd⟩ := dk_rd I.hok e
  refine wpAny_notIn_of (kV_is ry) hd dd.mapOf ?_
  rw [← (rel.val k).isSome_eq, ← l]
  exact h _ (I.tok _)
 ·subst ey
  cases (show u = Value.ref b from ry)
  obtain ⟨z, hd, xs, rel, dd⟩ := dt_rd I.hok e
  refine wpAny_notIn_heap (tupleKind_room_in1 hu) (key_of I.hok eb) hd dd ?_
  have q := (rel.val k).isSome_eq
  rw [Option.isSome_map] at q
  rw [← q, ← l]
  exact h _ (I.tok _)
theorem d_write {h' : Heap} {t' : Nat} {ob : HO} (I : Inv X pins σ H s) (mu : Mut (H a)) (hs : Heap.SameBut a s.heap h') (he : ∃ q, h'.get? a = some q) (new : ObjOk X.prog X.w (upd H a ob) h' a ob) :
  Inv X pins σ (upd H a ob) { s with heap := h', toks := t' } :=
 I.write (x := a) (e := a) mu (.inl rfl) (fun b q hb z => (hs.2 b hb).trans z) he new
theorem dk_new {P : Program} {w : World} {H' : Hp} {h' : Heap} {kvs : List (Key × V)} {vs : List (Key × Value)} (z : kvs.length ≤ sizeLine) (hd : (a == sysModules) = false) (rel : KV kvs vs) (dd : h'.DictOf (mixKind P w) a vs) :
  ObjOk P w H' h' a (.dK kvs) := ⟨z, hd, vs, rel, dd⟩
theorem d_setItem {H' : Hp} {Q : Unit → Shared → Prop} (hu : A.units + 1 < cLine) (I : Inv X pins σ H s) (g : DPut H a y v H') (ry : RelV y u) (rv : RelV v r) (h : ∀ s', Inv X pins σ H' s' → Q () s') :
  wpAny (model X.prog X.w) A (setItem (.ref a) u r) Q E s := by
 rcases g with ⟨kvs, k, e, ey, l, eH⟩ | ⟨kvs, k, b, e, ey, eb, l, eH⟩
 ·subst ey eH
  obtain ⟨z, hd, vs, rel, dd⟩ := dk_of I.hok e
  have hz : vs.length ≤ sizeLine := by rw [← rel.length]; exact z
  have hl : (putK kvs k v).length ≤ sizeLine := by have := length_putK kvs k v; omega
  refine wpAny_setItem_pairs (hsz := hz) (kV_is ry) dd fun h' dd' hs => h _ ?_
  have he : ∃ q, h'.get? a = some q := let ⟨q, _, _, hq, _⟩ := dd'; ⟨q, hq⟩
  exact d_write I (by rw [e]; exact True.intro) hs he (dk_new hl hd (rel.put k rv) dd')
 ·subst ey eH
  cases (show u = Value.ref b from ry)
  obtain ⟨z, hd, xs, rel, dd⟩ := dt_of I.hok e
  have hz : xs.length ≤ sizeLine := by rw [← Paired.length rel]; exact z
  have hl : (putK kvs k v).length ≤ sizeLine := by have := length_putK kvs k v; omega
  refine wpAny_setItem_heap (hsz := hz) (tupleKind_room_in1 hu) (key_of I.hok eb) dd fun h' dd' hs => h _ ?_
  obtain ⟨q, es, ep, hq, h2, h3, h4, _, h5⟩ := dd'
  refine d_write I (by rw [e]; exact True.intro) hs ⟨q, hq⟩ ⟨hl, hd, _, (rel.put k eb rv).keeps fun c ys ec => ?_, q, es, ep, hq, h2, h3, h4, h5⟩
  rw [upd_ne (ne_of ec e (fun z => nomatch z))]
  exact ec
end
section
variable {X : Cx} {pins : List (Addr × Obj)} {σ : St} {H : Hp} {s : Shared} {a : Addr} {kvs : List (Key × V)} {k : Key} {u : Value} {A : Around} {E : Value → Shared → Prop}
end
def NoSl (i : Expr) : Prop := ∀ ov iv, subscripted i false ov iv = operate [ov, iv] (getItem ov iv)
theorem subD_of {prog : Program} {w : World} {A : Around} {E : Value → Shared → Prop} {s : Shared} {env : Env} {value slice : Expr} {pos : Pos} {T id : String} {Q : Value → Shared → Prop}
  (hl : typeLookup (.type T) "__getitem__" = pure (some (.builtin id))) (hs : NoSl slice)
  (h : wpAny (model prog w) A (eval value env) (fun o s₁ => wpAny (model prog w) A (eval slice env) (fun i s₂ => s₂.TypeIs o T ∧ wpAny (model prog w) A (getItem o i) Q E s₂) E s₁) E s) :
  wpAny (model prog w) A (eval (.Subscript value slice pos) env) Q E s := by
 refine Subscript_ (wpAny_mono h (fun o s₁ h₁ => wpAny_mono h₁ (fun i s₂ h₂ => ?_) fun _ _ x => x) fun _ _ x => x)
 obtain ⟨hT, h₂⟩ := h₂
 unfold subscriptTail
 refine wpAny_bind ?_
 rw [getitemInPython_of_ne hT.not_modules]
 refine wpAny_bind (wpAny_specialOf hT hl ?_)
 have fin : wpAny (model prog w) A (subscripted slice false o i) (fun r s₃ => wpAny (model prog w) A (letTemporaryGo value o r >>= fun _ => pure r) Q E s₃) E s₂ := by
  rw [hs o i]
  exact wpAny_operating (wpAny_mono h₂ (fun r s₃ h₃ => wpAny_bind (wpAny_letTemporaryGo (wpAny_pure h₃))) fun _ _ x => x)
 first
  | exact wpAny_pure (wpAny_bind fin)
  | exact wpAny_bind (wpAny_pure (wpAny_bind fin))
  | exact wpAny_bind fin
theorem dict_typeIs {X : Cx} {pins : List (Addr × Obj)} {σ : St} {H : Hp} {s : Shared} {a : Addr} {y : V} {o : Option V} (I : Inv X pins σ H s) (g : DGet H a y o) : s.TypeIs (.ref a) "dict" := by
 rcases g with ⟨kvs, k, e, _, _⟩ | ⟨kvs, k, b, e, _, _, _⟩
 ·obtain ⟨_, _, vs, _, dd⟩ := dk_rd I.hok e
  exact dd.typeIs
 ·obtain ⟨_, _, xs, _, dd⟩ := dt_rd I.hok e
  exact dd.typeIs
def tDGet (td ty : TE) : TE := fun σ H Q => td σ H fun x H1 => ty σ H1 fun y H2 => ∃ a v, x = .ref a ∧ DGet H2 a y (some v) ∧ Q v H2
def tDNotIn (ty td : TE) : TE := fun σ H Q => ty σ H fun y H1 => td σ H1 fun x H2 => ∃ a o, x = .ref a ∧ DGet H2 a y o ∧ Q (.bl (!o.isSome)) H2
def sDPut (td ty tv : TE) : TS := fun D σ H => tv σ H fun v H1 => td σ H1 fun x H2 => ty σ H2 fun y H3 => ∃ a H4, x = .ref a ∧ DPut H3 a y v H4 ∧ D.nx σ H4
section
variable {X : Cx} {o i e value : Expr} {pos pos' tpos : Pos} {td ty tv : TE}
theorem pe_dget (hu : X.A.units + 1 < cLine) (ho : PE X o td) (hi : PE X i ty) (hs : NoSl i) : PE X (.Subscript o i pos) (tDGet td ty) := by
 intro pins s σ H Q I h
 refine subD_of PySem.F.slot_dict_getitem.lookup hs (thn (ho pins s σ H _ I h) fun u s1 ⟨x, H1, I1, rx, q1⟩ => thn (hi pins s1 σ H1 _ I1 q1) fun iv s2 ⟨y, H2, I2, ry, a, v, ex, g, q2⟩ => ?_)
 subst ex
 obtain rfl : u = Value.ref a := rx
 exact ⟨dict_typeIs I2 g, d_getItem hu I2 g ry fun w' s3 I3 rw' => ⟨v, H2, I3, rw', q2⟩⟩
theorem pc_dnotin (hu : X.A.units + 1 < cLine) (hi : PE X i ty) (ho : PE X o td) : PC X .NotIn i o (tDNotIn ty td) := by
 intro pins s σ H Q I h
 refine thn (hi pins s σ H _ I h) fun iv s1 ⟨y, H1, I1, ry, q1⟩ => thn (ho pins s1 σ H1 _ I1 q1) fun u s2 ⟨x, H2, I2, rx, a, ov, ex, g, q2⟩ => ?_
 subst ex
 obtain rfl : u = Value.ref a := rx
 exact d_notIn hu I2 g ry fun s3 I3 => ⟨.bl (!ov.isSome), H2, I3, rfl, q2⟩
theorem ps_dput (hu : X.A.units + 1 < cLine) (ho : PE X o td) (hi : PE X i ty) (hv : PE X value tv) (hs : swapsWith value (some (.Subscript o i pos')) pos.line X.env = pure false) :
  PS X (.Assign [.Subscript o i pos'] value pos) (sDPut td ty tv) := by
 intro pins s σ H D I h
 refine wpAny_Assign_Subscript (thn (hv pins s σ H _ I h) fun r s1 ⟨v, H1, I1, rv, q1⟩ => thn (ho pins s1 σ H1 _ I1 q1) fun u s2 ⟨x, H2, I2, rx, q2⟩ => thn (hi pins s2 σ H2 _ I2 q2) fun iv s3 ⟨y, H3, I3, ry, a, H4, ex, g, q3⟩ => ?_) hs
 subst ex
 obtain rfl : u = Value.ref a := rx
 exact d_setItem hu I3 g ry rv fun s4 I4 => ⟨σ, H4, I4, q3⟩
end
theorem dt_empty {P : Program} {w : World} {H : Hp} (h : Heap) (hb : sysModules < h.objs.size) : ObjOk P w H (h.push { cls := .type "dict", data := .dict #[] }) h.objs.size (.dT []) :=
 ⟨Nat.zero_le _, beq_eq_false_iff_ne.mpr (Ne.symm (Nat.ne_of_lt hb)), [], .nil, _, #[], 0, Heap.get?_push_size _ rfl, ⟨rfl, rfl, rfl⟩, rfl, rfl, List.nodup_nil⟩
def tDNewT : TE := fun _ H Q => ∀ p, H p = none → Q (.ref p) (upd H p (.dT []))
section
variable {X : Cx} {pos : Pos}
theorem pe_dnewT : PE X (.Dict [] [] pos) tDNewT := fun pins s σ H Q I h =>
 wpAny_Dict_empty ⟨.ref s.heap.objs.size, _, I.laid (a := s.heap.objs.size) (o := .dT []) (t' := s.toks) (fun _ _ q => Heap.get?_push_of_some _ q) (Nat.le_refl _) (dt_empty s.heap I.big), rfl, h _ (I.hok.fresh (Nat.le_refl _))⟩
end
structure M1 (X : Cx) (o : Expr) (m : Str) (apos : Pos) (e : Expr) (cpos : Pos) : Prop where
 base : attributeBase o m X.env (eval o X.env) = eval o X.env
 few : ((backTo cpos (starEach [e] X.env)).all (fun x => !x.1) && (backToKw cpos (keywordEach [] X.env)).all (fun x => x.1.isSome)
  && decide (([e] : List Expr).length + ([] : List Keyword).length + (if ([] : List Keyword).isEmpty then 0 else 1) < 30)) = true
 line : (apos.endLine == cpos.line) = true
 trees : backTo cpos (starEach [e] X.env) = [(false, eval e X.env)]
structure M2 (X : Cx) (o : Expr) (m : Str) (apos : Pos) (e f : Expr) (cpos : Pos) : Prop where
 base : attributeBase o m X.env (eval o X.env) = eval o X.env
 few : ((backTo cpos (starEach [e, f] X.env)).all (fun x => !x.1) && (backToKw cpos (keywordEach [] X.env)).all (fun x => x.1.isSome)
  && decide (([e, f] : List Expr).length + ([] : List Keyword).length + (if ([] : List Keyword).isEmpty then 0 else 1) < 30)) = true
 line : (apos.endLine == cpos.line) = true
 trees : backTo cpos (starEach [e, f] X.env) = [(false, eval e X.env), (false, eval f X.env)]
def IsD (H : Hp) (a : Addr) : Prop := (∃ kvs, Rd H a (.dK kvs)) ∨ ∃ kvs, Rd H a (.dT kvs)
theorem isD_at {X : Cx} {pins : List (Addr × Obj)} {σ : St} {H : Hp} {s : Shared} {a : Addr} (I : Inv X pins σ H s) (d : IsD H a) :
  s.TypeIs (.ref a) "dict" ∧ (∀ b, Value.ref a = .ref b → ∃ ob, s.heap.get? b = some ob ∧ ob.dict = none) ∧ (a == sysModules) = false := by
 rcases d with ⟨kvs, e⟩ | ⟨kvs, e⟩
 ·obtain ⟨_, hd, vs, _, dd⟩ := dk_rd I.hok e
  refine ⟨dd.typeIs, fun b q => ?_, hd⟩
  cases q
  obtain ⟨ob, _, _, h1, h2, _⟩ := dd
  exact ⟨ob, h1, h2.2.1⟩
 ·obtain ⟨_, hd, xs, _, dd⟩ := dt_rd I.hok e
  refine ⟨dd.typeIs, fun b q => ?_, hd⟩
  cases q
  obtain ⟨ob, _, _, h1, h2, _⟩ := dd
  exact ⟨ob, h1, h2.2.1⟩
section
variable {X : Cx} {pins : List (Addr × Obj)} {σ : St} {H : Hp} {s : Shared} {a : Addr} {y d : V} {u r : Value} {o : Option V} {A : Around} {E : Value → Shared → Prop}
theorem d_get1 {Q : Value → Shared → Prop} (hu : A.units + 1 < cLine) (I : Inv X pins σ H s) (g : DGet H a y o) (ry : RelV y u) (h : ∀ w' s', Inv X pins σ H s' → RelV (o.getD .non) w' → Q w' s') :
  wpAny (model X.prog X.w) A (call (.builtin "dict.get") [.ref a, u]) Q E s := by
 rcases g with ⟨kvs, k, e, ey, l⟩ | ⟨kvs, k, b, e, ey, eb, l⟩
 ·subst ey
  obtain ⟨z, hd, vs, rel, dd⟩ := dk_rd I.hok e
  refine call_meetsIn PySem.F.slot_dict_get dd.typeIs PySem.F.entry_dict_get (PySem.F.args_dict_get_2 _ _) (meets_dict_get (mixKind X.prog X.w) a (kV_is ry) hd) ⟨_, dd.mapOf, h _ _ (I.tok _) ?_⟩
  rw [l]
  exact (rel.val k).getD rfl
 ·subst ey
  cases (show u = Value.ref b from ry)
  obtain ⟨z, hd, xs, rel, dd⟩ := dt_rd I.hok e
  refine call_meetsIn PySem.F.slot_dict_get dd.typeIs PySem.F.entry_dict_get (PySem.F.args_dict_get_2 _ _) (meetsH_dict_get (tupleKind (mixKind X.prog X.w)) a b hd) ⟨tupleKind_room_in1 hu, k, xs, key_of I.hok eb, dd, h _ _ (I.tok _) ?_⟩
  rw [l]
  exact (rel.val k).getD rfl
theorem d_get2 {Q : Value → Shared → Prop} (hu : A.units + 1 < cLine) (I : Inv X pins σ H s) (g : DGet H a y o) (ry : RelV y u) (rd : RelV d r) (h : ∀ w' s', Inv X pins σ H s' → RelV (o.getD d) w' → Q w' s') :
  wpAny (model X.prog X.w) A (call (.builtin "dict.get") [.ref a, u, r]) Q E s := by
 rcases g with ⟨kvs, k, e, ey, l⟩ | ⟨kvs, k, b, e, ey, eb, l⟩
 ·subst ey
  obtain ⟨z, hd, vs, rel, dd⟩ := dk_rd I.hok e
  refine call_meetsIn PySem.F.slot_dict_get dd.typeIs PySem.F.entry_dict_get (PySem.F.args_dict_get_3 _ _ _) (meets_dict_get_default (mixKind X.prog X.w) a (kV_is ry) hd r) ⟨_, dd.mapOf, h _ _ (I.tok _) ?_⟩
  rw [l]
  exact (rel.val k).getD rd
 ·subst ey
  cases (show u = Value.ref b from ry)
  obtain ⟨z, hd, xs, rel, dd⟩ := dt_rd I.hok e
  refine call_meetsIn PySem.F.slot_dict_get dd.typeIs PySem.F.entry_dict_get (PySem.F.args_dict_get_3 _ _ _) (meetsH_dict_get_default (tupleKind (mixKind X.prog X.w)) a b hd r) ⟨tupleKind_room_in1 hu, k, xs, key_of I.hok eb, dd, h _ _ (I.tok _) ?_⟩
  rw [l]
  exact (rel.val k).getD rd
end
def tDGet1 (td ty : TE) : TE := fun σ H Q => td σ H fun x H1 => ∃ a, x = .ref a ∧ IsD H1 a ∧ ty σ H1 fun y H2 => ∃ o, DGet H2 a y o ∧ Q (o.getD .non) H2
def tDGet2 (td ty tx : TE) : TE := fun σ H Q => td σ H fun x H1 => ∃ a, x = .ref a ∧ IsD H1 a ∧ ty σ H1 fun y H2 => tx σ H2 fun z H3 => ∃ o, DGet H3 a y o ∧ Q (o.getD z) H3
section
variable {X : Cx} {o e f : Expr} {apos cpos : Pos} {td ty tx : TE}
theorem pe_dget1 (hu : X.A.units + 1 < cLine) (ho : PE X o td) (he : PE X e ty) (m : M1 X o "get" apos e cpos) : PE X (.Call (.Attribute o "get" apos) [e] [] cpos) (tDGet1 td ty) := by
 intro pins s σ H Q I h
 refine wpAny_Call_method m.base m.few m.line PySem.F.plainAttrs_dict PySem.F.slot_dict_get PySem.F.type_dict_get (thn (ho pins s σ H _ I h) fun u s1 ⟨x, H1, I1, rx, a, ex, d, q1⟩ => ?_)
 subst ex
 obtain rfl : u = Value.ref a := rx
 obtain ⟨t1, t2, _⟩ := isD_at I1 d
 refine ⟨t1, t2, ?_⟩
 rw [m.trees]
 refine Calls.callWith_builtin rfl (Calls.evalArgs_plain (Calls.spliced_cons (thn (he pins s1 σ H1 _ I1 q1) fun iv s2 ⟨y, H2, I2, ry, ov, g, q2⟩ => Calls.spliced_nil ?_)))
 exact d_get1 hu I2 g ry fun w' s3 I3 rw' => ⟨_, H2, I3, rw', q2⟩
theorem pe_dget2 (hu : X.A.units + 1 < cLine) (ho : PE X o td) (he : PE X e ty) (hf : PE X f tx) (m : M2 X o "get" apos e f cpos) : PE X (.Call (.Attribute o "get" apos) [e, f] [] cpos) (tDGet2 td ty tx) := by
 intro pins s σ H Q I h
 refine wpAny_Call_method m.base m.few m.line PySem.F.plainAttrs_dict PySem.F.slot_dict_get PySem.F.type_dict_get (thn (ho pins s σ H _ I h) fun u s1 ⟨x, H1, I1, rx, a, ex, d, q1⟩ => ?_)
 subst ex
 obtain rfl : u = Value.ref a := rx
 obtain ⟨t1, t2, _⟩ := isD_at I1 d
 refine ⟨t1, t2, ?_⟩
 rw [m.trees]
 refine Calls.callWith_builtin rfl (Calls.evalArgs_plain (Calls.spliced_cons (thn (he pins s1 σ H1 _ I1 q1) fun iv s2 ⟨y, H2, I2, ry, q2⟩ =>
  Calls.spliced_cons (thn (hf pins s2 σ H2 _ I2 q2) fun fv s3 ⟨z, H3, I3, rz, ov, g, q3⟩ => Calls.spliced_nil ?_))))
 exact d_get2 hu I3 g ry rz fun w' s4 I4 rw' => ⟨_, H3, I4, rw', q3⟩
end
section
variable {X : Cx} {pins : List (Addr × Obj)} {σ : St} {H : Hp} {s : Shared} {a : Addr} {kvs : List (Key × V)} {A : Around} {E : Value → Shared → Prop}
end
section
variable {X : Cx} {pins : List (Addr × Obj)} {σ : St} {H : Hp} {s : Shared} {a : Addr} {y : V} {u : Value} {A : Around} {E : Value → Shared → Prop}
end
end L2
namespace L2
open PySem PySem.Spec PyProof.Rows
section
variable {prog : Program} {w : World} {A : Around} {E : Value → Shared → Prop} {s : Shared}
theorem iter_raw {d : Addr} {o : Obj} {es : Array DictEntry} {ep : Nat} {Q : Value → Shared → Prop} (hd : (d == sysModules) = false) (ho : s.heap.get? d = some o) (hc : o.ExactDict) (hdat : o.data = .dict es ep)
  (hQ : Q (.ref s.heap.objs.size) { s with heap := s.heap.push { cls := .type "dict_keyiterator", data := .fields #[.ref d, .int 0 0, .int es.size 0, .int ep 0] } }) : wpAny (model prog w) A (pyIter (.ref d)) Q E s := by
 have hT : s.TypeIs (.ref d) "dict" := ⟨o, ho, hc.1⟩
 refine wpAny_pyIter_slot hT F.slot_dict_iter (wpAny_call_entry F.slot_dict_iter hT F.entry_dict_iter ?_ (F.args_dict_iter_1 _))
 unfold Builtin.«dict.__iter__»
 refine wpAny_bind ?_
 unfold Builtin.Dict.dictSlotNone
 refine wpAny_bind (wpAny_notOrdered_dict hT ?_)
 show wpAny _ _ (pure (Value.ref d)) _ _ s
 refine wpAny_pure ?_
 show wpAny _ _ (Builtin.Dict.showsAll d >>= _) _ _ s
 unfold Builtin.Dict.showsAll
 rw [if_neg (by rw [hd]; exact Bool.false_ne_true)]
 refine wpAny_bind (wpAny_pure ?_)
 refine wpAny_bind (wpAny_dictEntries ho hdat ?_)
 refine wpAny_bind (wpAny_dictEpoch ho hdat ?_)
 refine wpAny_bind (wpAny_newObj_type (wpAny_pure ⟨_, rfl, "dict_keyiterator", _, ⟨_, Heap.get?_push_size _ rfl, rfl⟩, F.slot_dict_keyiterator_next.lookup, ?_⟩))
 simpa [rawInt] using hQ
theorem next_raw {it d : Addr} {i ep : Nat} {od : Obj} {es : Array DictEntry} {Q : Option Value → Shared → Prop} (hit : s.heap.IsKeyIter it d i es.size ep) (hod : s.heap.get? d = some od) (hdd : od.data = .dict es ep) (hlt' : i < es.size)
  (hQ : ∀ h', h'.IsKeyIter it d (i + 1) es.size ep → Heap.SameBut it s.heap h' → Q (some es[i].key) { s with heap := h' }) : wpAny (model prog w) A (pyNext (.ref it)) Q E s := by
 obtain ⟨o, ho, hc, hd⟩ := id hit
 unfold pyNext
 refine wpAny_bind (wpAny_attempt (wpAny_callSpecial?_slot (name := Str.ofString "__next__") hit.typeIs F.slot_dict_keyiterator_next
  (wpAny_call_entry F.slot_dict_keyiterator_next hit.typeIs F.entry_dict_keyiterator_next ?_ (F.args_dict_keyiterator_next_1 _))))
 refine wpAny_bind (wpAny_pure ?_)
 refine wpAny_bind ?_
 refine wpAny_bind ?_
 first | refine wpAny_bind (wpAny_typeNameOfWhole_keyiter hit.typeIs (wpAny_pure ?_)) | refine wpAny_bind (wpAny_typeNameOf_keyiter hit.typeIs (wpAny_pure ?_))
 refine wpAny_bind (wpAny_fieldsOf ho hd ?_)
 have hown : Builtin.Dict_items.ownsTuple "dict_keyiterator" = false := by decide
 simp only [hown, Bool.false_eq_true, if_false]
 show wpAny _ _ (if (Value.ref d == Value.none) = true then _ else _) _ _ s
 rw [if_neg (show ¬ ((Value.ref d == Value.none) = true) from Bool.false_ne_true)]
 refine wpAny_bind (wpAny_pure ?_)
 refine wpAny_bind (wpAny_dictEntries hod hdd ?_)
 rw [if_neg (by simp)]
 refine wpAny_bind (wpAny_pure ?_)
 refine wpAny_bind (wpAny_dictEpoch hod hdd ?_)
 rw [if_neg (by simp)]
 refine wpAny_pure ?_
 simp only [show ¬ ((i : Int) < 0) from by omega, if_false, Int.toNat_natCast, Array.getElem?_eq_getElem hlt']
 refine wpAny_bind ?_
 first | refine wpAny_bind (wpAny_typeNameOfWhole_keyiter hit.typeIs (wpAny_pure ?_)) | refine wpAny_bind (wpAny_typeNameOf_keyiter hit.typeIs (wpAny_pure ?_))
 refine wpAny_bind (wpAny_isOneOf_keyiter hit.typeIs ?_)
 show wpAny _ _ (setField (.ref it) 1 (rawInt ((i : Int) + 1)) >>= _) _ _ s
 refine wpAny_bind (wpAny_setField ho hd (by simp) ?_)
 have hit' : (s.heap.update it (Obj.mapFields (·.setIfInBounds 1 (rawInt ((i : Int) + 1))))).IsKeyIter it d (i + 1) es.size ep :=
  ⟨_, Heap.get?_update_self _ ho (Obj.isFreed_of_fields (Obj.data_mapFields hd _)), (Obj.cls_mapFields ..).trans hc, by rw [Obj.data_mapFields hd]; simp [rawInt]⟩
 refine wpAny_bind (wpAny_holding ?_)
 refine wpAny_bind (wpAny_isOneOf_keyiter (s := { s with heap := s.heap.update it (Obj.mapFields (·.setIfInBounds 1 (rawInt ((i : Int) + 1)))) }) hit'.typeIs ?_)
 show wpAny _ _ (pure es[i].key) _ _ _
 exact wpAny_pure (wpAny_pure ⟨_, rfl, wpAny_pure (hQ _ hit' (Heap.SameBut.update ..))⟩)
theorem end_raw {it d : Addr} {i ep : Nat} {od : Obj} {es : Array DictEntry} {Q : Option Value → Shared → Prop} (hh : A.handled = none) (hit : s.heap.IsKeyIter it d i es.size ep) (hod : s.heap.get? d = some od) (hdd : od.data = .dict es ep) (hge : es.size ≤ i)
  (hQ : ∀ h', Heap.ExtBut it s.heap h' → Q none { s with heap := h' }) : wpAny (model prog w) A (pyNext (.ref it)) Q E s := by
 obtain ⟨o, ho, hc, hd⟩ := id hit
 unfold pyNext
 refine wpAny_bind (wpAny_attempt (wpAny_callSpecial?_slot (name := Str.ofString "__next__") hit.typeIs F.slot_dict_keyiterator_next
  (wpAny_call_entry F.slot_dict_keyiterator_next hit.typeIs F.entry_dict_keyiterator_next ?_ (F.args_dict_keyiterator_next_1 _))))
 refine wpAny_bind (wpAny_pure ?_)
 refine wpAny_bind ?_
 refine wpAny_bind ?_
 first | refine wpAny_bind (wpAny_typeNameOfWhole_keyiter hit.typeIs (wpAny_pure ?_)) | refine wpAny_bind (wpAny_typeNameOf_keyiter hit.typeIs (wpAny_pure ?_))
 refine wpAny_bind (wpAny_fieldsOf ho hd ?_)
 have hown : Builtin.Dict_items.ownsTuple "dict_keyiterator" = false := by decide
 simp only [hown, Bool.false_eq_true, if_false]
 show wpAny _ _ (if (Value.ref d == Value.none) = true then _ else _) _ _ s
 rw [if_neg (show ¬ ((Value.ref d == Value.none) = true) from Bool.false_ne_true)]
 refine wpAny_bind (wpAny_pure ?_)
 refine wpAny_bind (wpAny_dictEntries hod hdd ?_)
 rw [if_neg (by simp)]
 refine wpAny_bind (wpAny_pure ?_)
 refine wpAny_bind (wpAny_dictEpoch hod hdd ?_)
 rw [if_neg (by simp)]
 refine wpAny_pure ?_
 simp only [show ¬ ((i : Int) < 0) from by omega, if_false, Int.toNat_natCast, Array.getElem?_eq_none hge]
 refine wpAny_bind ?_
 first | refine wpAny_bind (wpAny_typeNameOfWhole_keyiter hit.typeIs (wpAny_pure ?_)) | refine wpAny_bind (wpAny_typeNameOf_keyiter hit.typeIs (wpAny_pure ?_))
 show wpAny _ _ (setField (.ref it) 0 .none >>= _) _ _ s
 refine wpAny_bind (wpAny_setField ho hd (by simp) ?_)
 show wpAny _ _ (newExc (.type "StopIteration") [] >>= _) _ _ _
 refine wpAny_bind ?_
 simp only [newExc, newTuple]
 refine wpAny_bind (wpAny_newObj_type ?_ (by size_fits))
 refine wpAny_bind (m := firstArgMember _ _) (wpAny_of_eq (a := Value.none) (by first | rfl | (simp only [firstArgMember]; rfl)) ?_)
 refine wpAny_newObj_type ?_ (by size_fits)
 simp only [raiseNew]
 refine wpAny_bind (wpAny_handled ?_)
 rw [show A.in1.handled = none from hh]
 refine wpAny_bind (wpAny_pure (wpAny_throw ?_))
 refine wpAny_bind (wpAny_isInstance (T := "StopIteration") (b := true) ⟨_, Heap.get?_push_size _ rfl, rfl⟩ isSubtype_stop ?_)
 exact wpAny_pure (hQ _ (((Heap.SameBut.update ..).extBut.push _).push _))
end
def ItdT (a : Addr) (o : Obj) (kvs : List (List Key × V)) : It :=
 ⟨fun i H => H a = some (.frz o (.dT kvs)) ∧ i < kvs.length, fun i H x H' => H' = H ∧ ∃ k v b, kvs[i]? = some (k, v) ∧ x = .ref b ∧ H b = some (.tup (k.map kV)), fun i H => H a = some (.frz o (.dT kvs)) ∧ kvs.length ≤ i⟩
def DIt (o : Obj) (a it : Addr) (i : Nat) (h : Heap) : Prop := ∃ es ep, o.data = .dict es ep ∧ h.IsKeyIter it a i es.size ep
theorem Paired.getP {α β : Type} {F : α → β → Prop} {l₁ : List α} {l₂ : List β} (h : Paired F l₁ l₂) : ∀ {i : Nat} {x : α}, l₁[i]? = some x → ∃ y, l₂[i]? = some y ∧ F x y := by
 induction h with
 | nil => intro i x e; cases e
 | @cons a b as bs f t ih =>
  intro i x e
  cases i with
  | zero => cases e; exact ⟨b, rfl, f⟩
  | succ i => exact ih e
theorem turn_dictT {P : Program} {w : World} {K : PySem.W.Frag} {tg : Expr} (a it : Addr) (o : Obj) (kvs : List (List Key × V)) : Turn P w K tg (ItdT a o kvs) [it] it (DIt o a it) where
 mem := by simp
 obj := fun i h st b hb => by
  have e : b = it := by simpa using hb
  subst e
  obtain ⟨_, _, _, o, e, c, d⟩ := st
  exact ⟨o, e, fun v z => by rw [d] at z; cases z⟩
 keep := fun i h h' st k => by
  obtain ⟨es, ep, e0, o, e, c, d⟩ := st
  exact ⟨es, ep, e0, o, k it (by simp) o e, c, d⟩
 item := by
  intro X hP hw hK hc i pins s σ H E I hf st hg
  subst hP hw hK
  obtain ⟨hq, hx⟩ := hg
  obtain ⟨es, ep, hdd, st⟩ := st
  obtain ⟨hod, _, _, xs, rel, o', es', ep', ho', hex, hdd', hes, _⟩ := (show ObjOk X.prog X.w H s.heap a (.frz o (.dT kvs)) from I.hok a _ hq)
  rw [hod] at ho'
  cases ho'
  rw [hdd] at hdd'
  cases hdd'
  obtain ⟨f0, f1, f2, f3, f4, f5⟩ := hf it (by simp)
  have hl : es.size = kvs.length := by rw [Paired.length rel, ← List.length_map (f := entryOfKey (tupleKind (mixKind X.prog X.w))), ← hes, Array.length_toList]
  have hi : i < es.size := by omega
  obtain ⟨q, eq, e1, e2, e3⟩ := Paired.getP rel (List.getElem?_eq_getElem hx)
  have hk : es[i].key = .ref q.2.1 := by
   have : es.toList[i]? = some es[i] := by simp [hi]
   rw [hes, List.getElem?_map, eq] at this
   have := Option.some.inj this
   rw [← this]; rfl
  refine next_raw st hod hdd hi fun h' st' sb => ?_
  have I1 : Inv X pins σ H { s with heap := h' } := I.turned (t' := s.toks) (fun b o hb e => (sb.2 b hb).trans e) f0 f1 f3 f4 f5
  obtain ⟨oi, e, c, d⟩ := id st'
  refine ⟨_, rfl, go_of (s := { s with heap := h' }) e c d (by decide) ⟨.ref q.2.1, H, I1, hk, ⟨rfl, kvs[i].1, kvs[i].2, q.2.1, List.getElem?_eq_getElem hx, rfl, e2⟩, ⟨es, ep, hdd, st'⟩, fun b hb => (hf b hb).1⟩⟩
 done := by
  intro X hP hw hK hc i pins s σ H E I hf st hg
  subst hP hw hK
  obtain ⟨hq, hx⟩ := hg
  obtain ⟨es, ep, hdd, st⟩ := st
  obtain ⟨hod, _, _, xs, rel, o', es', ep', ho', hex, hdd', hes, _⟩ := (show ObjOk X.prog X.w H s.heap a (.frz o (.dT kvs)) from I.hok a _ hq)
  rw [hod] at ho'
  cases ho'
  rw [hdd] at hdd'
  cases hdd'
  obtain ⟨f0, f1, f2, f3, f4, f5⟩ := hf it (by simp)
  have hl : es.size = kvs.length := by rw [Paired.length rel, ← List.length_map (f := entryOfKey (tupleKind (mixKind X.prog X.w))), ← hes, Array.length_toList]
  exact end_raw (I.ok.hd hc) st hod hdd (by omega) fun h' eb => ⟨rfl, I.turned (t' := s.toks) (fun b o hb e => eb b o hb e) f0 f1 f3 f4 f5⟩
 self := fun _ i s _ _ st h => by
  obtain ⟨es, ep, _, st⟩ := st
  exact wpAny_pyIter_keyiter st h
def iDictT (td : TE) : TI := fun σ H R => td σ H fun x H1 => ∃ a kvs, x = .ref a ∧ ((H1 a = some (.dT kvs) ∧ ∀ o, R (ItdT a o kvs) (upd H1 a (.frz o (.dT kvs)))) ∨ ∃ o, H1 a = some (.frz o (.dT kvs)) ∧ R (ItdT a o kvs) H1)
theorem pi_dictT {X : Cx} {tg l : Expr} {td : TE} (hl : PE X l td) : PI X tg l (iDictT td) := by
 intro pins s σ H R I h
 refine thn (hl pins s σ H _ I h) fun v s1 ⟨x, H1, I1, r1, a, kvs, e, q⟩ => ?_
 subst e
 cases r1
 have fin : ∀ (o : Obj) (H2 : Hp), Inv X pins σ H2 s1 → H2 a = some (.frz o (.dT kvs)) → R (ItdT a o kvs) H2 → wpAny (model X.prog X.w) X.A (pyIter (.ref a)) (PIE X pins σ tg R) X.xe s1 := fun o H2 I2 e2 q2 => by
  obtain ⟨hod, _, hd, xs, rel, o', es, ep, ho', hex, hdd, hes, _⟩ := (show ObjOk X.prog X.w H2 s1.heap a (.frz o (.dT kvs)) from I2.hok a _ e2)
  rw [hod] at ho'
  cases ho'
  refine iter_raw hd hod hex hdd ?_
  refine ⟨s1.heap.objs.size, [s1.heap.objs.size], _, _, H2, rfl, I2.kept (t' := s1.toks) fun b o e => Heap.get?_push_of_some _ e, turn_dictT a _ o kvs, ⟨es, ep, hdd, _, Heap.get?_push_size _ rfl, rfl, rfl⟩, fun b hb => ?_, q2⟩
  have e : b = s1.heap.objs.size := by simpa using hb
  subst e
  exact I2.fpOk (Nat.le_refl _) (I2.hok.fresh (Nat.le_refl _))
 rcases q with ⟨e1, q⟩ | ⟨o, e1, q⟩
 ·obtain ⟨z, hd, xs, rel, o, es, ep, ho, r⟩ := (show ObjOk X.prog X.w H1 s1.heap a (.dT kvs) from I1.hok a _ e1)
  refine fin o _ ?_ upd_same (q o)
  exact I1.write (t' := s1.toks) (x := a) (e := a) (by rw [e1]; exact True.intro) (.inl rfl) (fun _ _ _ z => z) ⟨o, ho⟩ ⟨ho, z, hd, xs, KT.keeps rel fun c ys ec => (by rw [upd_ne (ne_of ec e1 (fun z => nomatch z))]; exact ec), o, es, ep, ho, r⟩
 ·exact fin o H1 I1 e1 q
end L2
namespace My
open PySem L2
theorem u1 {n : Nat} (h : n + 64 < cLine) : n + 1 < cLine := by omega
def keyD : PyData → Option (List Int)
 | .tuple xs => intsD xs
 | _ => none
theorem inl_inj {a b : List Int} (h : a.map (Sum.inl : Int → Key) = b.map Sum.inl) : a = b := List.map_inj_right (fun _ _ e => Sum.inl.inj e) |>.mp h
theorem kv_inl (k : List Int) : (k.map (Sum.inl : Int → Key)).map kV = k.map V.int := by rw [List.map_map]; rfl
theorem key_th {F : Addr → Prop} {H : Hp} {v : V} {d : PyData} {k : List Int} (t : ThV F H v d) (h : keyD d = some k) : ∃ b, v = .ref b ∧ H b = some (.tup ((k.map (Sum.inl : Int → Key)).map kV)) := by
 cases d with
 | tuple xs =>
  obtain ⟨b, vs, rfl, _, e, t⟩ := th_tup t
  have z := ints_of t h
  subst z
  exact ⟨b, rfl, by rw [kv_inl]; exact e⟩
 | _ => cases h
theorem int_ths {F : Addr → Prop} {H : Hp} : ∀ k : List Int, ThVs F H (k.map V.int) (k.map PyData.int)
 | [] => .nil
 | i :: k => .cons (.int i) (int_ths k)
section
variable {C : DC} {col : Addr → Nat} {ρ : List Sl} {σ : St} {P : List Pe} {H H' : Hp} {p : Addr}
theorem RelC.ownX {i : Nat} {o : HO} {s : Sl} (r : RelC C col ρ σ P H) (hp : H p = none) (k : Kq C.hand H H') (q : Hq C.hand H') (ep : H' p = some o)
  (new : i < ρ.length → ∀ col' : Addr → Nat, col' p = 2 * i + 3 → (∀ b, b ≠ p → col' b = col b) → C.H0 p = none → SlR C col' H' i (some (.ref p)) s) :
  ∃ col' : Addr → Nat, RelC C col' (ρ.set i s) (σ.set i (some (.ref p))) P H' ∧ col' p = 2 * i + 3 ∧ ∀ b, b ≠ p → col' b = col b := by
 let col' : Addr → Nat := fun b => if b = p then 2 * i + 3 else col b
 have ca : col' p = 2 * i + 3 := if_pos rfl
 have cn : ∀ b, b ≠ p → col' b = col b := fun b hb => if_neg hb
 have ni : ∀ b o, H b = some o → b ≠ p := fun b o e z => by rw [z, hp] at e; cases e
 have up : ∀ b o, col b ≠ 1 → H b = some o → H' b = some o := fun b o h e => k b o e (r.notH h)
 have r1 := r.mv k q
 have h0 : C.H0 p = none := r.kq.fr r.hq hp
 refine ⟨col', RelC.chg r i _ (by rw [List.length_set]; exact r.len) (fun b hb => ?_) (fun b hb => ?_) (fun x hx => ?_) (fun b o c e => ⟨?_, up b o (by lia) e⟩) (fun b o c n e => ⟨?_, k b o e n⟩) (fun _ _ _ _ b o c e => ⟨?_, up b o (by lia) e⟩) (fun b o j hj c e => ⟨?_, up b o (by lia) e⟩) (r.kq.trans k) q (fun j hj => by rw [List.getElem?_set_ne (Ne.symm hj)]) fun hl => ?_, ca, cn⟩
 ·have z : b ≠ p := fun z => by rw [z, ep] at hb; cases hb
  rw [cn b z]; exact r1.fresh b hb
 ·have z : b ≠ p := fun z => by rw [z, ca] at hb; cases hb
  rw [cn b z] at hb; exact r.inF b hb
 ·obtain ⟨o', e'⟩ := (r.hq x hx).at1
  rw [cn _ (ni _ _ e')]; exact r.hnd x hx
 ·rw [cn b (ni b o e)]; exact c
 ·rw [cn b (ni b o e)]; exact c
 ·rw [cn b (ni b o e)]; exact c
 ·rw [cn b (ni b o e)]; exact c
 ·have : (σ.set i (some (V.ref p)))[i]?.join = some (.ref p) := by rw [List.getElem?_set, if_pos rfl, if_pos (by rw [← r.len]; exact hl)]; rfl
  rw [this]
  exact new hl col' ca cn h0
theorem RelC.ownO {i : Nat} {o : HO} {s : Sl} (r : RelC C col ρ σ P H) (hp : H p = none) (k : Kq C.hand H H') (q : Hq C.hand H') (ep : H' p = some o)
  (new : ∀ col' : Addr → Nat, col' p = 2 * i + 3 → (∀ b, b ≠ p → col' b = col b) → C.H0 p = none → SlR C col' H' i (some (.ref p)) s) : Rel C (ρ.set i s) (σ.set i (some (.ref p))) P H' := by
 obtain ⟨col', r', _⟩ := r.ownX hp k q ep fun _ => new
 exact ⟨col', r'⟩
end
open PySem.Spec PyProof.Rows
section
variable {P : Program} {w : World} {K : PySem.W.Frag} {mg : Str → Option Value} {base : Heap}
open Classical in
end
section
variable {X : Cx} {C : DC} {st : Stmt} {e a b : Expr} {te tk : DE} {u : DA} {pos : Pos}
end
end My
namespace My
open PySem L2
mutual
def lstsD : PyData → List (List PyData)
 | .list ds => ds :: lstsL ds
 | .tuple ds => lstsL ds
 | _ => []
def lstsL : List PyData → List (List PyData)
 | [] => []
 | d :: ds => lstsD d ++ lstsL ds
end
mutual
def szD : PyData → Nat
 | .list ds => szL ds + 1
 | .tuple ds => szL ds + 1
 | _ => 1
def szL : List PyData → Nat
 | [] => 0
 | d :: ds => szD d + szL ds
end
section
variable {X : Cx} {C : DC} {st : Stmt} {u : DA}
variable {a b : Expr} {tb : DE} {pos : Pos}
def dEqV (neg : Bool) (i : Nat) (tb : DE)  (ρ : List Sl) (Q : PyData → List Sl → Prop) : Prop := bnd (slotD ρ i) fun _ => tb ρ fun b ρ1 => bnd (slotD ρ1 i) fun a => gEq neg a b fun d => Q d ρ1
variable {a b : Expr} {tb : DE} {pos : Pos}
end
end My
namespace L2
open PySem PySem.Spec PyProof.Rows
end L2
namespace My
open PySem L2
open PySem.Spec PyProof.Rows
section
variable {C : DC} {col : Addr → Nat} {ρ : List Sl} {σ : L2.St} {P : List Pe} {H H' : Hp} {p : Addr}
end
section
variable {X : Cx} {C : DC} {st : Stmt} {e : Expr} {te : DE} {u : DA} {pos : Pos}
def dDict0 (ρ : List Sl) (Q : PyData → List Sl → Prop) : Prop := Q (.dict []) ρ
def dAppB (i : Nat) (te : DE)  (D : DEnds) (ρ : List Sl) : Prop := match ρ[i]? with
 | some (.ow _) => te ρ fun d ρ' => match ρ'[i]? with
  | some (.ow ds) => ds.length ≤ 100000 ∧ D.nx (ρ'.set i (.ow (ds ++ [d])))
  | _ => False
 | _ => False
theorem ds_appB {i : Nat} {K : PySem.W.Frag} (hp : PS X st (tDrop (tBM K "list" rAppend (tVar i) (tCons (eOf C te) tNil)))) : PS X st (sOf C (dAppB i te)) := PS.wk hp fun D σ H zz36 => el3 zz36 fun ρ P Dd zz37 ht E => zz37.elim fun col r => by
 unfold dAppB at ht
 split at ht
 ·rename_i ds0 e0
  obtain ⟨a, vs, e1, c, n, e2, t⟩ := r.sl i _ e0
  refine ⟨.ref a, join_some e1, .inl ⟨rfl, vs, SqL.of e2⟩, ρ, P, _, ⟨col, r⟩, ht, fun v d ρ' H' zz38 q => zz38.elim fun col' r' => ?_⟩
  split at q
  ·rename_i ds e0'
   obtain ⟨a', vs', e1', c', n', e2', t'⟩ := r'.sl i _ e0'
   rw [e1] at e1'
   cases e1'
   exact ⟨a, vs', v, rfl, rfl, e2', by rw [t'.len, sizeLine_eq]; have := q.1; omega, E.nx _ _ _ ⟨col', ((r'.write e0' e1 (t'.snoc (r'.pd _ List.mem_cons_self)))).sub fun _ h => List.mem_cons_of_mem _ h⟩ q.2⟩
  ·exact q.elim
 ·exact ht.elim
end
end My
namespace My
open PySem L2
section
variable {X : Cx} {C : DC} {st : Stmt} {e : Expr} {ta : DE}
end
end My
namespace My
open PySem L2
section
variable {X : Cx} {C : DC} {st : Stmt} {e : Expr} {ta : DE}
end
end My
namespace My
abbrev Ct := List (List (Option Int))
abbrev Spt := Nat × Nat
abbrev Mv := Spt × Spt × Int
def ca (t : Ct) (s : Spt) : Option Int := gt (t.getD s.1 []) s.2
def leX (a b : Option Int) : Prop := b = none ∨ ∃ x y, a = some x ∧ b = some y ∧ x ≤ y
def addO (a : Option Int) (c : Int) : Option Int := a.map fun x => x + c
structure CtOk (m n : Nat) (t : Ct) : Prop where
 len : t.length = m
 row : ∀ r ∈ t, r.length = n
 low : ∀ s x, ca t s = some x → 0 ≤ x
structure Flr (n : Nat) (mv : List Mv) (g : Spt) (t : Ct) : Prop where
 at0 : ∀ l, g.2 ≤ l → l < n → ca t (g.1, l) = some 0
 mov : ∀ v ∈ mv, leX (ca t v.1) (addO (ca t v.2.1) v.2.2)
structure Best (m n : Nat) (mv : List Mv) (g : Spt) (t : Ct) : Prop where
 ok : CtOk m n t
 fl : Flr n mv g t
 top : ∀ u, CtOk m n u → Flr n mv g u → ∀ s, leX (ca u s) (ca t s)
theorem leX_refl (a : Option Int) : leX a a := by
 cases a with
 | none => exact .inl rfl
 | some x => exact .inr ⟨x, x, rfl, rfl, Int.le_refl _⟩
theorem leX_trans {a b c : Option Int} (h1 : leX a b) (h2 : leX b c) : leX a c := by
 rcases h2 with h2 | ⟨y, z, rfl, rfl, h2⟩
 ·exact .inl h2
 ·rcases h1 with h1 | ⟨x, y', rfl, e, h1⟩
  ·cases h1
  ·cases e
   exact .inr ⟨x, z, rfl, rfl, Int.le_trans h1 h2⟩
theorem leX_anti {a b : Option Int} (h1 : leX a b) (h2 : leX b a) : a = b := by
 rcases h1 with rfl | ⟨x, y, rfl, rfl, h1⟩
 ·rcases h2 with h2 | ⟨x, y, e, _, _⟩
  ·exact h2
  ·cases e
 ·rcases h2 with h2 | ⟨x', y', e1, e2, h2⟩
  ·cases h2
  ·cases e1; cases e2
   rw [Int.le_antisymm h1 h2]
theorem leX_add {a b : Option Int} {c : Int} (h : leX a b) : leX (addO a c) (addO b c) := by
 rcases h with rfl | ⟨x, y, rfl, rfl, h⟩
 ·exact .inl rfl
 ·exact .inr ⟨x + c, y + c, rfl, rfl, by lia⟩
def wiF (a b : Option Int) : Bool := match b with
 | none => true
 | some y => match a with
  | none => false
  | some x => decide (x ≤ y)
theorem wi_le {a b : Option Int} : wiF a b = true ↔ leX a b := by
 cases b with
 | none => exact ⟨fun _ => .inl rfl, fun _ => rfl⟩
 | some y =>
  cases a with
  | none =>
   constructor
   ·intro h; cases h
   ·rintro (h | ⟨x, y, e, _⟩)
    ·cases h
    ·cases e
  | some x =>
   constructor
   ·intro h
    exact .inr ⟨x, y, rfl, rfl, of_decide_eq_true h⟩
   ·rintro (h | ⟨x', y', e1, e2, h⟩)
    ·cases h
    ·cases e1; cases e2
     exact decide_eq_true h
theorem row_ext {r r' : List (Option Int)} (h : r.length = r'.length) (e : ∀ l, gt r l = gt r' l) : r = r' := tab_ext h e
theorem ct_ext {m n : Nat} {t u : Ct} (ht : CtOk m n t) (hu : CtOk m n u) (h : ∀ s, ca t s = ca u s) : t = u := by
 apply List.ext_getElem (ht.len.trans hu.len.symm)
 intro i h1 h2
 refine row_ext ((ht.row _ (List.getElem_mem h1)).trans (hu.row _ (List.getElem_mem h2)).symm) fun l => ?_
 have := h (i, l)
 unfold ca at this
 rw [show t.getD (i, l).1 [] = t[i] from by rw [List.getD_eq_getElem?_getD, List.getElem?_eq_getElem h1]; rfl, show u.getD (i, l).1 [] = u[i] from by rw [List.getD_eq_getElem?_getD, List.getElem?_eq_getElem h2]; rfl] at this
 exact this
def putC (t : Ct) (s : Spt) (o : Option Int) : Ct := t.set s.1 ((t.getD s.1 []).set s.2 o)
theorem put_ca {m n : Nat} {t : Ct} {s : Spt} {o : Option Int} (h : CtOk m n t) (h1 : s.1 < m) (h2 : s.2 < n) (q : Spt) : ca (putC t s o) q = if s = q then o else ca t q := by
 have hl : s.1 < t.length := by rw [h.len]; exact h1
 have er : t.getD s.1 [] = t[s.1] := by rw [List.getD_eq_getElem?_getD, List.getElem?_eq_getElem hl]; rfl
 have hr : (t.getD s.1 []).length = n := by rw [er]; exact h.row _ (List.getElem_mem hl)
 unfold ca putC
 by_cases c : s.1 = q.1
 ·rw [← c, show (t.set s.1 ((t.getD s.1 []).set s.2 o)).getD s.1 [] = (t.getD s.1 []).set s.2 o by rw [List.getD_eq_getElem?_getD, List.getElem?_set_self hl]; rfl, gt_set (by lia)]
  by_cases c2 : s.2 = q.2
  ·rw [if_pos c2, if_pos (Prod.ext c c2)]
  ·rw [if_neg c2, if_neg (fun e => c2 (by rw [e]))]
 ·rw [show (t.set s.1 ((t.getD s.1 []).set s.2 o)).getD q.1 [] = t.getD q.1 [] by rw [List.getD_eq_getElem?_getD, List.getElem?_set_ne c, ← List.getD_eq_getElem?_getD], if_neg (fun e => c (by rw [e]))]
theorem put_ok {m n : Nat} {t : Ct} {s : Spt} {x : Int} (h : CtOk m n t) (h1 : s.1 < m) (h2 : s.2 < n) (x0 : 0 ≤ x) : CtOk m n (putC t s (some x)) := by
 have hl : s.1 < t.length := by rw [h.len]; exact h1
 refine ⟨by unfold putC; rw [List.length_set]; exact h.len, fun r hr => ?_, fun q y e => ?_⟩
 ·unfold putC at hr
  rcases List.mem_or_eq_of_mem_set hr with z | z
  ·exact h.row r z
  ·rw [z, List.length_set, List.getD_eq_getElem?_getD, List.getElem?_eq_getElem hl]
   exact h.row _ (List.getElem_mem hl)
 ·rw [put_ca h h1 h2] at e
  split at e
  ·cases e; exact x0
  ·exact h.low q y e
theorem sum_set : ∀ {xs : List Nat} {i x y : Nat}, xs[i]? = some x → (xs.set i y).sum + x = xs.sum + y
 | [], _, _, _, h => by cases h
 | a :: xs, 0, x, y, h => by
  have : a = x := Option.some.inj h
  subst this
  show (y :: xs).sum + a = (a :: xs).sum + y
  rw [List.sum_cons, List.sum_cons]; lia
 | a :: xs, i + 1, x, y, h => by
  have := sum_set (xs := xs) (i := i) (x := x) (y := y) h
  show (a :: xs.set i y).sum + x = (a :: xs).sum + y
  rw [List.sum_cons, List.sum_cons]; lia
def wR (w : Option Int → Nat) (r : List (Option Int)) : Nat := (r.map w).sum
def wC (w : Option Int → Nat) (t : Ct) : Nat := (t.map (wR w)).sum
theorem wC_put {m n : Nat} {t : Ct} {s : Spt} {o : Option Int} (w : Option Int → Nat) (h : CtOk m n t) (h1 : s.1 < m) (h2 : s.2 < n) : wC w (putC t s o) + w (ca t s) = wC w t + w o := by
 have hl : s.1 < t.length := by rw [h.len]; exact h1
 have er : t.getD s.1 [] = t[s.1] := by rw [List.getD_eq_getElem?_getD, List.getElem?_eq_getElem hl]; rfl
 have hr : (t[s.1]).length = n := h.row _ (List.getElem_mem hl)
 have e1 : wR w ((t.getD s.1 []).set s.2 o) + w (ca t s) = wR w (t.getD s.1 []) + w o := by
  unfold wR
  rw [List.map_set]
  refine sum_set ?_
  rw [List.getElem?_map, er, gt_at (by lia)]
  unfold ca
  rw [er]; rfl
 have e2 : wC w (putC t s o) + wR w (t.getD s.1 []) = wC w t + wR w ((t.getD s.1 []).set s.2 o) := by
  unfold wC putC
  rw [List.map_set]
  refine sum_set ?_
  rw [List.getElem?_map, List.getElem?_eq_getElem hl, er]; rfl
 lia
theorem mem_sum : ∀ {xs : List Nat} {x : Nat}, x ∈ xs → x ≤ xs.sum
 | [], _, h => nomatch h
 | a :: xs, x, h => by
  rw [List.sum_cons]
  rcases List.mem_cons.mp h with rfl | h
  ·lia
  ·have := mem_sum h; lia
theorem w_le {m n : Nat} {t : Ct} {s : Spt} (w : Option Int → Nat) (h : CtOk m n t) (h1 : s.1 < m) (h2 : s.2 < n) : w (ca t s) ≤ wC w t := by
 have hl : s.1 < t.length := by rw [h.len]; exact h1
 have er : t.getD s.1 [] = t[s.1] := by rw [List.getD_eq_getElem?_getD, List.getElem?_eq_getElem hl]; rfl
 have hr : (t[s.1]).length = n := h.row _ (List.getElem_mem hl)
 have a1 : w (ca t s) ≤ wR w t[s.1] := by
  unfold wR ca
  rw [er]
  have e := gt_at (t := t[s.1]) (p := s.2) (by lia)
  exact mem_sum (List.mem_map.mpr ⟨_, List.mem_of_getElem? e, rfl⟩)
 have a2 : wR w t[s.1] ≤ wC w t := mem_sum (List.mem_map.mpr ⟨_, List.getElem_mem hl, rfl⟩)
 lia
def isNo (o : Option Int) : Nat := match o with
 | none => 1
 | some _ => 0
def numO (o : Option Int) : Nat := match o with
 | none => 0
 | some x => x.toNat
def mC (P : Nat) (t : Ct) : Nat := 2 ^ wC isNo t * (wC numO t + P) + wC isNo t
theorem mC_fall {m n P : Nat} {t : Ct} {s q : Spt} {y c : Int} (h : CtOk m n t) (h1 : s.1 < m) (h2 : s.2 < n) (q1 : q.1 < m) (q2 : q.2 < n) (hy : ca t q = some y) (c0 : 0 ≤ c) (cP : c ≤ (P : Nat)) (hn : ¬ leX (ca t s) (some (y + c))) : mC P (putC t s (some (y + c))) < mC P t := by
 have y0 := h.low q y hy
 have a := wC_put (o := some (y + c)) isNo h h1 h2
 have b := wC_put (o := some (y + c)) numO h h1 h2
 have hq := w_le numO h q1 q2
 rw [hy] at hq
 have hq' : y.toNat ≤ wC numO t := hq
 have e1 : isNo (some (y + c)) = 0 := rfl
 have e2 : numO (some (y + c)) = (y + c).toNat := rfl
 unfold mC
 cases e : ca t s with
 | none =>
  rw [e] at a b
  have e3 : isNo none = 1 := rfl
  have e4 : numO none = 0 := rfl
  rw [e1, e3] at a
  rw [e2, e4] at b
  have h3 : wC isNo t = wC isNo (putC t s (some (y + c))) + 1 := by lia
  rw [h3, Nat.pow_succ]
  generalize wC isNo (putC t s (some (y + c))) = k
  have h4 : wC numO (putC t s (some (y + c))) + P ≤ 2 * (wC numO t + P) := by lia
  have := Nat.mul_le_mul_left (2 ^ k) h4
  rw [← Nat.mul_assoc] at this
  lia
 | some x =>
  rw [e] at a b hn
  have x0 := h.low s x e
  have hx : y + c < x := by
   by_cases z : y + c < x
   ·exact z
   ·exact absurd (.inr ⟨x, y + c, rfl, rfl, by lia⟩) hn
  have e3 : isNo (some x) = 0 := rfl
  have e4 : numO (some x) = x.toNat := rfl
  rw [e1, e3] at a
  rw [e2, e4] at b
  have h3 : wC isNo (putC t s (some (y + c))) = wC isNo t := by lia
  rw [h3]
  have h4 : wC numO (putC t s (some (y + c))) + P < wC numO t + P := by lia
  have := Nat.mul_lt_mul_of_pos_left h4 (Nat.two_pow_pos (wC isNo t))
  lia
theorem below_put {m n : Nat} {mv : List Mv} {g : Spt} {t u : Ct} {v : Mv} (h : CtOk m n t) (h1 : v.1.1 < m) (h2 : v.1.2 < n) (hv : v ∈ mv) (hu : Flr n mv g u) (le : ∀ s, leX (ca u s) (ca t s)) (s : Spt) : leX (ca u s) (ca (putC t v.1 (addO (ca t v.2.1) v.2.2)) s) := by
 rw [put_ca h h1 h2]
 by_cases c : v.1 = s
 ·rw [if_pos c, ← c]
  exact leX_trans (hu.mov v hv) (leX_add (le v.2.1))
 ·rw [if_neg c]; exact le s
structure Mvs (n : Nat) (ws : List Wy) (pr : List (Option Int)) (mv : List Mv) : Prop where
 only : ∀ v ∈ mv, (∃ w ∈ ws, ∃ l : Nat, ∃ x : Int, l < n ∧ stepF ((n : Int) - 1) (l : Int) w.2.2 = some x ∧ v = ((w.1, l), (w.2.1, x.toNat), 0)) ∨ (∃ p l c, gt pr p = some c ∧ l + 1 < n ∧ v = ((p, l), (p, l + 1), c))
 way : ∀ w ∈ ws, ∀ (l : Nat) (x : Int), l < n → stepF ((n : Int) - 1) (l : Int) w.2.2 = some x → ((w.1, l), (w.2.1, x.toNat), 0) ∈ mv
 buy : ∀ p l c, gt pr p = some c → l + 1 < n → ((p, l), (p, l + 1), c) ∈ mv
def tabC (m n : Nat) (f : Spt → Option Int) : Ct := (List.range m).map fun p => (List.range n).map fun l => f (p, l)
theorem tabC_ca {m n : Nat} {f : Spt → Option Int} {s : Spt} (h1 : s.1 < m) (h2 : s.2 < n) : ca (tabC m n f) s = f s := by
 unfold ca tabC
 rw [List.getD_eq_getElem?_getD, List.getElem?_map, List.getElem?_range h1]
 show gt ((List.range n).map fun l => f (s.1, l)) s.2 = _
 unfold gt
 rw [List.getElem?_map, List.getElem?_range h2]; rfl
theorem ca_out {m n : Nat} {t : Ct} {s : Spt} (h : CtOk m n t) (o : ¬ (s.1 < m ∧ s.2 < n)) : ca t s = none := by
 unfold ca
 by_cases c : s.1 < m
 ·have hl : s.1 < t.length := by rw [h.len]; exact c
  refine gt_out ?_
  rw [List.getD_eq_getElem?_getD, List.getElem?_eq_getElem hl]
  have := h.row _ (List.getElem_mem hl)
  show (t[s.1]).length ≤ s.2
  lia
 ·rw [List.getD_eq_getElem?_getD, List.getElem?_eq_none (by rw [h.len]; lia)]
  rfl
theorem tabC_ok {m n : Nat} {f : Spt → Option Int} (h : ∀ s x, s.1 < m → s.2 < n → f s = some x → 0 ≤ x) : CtOk m n (tabC m n f) := by
 have ln : (tabC m n f).length = m := by unfold tabC; rw [List.length_map, List.length_range]
 have rw' : ∀ r ∈ tabC m n f, r.length = n := fun r hr => by
  obtain ⟨p, _, rfl⟩ := List.mem_map.mp hr
  rw [List.length_map, List.length_range]
 refine ⟨ln, rw', fun s x e => ?_⟩
 by_cases c : s.1 < m ∧ s.2 < n
 ·rw [tabC_ca c.1 c.2] at e
  exact h s x c.1 c.2 e
 ·have z : ca (tabC m n f) s = none := by
   unfold ca
   by_cases c1 : s.1 < m
   ·have hl : s.1 < (tabC m n f).length := by rw [ln]; exact c1
    refine gt_out ?_
    rw [List.getD_eq_getElem?_getD, List.getElem?_eq_getElem hl]
    have := rw' _ (List.getElem_mem hl)
    show ((tabC m n f)[s.1]).length ≤ s.2
    lia
   ·rw [List.getD_eq_getElem?_getD, List.getElem?_eq_none (by rw [ln]; lia)]
    rfl
  rw [z] at e; cases e
end My
namespace My
structure Dij (m n : Nat) (mv : List Mv) (g : Spt) (S W : Spt → Option Int) (O : Mv → Prop) : Prop where
 box : ∀ s x, S s = some x ∨ W s = some x → s.1 < m ∧ s.2 < n
 dis : ∀ s x, S s = some x → W s = none
 low : ∀ s x, S s = some x ∨ W s = some x → 0 ≤ x
 top : ∀ u, CtOk m n u → Flr n mv g u → ∀ s x, S s = some x ∨ W s = some x → leX (ca u s) (some x)
 goal : ∀ l, g.2 ≤ l → l < n → S (g.1, l) = some 0 ∨ W (g.1, l) = some 0
 mov : ∀ v ∈ mv, ¬ O v → ∀ y, S v.2.1 = some y → ∃ x, (S v.1 = some x ∨ W v.1 = some x) ∧ x ≤ y + v.2.2
 ord : ∀ a b x y, S a = some x → W b = some y → x ≤ y
def setJ (S : Spt → Option Int) (s : Spt) (o : Option Int) : Spt → Option Int := fun q => if q = s then o else S q
theorem setJ_same {S : Spt → Option Int} {s : Spt} {o : Option Int} : setJ S s o s = o := if_pos rfl
theorem setJ_ne {S : Spt → Option Int} {s q : Spt} {o : Option Int} (h : q ≠ s) : setJ S s o q = S q := if_neg h
theorem setJ_some {S : Spt → Option Int} {s q : Spt} {o : Option Int} {x : Int} (h : setJ S s o q = some x) : (q = s ∧ o = some x) ∨ (q ≠ s ∧ S q = some x) := by
 by_cases c : q = s
 ·subst c; rw [setJ_same] at h; exact .inl ⟨rfl, h⟩
 ·rw [setJ_ne c] at h; exact .inr ⟨c, h⟩
theorem dij_start {m n : Nat} {mv : List Mv} {g : Spt} (hg : g.1 < m) : Dij m n mv g (fun _ => none) (fun s => if s.1 = g.1 ∧ g.2 ≤ s.2 ∧ s.2 < n then some 0 else none) fun _ => False := by
 have at0 : ∀ (s : Spt) (x : Int), (if s.1 = g.1 ∧ g.2 ≤ s.2 ∧ s.2 < n then some (0 : Int) else none) = some x → (s.1 = g.1 ∧ g.2 ≤ s.2 ∧ s.2 < n) ∧ x = 0 := fun s x h => by
  by_cases c : s.1 = g.1 ∧ g.2 ≤ s.2 ∧ s.2 < n
  ·rw [if_pos c] at h; cases h; exact ⟨c, rfl⟩
  ·rw [if_neg c] at h; cases h
 refine ⟨fun s x h => ?_, fun s x h => (nomatch h), fun s x h => ?_, fun u _ hu s x h => ?_, fun l h1 h2 => .inr (if_pos ⟨rfl, h1, h2⟩), fun v _ _ y h => (nomatch h), fun a b x y h => (nomatch h)⟩
 ·rcases h with h | h
  ·cases h
  ·obtain ⟨⟨c1, c2, c3⟩, _⟩ := at0 s x h
   exact ⟨by rw [c1]; exact hg, c3⟩
 ·rcases h with h | h
  ·cases h
  ·rw [(at0 s x h).2]; exact Int.le_refl _
 ·rcases h with h | h
  ·cases h
  ·obtain ⟨⟨c1, c2, c3⟩, rfl⟩ := at0 s x h
   have := hu.at0 s.2 c2 c3
   rw [← c1] at this
   rw [show ca u s = some 0 from this]
   exact leX_refl _
theorem Dij.settle {m n : Nat} {mv : List Mv} {g : Spt} {S W : Spt → Option Int} {s : Spt} {c : Int} (h : Dij m n mv g S W fun _ => False) (hs : W s = some c) (hm : ∀ b y, W b = some y → c ≤ y) : Dij m n mv g (setJ S s (some c)) (setJ W s none) fun v => v.2.1 = s := by
 have hS : S s = none := by
  cases e : S s with
  | none => rfl
  | some x => have := h.dis s x e; rw [hs] at this; cases this
 have back : ∀ q x, setJ S s (some c) q = some x ∨ setJ W s none q = some x → S q = some x ∨ W q = some x := fun q x z => by
  rcases z with z | z
  ·rcases setJ_some z with ⟨rfl, e⟩ | ⟨_, e⟩
   ·cases e; exact .inr hs
   ·exact .inl e
  ·rcases setJ_some z with ⟨_, e⟩ | ⟨_, e⟩
   ·cases e
   ·exact .inr e
 have forth : ∀ q x, S q = some x ∨ W q = some x → setJ S s (some c) q = some x ∨ setJ W s none q = some x := fun q x z => by
  by_cases e : q = s
  ·subst e
   rw [hS, hs] at z
   rw [setJ_same]
   exact .inl (z.elim (fun z => (nomatch z)) id)
  ·rw [setJ_ne e, setJ_ne e]; exact z
 refine ⟨fun q x z => h.box q x (back q x z), fun q x z => ?_, fun q x z => h.low q x (back q x z), fun u hu hf q x z => h.top u hu hf q x (back q x z), fun l h1 h2 => forth _ _ (h.goal l h1 h2), fun v hv ho y e => ?_, fun a b x y e1 e2 => ?_⟩
 ·rcases setJ_some z with ⟨rfl, _⟩ | ⟨ne, e⟩
  ·exact setJ_same
  ·rw [setJ_ne ne]; exact h.dis q x e
 ·rcases setJ_some e with ⟨e1, _⟩ | ⟨_, e1⟩
  ·exact absurd e1 ho
  ·obtain ⟨x, hx, hl⟩ := h.mov v hv (fun z => z) y e1
   exact ⟨x, forth _ _ hx, hl⟩
 ·rcases setJ_some e2 with ⟨_, z⟩ | ⟨_, e2⟩
  ·cases z
  ·rcases setJ_some e1 with ⟨_, z⟩ | ⟨_, e1⟩
   ·cases z; exact hm b y e2
   ·exact h.ord a b x y e1 e2
structure Dij1 (m n : Nat) (mv : List Mv) (g : Spt) (S W : Spt → Option Int) (s : Spt) (c : Int) (O : Mv → Prop) : Prop extends Dij m n mv g S W O where
 at_ : S s = some c
 up : ∀ a x, S a = some x → x ≤ c
 dn : ∀ b y, W b = some y → c ≤ y
theorem Dij.settle1 {m n : Nat} {mv : List Mv} {g : Spt} {S W : Spt → Option Int} {s : Spt} {c : Int} (h : Dij m n mv g S W fun _ => False) (hs : W s = some c) (hm : ∀ b y, W b = some y → c ≤ y) : Dij1 m n mv g (setJ S s (some c)) (setJ W s none) s c fun v => v.2.1 = s :=
 { h.settle hs hm with
  at_ := setJ_same
  up := fun a x e => by
   rcases setJ_some e with ⟨_, z⟩ | ⟨_, e⟩
   ·cases z; exact Int.le_refl _
   ·exact h.ord a s x c e hs
  dn := fun b y e => by
   rcases setJ_some e with ⟨_, z⟩ | ⟨_, e⟩
   ·cases z
   ·exact hm b y e }
def nxtW (S W : Spt → Option Int) (a : Spt) (c : Int) : Spt → Option Int := if S a = none ∧ (∀ y, W a = some y → c < y) then setJ W a (some c) else W
theorem Dij1.look {m n : Nat} {mv : List Mv} {g : Spt} {S W : Spt → Option Int} {s : Spt} {c : Int} {O O' : Mv → Prop} (h : Dij1 m n mv g S W s c O) {v : Mv} (hv : v ∈ mv) (hs : v.2.1 = s) (hc : 0 ≤ v.2.2) (hb : v.1.1 < m ∧ v.1.2 < n) (hO : ∀ w ∈ mv, ¬ O' w → ¬ O w ∨ (w.1 = v.1 ∧ w.2.1 = s ∧ w.2.2 = v.2.2)) : Dij1 m n mv g S (nxtW S W v.1 (c + v.2.2)) s c O' := by
 have c0 : 0 ≤ c := h.low s c (.inl h.at_)
 unfold nxtW
 by_cases k : S v.1 = none ∧ ∀ y, W v.1 = some y → c + v.2.2 < y
 ·rw [if_pos k]
  obtain ⟨k1, k2⟩ := k
  have back : ∀ q x, S q = some x ∨ setJ W v.1 (some (c + v.2.2)) q = some x → (q = v.1 ∧ x = c + v.2.2) ∨ (S q = some x ∨ W q = some x) := fun q x z => by
   rcases z with z | z
   ·exact .inr (.inl z)
   ·rcases setJ_some z with ⟨e1, e2⟩ | ⟨_, e⟩
    ·cases e2; exact .inl ⟨e1, rfl⟩
    ·exact .inr (.inr e)
  have forth : ∀ q x, S q = some x ∨ W q = some x → ∃ x', (S q = some x' ∨ setJ W v.1 (some (c + v.2.2)) q = some x') ∧ x' ≤ x := fun q x z => by
   rcases z with z | z
   ·exact ⟨x, .inl z, Int.le_refl _⟩
   ·by_cases e : q = v.1
    ·subst e
     exact ⟨_, .inr setJ_same, Int.le_of_lt (k2 x z)⟩
    ·exact ⟨x, .inr (by rw [setJ_ne e]; exact z), Int.le_refl _⟩
  refine { box := fun q x z => ?_, dis := fun q x z => ?_, low := fun q x z => ?_, top := fun u hu hf q x z => ?_, goal := fun l h1 h2 => ?_, mov := fun w hw ho y e => ?_, ord := fun a b x y e1 e2 => ?_, at_ := h.at_, up := h.up, dn := fun b y e => ?_ }
  ·rcases back q x z with ⟨rfl, _⟩ | z
   ·exact hb
   ·exact h.box q x z
  ·by_cases e : q = v.1
   ·rw [e, k1] at z; cases z
   ·rw [setJ_ne e]; exact h.dis q x z
  ·rcases back q x z with ⟨_, rfl⟩ | z
   ·lia
   ·exact h.low q x z
  ·rcases back q x z with ⟨rfl, rfl⟩ | z
   ·refine leX_trans (hf.mov v hv) ?_
    have := leX_add (c := v.2.2) (h.top u hu hf s c (.inl h.at_))
    rw [hs]
    exact this
   ·exact h.top u hu hf q x z
  ·rcases h.goal l h1 h2 with z | z
   ·exact .inl z
   ·refine .inr ?_
    by_cases e : (g.1, l) = v.1
    ·have := k2 0 (by rw [← e]; exact z)
     lia
    ·rw [setJ_ne e]; exact z
  ·rcases hO w hw ho with z | ⟨z1, z2, z3⟩
   ·obtain ⟨x, hx, hl⟩ := h.mov w hw z y e
    obtain ⟨x', hx', hl'⟩ := forth _ _ hx
    exact ⟨x', hx', by lia⟩
   ·rw [z2, h.at_] at e
    cases e
    exact ⟨_, .inr (by rw [z1]; exact setJ_same), by rw [z3]; exact Int.le_refl _⟩
  ·rcases setJ_some e2 with ⟨_, z⟩ | ⟨_, e2⟩
   ·cases z
    have := h.up a x e1
    lia
   ·exact h.ord a b x y e1 e2
  ·rcases setJ_some e with ⟨_, z⟩ | ⟨_, e⟩
   ·cases z; lia
   ·exact h.dn b y e
 ·rw [if_neg k]
  refine { h with mov := fun w hw ho y e => ?_ }
  rcases hO w hw ho with z | ⟨z1, z2, z3⟩
  ·exact h.mov w hw z y e
  ·rw [z2, h.at_] at e
   cases e
   rw [z1, z3]
   cases e : S v.1 with
   | some x => exact ⟨x, .inl rfl, by have := h.up v.1 x e; lia⟩
   | none =>
    cases e2 : W v.1 with
    | none => exact absurd ⟨e, fun y z => by rw [e2] at z; cases z⟩ k
    | some x =>
     refine ⟨x, .inr rfl, ?_⟩
     by_cases c3 : c + v.2.2 < x
     ·exact absurd ⟨e, fun y z => by rw [e2] at z; cases z; exact c3⟩ k
     ·lia
def tabJ (m n : Nat) (S : Spt → Option Int) : Ct := (List.range m).map fun p => (List.range n).map fun l => S (p, l)
theorem tabJ_ca {m n : Nat} {S : Spt → Option Int} {s : Spt} (h1 : s.1 < m) (h2 : s.2 < n) : ca (tabJ m n S) s = S s := by
 unfold ca tabJ
 rw [List.getD_eq_getElem?_getD, List.getElem?_map, List.getElem?_range h1]
 show gt ((List.range n).map fun l => S (s.1, l)) s.2 = _
 unfold gt
 rw [List.getElem?_map, List.getElem?_range h2]
 rfl
theorem tabJ_out {m n : Nat} {S : Spt → Option Int} {s : Spt} (h : ¬ (s.1 < m ∧ s.2 < n)) : ca (tabJ m n S) s = none := by
 unfold ca tabJ
 rw [List.getD_eq_getElem?_getD, List.getElem?_map]
 by_cases h1 : s.1 < m
 ·rw [List.getElem?_range h1]
  show gt ((List.range n).map fun l => S (s.1, l)) s.2 = _
  unfold gt
  rw [List.getElem?_map, List.getElem?_eq_none (by rw [List.length_range]; lia)]
  rfl
 ·rw [List.getElem?_eq_none (by rw [List.length_range]; lia)]
  rfl
theorem Dij.best {m n : Nat} {mv : List Mv} {g : Spt} {S W : Spt → Option Int} (h : Dij m n mv g S W fun _ => False) (hW : ∀ s, W s = none) (hg : g.1 < m) (hm : ∀ v ∈ mv, v.1.1 < m ∧ v.1.2 < n) : Best m n mv g (tabJ m n S) := by
 have caS : ∀ s, ca (tabJ m n S) s = S s := fun s => by
  by_cases c : s.1 < m ∧ s.2 < n
  ·exact tabJ_ca c.1 c.2
  ·rw [tabJ_out c]
   cases e : S s with
   | none => rfl
   | some x => exact absurd (h.box s x (.inl e)) c
 have only : ∀ s x, S s = some x ∨ W s = some x → S s = some x := fun s x z => z.elim id fun z => by rw [hW] at z; cases z
 refine ⟨⟨?_, fun r hr => ?_, fun s x e => ?_⟩, ⟨fun l h1 h2 => ?_, fun v hv => ?_⟩, fun u hu hf s => ?_⟩
 ·unfold tabJ; rw [List.length_map, List.length_range]
 ·obtain ⟨p, _, rfl⟩ := List.mem_map.mp hr
  rw [List.length_map, List.length_range]
 ·rw [caS] at e
  exact h.low s x (.inl e)
 ·rw [caS]
  exact only _ _ (h.goal l h1 h2)
 ·rw [caS, caS]
  cases e : S v.2.1 with
  | none => exact .inl rfl
  | some y =>
   obtain ⟨x, hx, hl⟩ := h.mov v hv (fun z => z) y e
   exact .inr ⟨x, y + v.2.2, only _ _ hx, rfl, hl⟩
 ·rw [caS]
  cases e : S s with
  | none => exact .inl rfl
  | some x => exact h.top u hu hf s x (.inl e)
theorem box_spt {m n : Nat} {L : List Spt} (nd : L.Nodup) (h : ∀ s ∈ L, s.1 < m ∧ s.2 < n) : L.length ≤ m * n := by
 have nd2 : (L.map fun s : Spt => s.1 * n + s.2).Nodup := by
  refine List.pairwise_map.mpr ?_
  refine List.Pairwise.imp_of_mem (fun {p q} hp hq hne e => hne ?_) nd
  obtain ⟨p1, p2⟩ := h p hp
  obtain ⟨q1, q2⟩ := h q hq
  have e3 : p.1 = q.1 := by
   have n0 : 0 < n := by lia
   have := congrArg (· / n) e
   simp only [Nat.add_comm _ p.2, Nat.add_comm _ q.2, Nat.add_mul_div_right _ _ n0, Nat.div_eq_of_lt p2, Nat.div_eq_of_lt q2, Nat.zero_add] at this
   exact this
  have e4 : p.2 = q.2 := by rw [e3] at e; exact Nat.add_left_cancel e
  exact Prod.ext e3 e4
 have sub : (L.map fun s : Spt => s.1 * n + s.2) ⊆ List.range (m * n) := fun x hx => by
  obtain ⟨q, hq, rfl⟩ := List.mem_map.mp hx
  obtain ⟨q1, q2⟩ := h q hq
  refine List.mem_range.mpr ?_
  have : (q.1 + 1) * n ≤ m * n := Nat.mul_le_mul_right _ q1
  have e : (q.1 + 1) * n = q.1 * n + n := Nat.succ_mul _ _
  lia
 have := List.Nodup.length_le_of_subset nd2 sub
 rw [List.length_map, List.length_range] at this
 exact this
end My
namespace My
open PySem L2
end My
namespace My
open PySem L2
end My
namespace L2
open PySem PySem.Spec PyProof.Rows
section
variable {X : Cx}
theorem dict_no {pins : List (Addr × Obj)} {s : Shared} {σ : List (Option V)} {H : Hp} {a : Addr} (I : Inv X pins σ H s) (e : H a = some (.dT [])) : (a == sysModules) = false ∧ s.heap.DictOf (mixKind X.prog X.w) a [] := by
 obtain ⟨_, hd, xs, rel, o, es, ep, ho, hx, hda, hes, _⟩ := (show ObjOk X.prog X.w H s.heap a (.dT []) from I.hok a _ e)
 cases rel
 have : es = #[] := by
  apply Array.toList_inj.mp
  rw [hes]; rfl
 subst this
 exact ⟨hd, o, #[], ep, ho, hx, hda, fun e h => by simp at h, .nil, List.nodup_nil⟩
end
end L2
namespace My
open PySem L2
section
variable {C : DC}
end
end My
namespace L2
open PySem PySem.Spec PyProof.Rows
abbrev cxCompC (X : Cx) (scope : Scope) (N' : List Str) (x : Str) (a : CA) : Cx where
 prog := X.prog
 w := X.w
 K := X.K
 mg := X.mg
 base := X.base
 A := X.A
 N := N'
 s₀ := a.s
 H₀ := a.H
 env := compEnvC scope ((x, a.C + 1) :: closOf X.env.cells scope.names []) a.C X.env
 outer := X.stack
 stack := X.stack
 ex := a.fp
 fn := fun y => y == x
 calm := X.calm
 pn := []
 xe := fun _ _ => False
structure CompScC (N N' : List Str) (osc scope : Scope) (j : Nat) (x : Str) : Prop where
 nd : N'.Nodup
 at_ : N'[j]? = some x
 sub : ∀ (i : Nat) y, i ≠ j → N'[i]? = some y → N[i]? = some y
 len : N'.length ≤ N.length + 1
 kind : scope.kind = .function
 ocell : ∀ y ∈ scope.names, y.2 = .cell → y.1 = x
 cells : ∀ b cl, cellsFrom b scope.names cl = (x, b) :: cl
 names : ∀ y ∈ scope.names, y.2 = .local → scope.names.lookup y.1 = some .local
 only : ∀ y ∈ scope.names, y.2 = .local → y.1 ∉ N'
 loc : scope.names.lookup x = some .cell
 okind : osc.kind = .function
 free : ∀ y ∈ scope.names, y.2 = .free → osc.names.lookup y.1 = some .cell
theorem lookup_relabel_cell {env : Env} : ∀ {names : List (Str × NameKind)} {x : Str}, names.lookup x = some .cell →
  (names.map fun (n, k) => if (k == NameKind.free && env.scope.kind == .function && env.kindOf n == some .cell) then (n, NameKind.cell) else (n, k)).lookup x = some .cell
 | [], _, h => by simp at h
 | (n, k) :: r, x, h => by
  have ih := @lookup_relabel_cell env r x
  show List.lookup x ((if (k == NameKind.free && env.scope.kind == .function && env.kindOf n == some .cell) = true then (n, NameKind.cell) else (n, k)) :: _) = _
  cases hx : x == n with
  | true =>
   simp only [List.lookup_cons, hx] at h
   cases h
   simp [List.lookup_cons, hx]
  | false =>
   simp only [List.lookup_cons, hx] at h
   by_cases hc : (k == NameKind.free && env.scope.kind == .function && env.kindOf n == some .cell) = true
   ·rw [if_pos hc]; simp only [List.lookup_cons, hx]; exact ih h
   ·rw [if_neg hc]; simp only [List.lookup_cons, hx]; exact ih h
theorem relabel_fc {env : Env} {y : Str} : ∀ {names : List (Str × NameKind)},
  ((names.map fun (n, k) => if (k == NameKind.free && env.scope.kind == .function && env.kindOf n == some .cell) then (n, NameKind.cell) else (n, k)).lookup y = some .cell ∨ (names.map fun (n, k) => if (k == NameKind.free && env.scope.kind == .function && env.kindOf n == some .cell) then (n, NameKind.cell) else (n, k)).lookup y = some .free) → (y, NameKind.free) ∈ names ∨ (y, NameKind.cell) ∈ names
 | [], h => by simp at h
 | (n, k) :: r, h => by
  have ih := @relabel_fc env y r
  rw [List.map_cons] at h
  dsimp only at h
  by_cases q : y = n
  ·subst q
   by_cases hc : (k == NameKind.free && env.scope.kind == .function && env.kindOf y == some .cell) = true
   ·have : k = .free := by
     simp only [Bool.and_eq_true, beq_iff_eq] at hc
     exact hc.1.1
    subst this
    exact .inl List.mem_cons_self
   ·rw [if_neg hc, List.lookup_cons_self] at h
    rcases h with h | h
    ·cases h; exact .inr List.mem_cons_self
    ·cases h; exact .inl List.mem_cons_self
  ·have e : ∀ k', List.lookup y ((n, k') :: r.map fun (n, k) => if (k == NameKind.free && env.scope.kind == .function && env.kindOf n == some .cell) then (n, NameKind.cell) else (n, k)) = List.lookup y (r.map fun (n, k) => if (k == NameKind.free && env.scope.kind == .function && env.kindOf n == some .cell) then (n, NameKind.cell) else (n, k)) := fun k' => by
    rw [List.lookup_cons, beq_eq_false_iff_ne.mpr q]
   have h2 : (r.map fun (n, k) => if (k == NameKind.free && env.scope.kind == .function && env.kindOf n == some .cell) then (n, NameKind.cell) else (n, k)).lookup y = some .cell ∨ (r.map fun (n, k) => if (k == NameKind.free && env.scope.kind == .function && env.kindOf n == some .cell) then (n, NameKind.cell) else (n, k)).lookup y = some .free := by
    split at h
    ·rw [e] at h; exact h
    ·rw [e] at h; exact h
   exact (ih h2).imp (List.mem_cons_of_mem _) (List.mem_cons_of_mem _)
theorem CompScC.fre {N N' : List Str} {osc scope : Scope} {j : Nat} {x y : Str} {env : Env} (S : CompScC N N' osc scope j x) (h : (relabel scope env).names.lookup y = some .cell ∨ (relabel scope env).names.lookup y = some .free) (ne : y ≠ x) : (y, NameKind.free) ∈ scope.names := by
 rcases relabel_fc h with z | z
 ·exact z
 ·exact absurd (S.ocell _ z rfl) ne
theorem newEnv_own {M : Model} {A : Around} {E : Value → Shared → Prop} {s : Shared} {scope : Scope} {globals : Addr} {closure : List (Str × Addr)} {qual : Str} {outer : Env} {x : Str} {Q : Env → Shared → Prop}
  (hc : ∀ b cl, cellsFrom b scope.names cl = (x, b) :: cl)
  (hQ : ∀ h', h'.Ns s.heap.objs.size (fun _ => none) → (∀ b o, s.heap.get? b = some o → h'.get? b = some o) → h'.IsCell (s.heap.objs.size + 1) none →
   Q { scope, locals := s.heap.objs.size, globals, cells := (x, s.heap.objs.size + 1) :: closure, qual, func := none, code := outer.code, frame := outer.frame, builtins := outer.builtins } { s with heap := h', toks := s.toks }) :
  wpAny M A (newFunctionEnv scope globals closure [] qual none .none (some outer)) Q E s := by
 simp only [newFunctionEnv, Option.isSome_some, if_true]
 refine wpAny_bind (wpAny_alloc ?_)
 refine wpAny_bind (wpAny_layCells _ (fun name kind cells => by cases hkc : kind == NameKind.cell <;> simp [hkc]) _ _ _ _ ?_)
 have ok := cellsFrom_ok scope.names (s.heap.push { cls := .type "dict", data := .dict #[] }) (s.heap.objs.size + 1) [] ⟨fun _ _ hm => (nomatch hm), List.Pairwise.nil⟩ (by rw [Heap.size_push]; exact Nat.le_refl _)
 rw [Heap.size_push, hc] at ok
 rw [show ({ s with heap := s.heap.push { cls := .type "dict", data := .dict #[] } } : Shared).heap.objs.size = s.heap.objs.size + 1 from Heap.size_push .., hc]
 rw [List.forIn_nil]
 refine wpAny_bind (wpAny_pure (wpAny_pure ?_))
 exact hQ _ ((Heap.Ns.new s.heap (.type "dict")).keeps (pushCells_keeps _ _)) (fun b o e => pushCells_keeps _ _ b o (Heap.get?_push_of_some _ e)) (ok.empty x _ List.mem_cons_self).1
section
variable {X : Cx} {pins : List (Addr × Obj)} {σ : St} {H : Hp} {s : Shared}
theorem comp_coreC {elt iter : Expr} {x : Str} {px pos : Pos} {ifs : List Expr} {scope : Scope} {N' : List Str} {j : Nat} {tt : CA → TT} {te : CA → TE} {it : Addr} {fp : List Addr} {tn : Nat → Heap → Prop} {J : It} {Q : List V → Hp → Prop}
  {RR : Value → Addr → Result → Shared → Prop} {E : Value → Shared → Prop}
  (S : CompScC X.N N' X.env.scope scope j x) (hc : X.calm = true)
  (ht : ∀ a : CA, PTs (cxCompC X scope N' x a) ifs (tt a)) (he : ∀ a : CA, PE (cxCompC X scope N' x a) elt (te a))
  (I : Inv X pins σ H s) (T : Turn X.prog X.w X.K (.Name x px) J fp it tn) (st : tn 0 s.heap) (f2 : ∀ b ∈ fp, FpOk X pins H b) (h : RComp σ N'.length j tt te J H Q)
  (hRR : ∀ (D C : Addr) (ys : List V) (H' : Hp) (s' : Shared) (m : Str → Option Value), s'.heap.Ns C m → Own X pins (upd H' D (.lst ys)) C → Inv X pins σ (upd H' D (.lst ys)) s' → H' D = none → Q ys H' → RR (.ref D) C (.ok .next) s') :
  wpAny (model X.prog X.w) X.A (newList []) (fun acc s₃ => wpAny (model X.prog X.w) X.A (newFunctionEnv scope X.env.globals (closOf X.env.cells scope.names []) [] X.env.qual none .none (some X.env)) (fun cenv s₄ =>
   codeAny (model X.prog X.w) X.A (.compStart (.ListComp elt [⟨.Name x px, iter, ifs, 0⟩] scope pos) 0 (.ref it) acc { cenv with scope := relabel scope X.env }) (RR acc cenv.locals) s₄) E s₃) E s := by
 refine wpAny_newObj_type (newEnv_own S.cells (fun h₁ hns₁ hkp₁ hcl₁ => ?_))
 dsimp only at hns₁ hkp₁ hcl₁ ⊢
 generalize hH2 : s.heap.push { cls := .type "list", dict := none, data := .seq ([] : List Value).toArray } = H2 at hns₁ hkp₁ hcl₁ ⊢
 have hC : H2.objs.size = s.heap.objs.size + 1 := by rw [← hH2, Heap.size_push]
 have hDC : s.heap.objs.size ≠ H2.objs.size := by rw [hC]; exact Nat.ne_of_lt (Nat.lt_succ_self _)
 have hCle : s.heap.objs.size ≤ H2.objs.size := by rw [hC]; exact Nat.le_succ _
 have below : ∀ b, b < s.heap.objs.size → b ≠ H2.objs.size ∧ b ≠ s.heap.objs.size := fun b hb => ⟨by rw [hC]; exact Nat.ne_of_lt (Nat.lt_succ_of_lt hb), Nat.ne_of_lt hb⟩
 have old : ∀ b o, s.heap.get? b = some o → h₁.get? b = some o := fun b o e => hkp₁ b o (hH2 ▸ Heap.get?_push_of_some _ e)
 have hacc : h₁.get? s.heap.objs.size = some { cls := .type "list", data := .seq ([] : List Value).toArray } := hkp₁ _ _ (hH2 ▸ Heap.get?_push_size _ rfl)
 have fplt : ∀ b ∈ fp, b < s.heap.objs.size := fun b hb => let ⟨_, e, _⟩ := T.obj 0 _ st b hb; Heap.lt_size e
 have hcells : ∀ y ∈ scope.names, y.2 = .free → ∃ c, X.env.cells.lookup y.1 = some c := fun y hy e => I.ok.has y.1 (.inl (S.free y hy e))
 have sub0 : ∀ y c, (closOf X.env.cells scope.names []).lookup y = some c → X.env.cells.lookup y = some c := closOf_sub hcells (fun y c e => by cases e)
 have sub : ∀ y c, ((x, H2.objs.size + 1) :: closOf X.env.cells scope.names []).lookup y = some c → (y = x ∧ c = H2.objs.size + 1) ∨ (y ≠ x ∧ X.env.cells.lookup y = some c) := fun y c e => by
  by_cases q : y = x
  ·subst q
   rw [List.lookup_cons_self] at e
   exact .inl ⟨rfl, (Option.some.inj e).symm⟩
  ·rw [List.lookup_cons, beq_eq_false_iff_ne.mpr q] at e
   exact .inr ⟨q, sub0 y c e⟩
 have cne0 : ∀ b ∈ fp, ∀ y c, ((x, H2.objs.size + 1) :: closOf X.env.cells scope.names []).lookup y = some c → c ≠ b := fun b hb y c e => by
  rcases sub y c e with ⟨_, q⟩ | ⟨_, q⟩
  ·have := fplt b hb
   lia
  ·exact (f2 b hb).2.2.2.2.1 y c q
 have cellLt : ∀ y c, X.env.cells.lookup y = some c → c < s.heap.objs.size := fun y c e => by
  obtain ⟨v, z⟩ := I.cell y c e
  exact z.lt
 let a : CA := ⟨s, H, H2.objs.size, fp⟩
 have ok : (cxCompC X scope N' x a).Ok := by
  refine ⟨I.ok.mod, S.kind, I.ok.glob, I.ok.blt, hCle, fun y z c e1 e2 => ?_, fun y hy => ?_, fun y c z e => ?_, I.ok.hd, I.ok.frames, .inl rfl, fun b hb => ⟨(below b (fplt b hb)).1, cne0 b hb⟩, I.bs,
   Nat.le_trans I.ok.bsz I.sz, fun b o e hb => ?_, fun b hb z => ?_, I.stack, I.stkFree⟩
  ·rcases sub y c e1 with ⟨q1, q2⟩ | ⟨_, q1⟩
   ·rcases sub z c e2 with ⟨q3, _⟩ | ⟨_, q3⟩
    ·rw [q1, q3]
    ·have := cellLt z c q3
     lia
   ·rcases sub z c e2 with ⟨_, q4⟩ | ⟨_, q3⟩
    ·have := cellLt y c q1
     lia
    ·exact I.ok.inj y z c q1 q3
  ·by_cases q : y = x
   ·subst q; exact ⟨_, List.lookup_cons_self⟩
   ·obtain ⟨c, e⟩ := closOf_has (cells := X.env.cells) (cs := []) (S.fre hy q)
    exact ⟨c, by show ((x, H2.objs.size + 1) :: closOf X.env.cells scope.names []).lookup y = some c; rw [List.lookup_cons, beq_eq_false_iff_ne.mpr q]; exact e⟩
  ·have z : y = x := beq_iff_eq.mp z
   rcases sub y c e with ⟨_, q⟩ | ⟨q, _⟩
   ·rw [q]; show s.heap.objs.size ≤ H2.objs.size + 1; lia
   ·exact absurd z q
  ·rcases (f2 b hb).2.2.2.1 with z | z
   ·exact I.ok.noex b o e z
   ·exact absurd (Nat.lt_of_lt_of_le (Heap.lt_size (I.ok.bs b o e).1) z) (Nat.lt_irrefl _)
  ·rcases List.mem_cons.mp (I.stkSub b z) with e | e
   ·exact (f2 b hb).2.1 e
   ·exact (f2 b hb).2.2.1 e
 have look : ∀ (h' : Heap) (m' : Str → Option Value), (∀ y c, X.env.cells.lookup y = some c → ∀ v, s.heap.IsCell c v → h'.IsCell c v) → ∀ (i : Nat) (y : Str) (v : V), N'[i]? = some y → (padS N'.length j σ)[i]? = some (some v) →
   Vis (relabel scope X.env) y → ∃ u, RelV v u ∧ Look (compEnvC scope ((x, H2.objs.size + 1) :: closOf X.env.cells scope.names []) H2.objs.size X.env) h' m' y u := by
  intro h' m' kc i y v e1 e2 e3
  obtain ⟨ne, e4⟩ := padS_get e2
  have e5 := S.sub i y ne e1
  have nx : y ≠ x := fun z => ne (nodup_ix S.nd e1 (by rw [S.at_, z]))
  have hy : (y, NameKind.free) ∈ scope.names := by
   rcases e3 with e3 | e3 | e3
   ·exact absurd (List.mem_of_getElem? e1) (S.only _ (lookup_relabel_loc e3) rfl)
   ·exact S.fre (.inl e3) nx
   ·exact S.fre (.inr e3) nx
  have kcell : X.env.scope.names.lookup y = some .cell := S.free _ hy rfl
  obtain ⟨m0, hn0, hl0⟩ := I.loc
  obtain ⟨u, r, l⟩ := hl0 i y v e5 e4 (.inr (.inl kcell))
  refine ⟨u, r, .inr ⟨?_, ?_⟩⟩
  ·rcases e3 with e3 | e3 | e3
   ·exact absurd (List.mem_of_getElem? e1) (S.only _ (lookup_relabel_loc e3) rfl)
   ·exact .inl e3
   ·exact .inr e3
  ·rcases l with ⟨k, _⟩ | ⟨k, c, e, z⟩
   ·have k' : X.env.scope.names.lookup y = some .local := k
    rw [kcell] at k'; cases k'
   ·obtain ⟨c', e'⟩ := closOf_has (cells := X.env.cells) (cs := []) hy
    have e'' := sub0 y c' e'
    rw [e] at e''
    cases e''
    exact ⟨c, by show ((x, H2.objs.size + 1) :: closOf X.env.cells scope.names []).lookup y = some c; rw [List.lookup_cons, beq_eq_false_iff_ne.mpr nx]; exact e', kc y c e _ z⟩
 have cellOld : ∀ y c, X.env.cells.lookup y = some c → ∀ v, s.heap.IsCell c v → h₁.IsCell c v := fun y c _ v zz232 => el2 zz232 fun o ho hd => ⟨o, old c o ho, hd⟩
 have fr0 : ∀ b, s.heap.objs.size ≤ b → H b = none := fun b hb => I.hok.fresh hb
 have noPn : ∀ p, p ∉ (cxCompC X scope N' x a).pn ++ ([] : List (Addr × Obj)) := fun p hp => by simp at hp
 have I0 : Inv (cxCompC X scope N' x a) [] (padS N'.length j σ) H { s with heap := h₁, toks := s.toks + ([] : List (Str × Value)).length } := by
  refine ⟨ok, rfl, I.bare, Un.kept old, ⟨_, hns₁, look h₁ _ cellOld⟩, fun y c e => ?_, fr0 _ hCle, fun y c e => (sub y c e).elim (fun q => fr0 _ (by have := q.2; lia)) (fun q => I.freeC y c q.2), fun p hp => absurd hp (noPn p), I.hok.kept old, padS_len (by rw [I.len]; exact S.len)⟩
  rcases sub y c e with ⟨_, q⟩ | ⟨_, q⟩
  ·exact ⟨none, by rw [q]; exact hcl₁⟩
  ·obtain ⟨v, z⟩ := I.cell y c q
   exact ⟨v, cellOld y c q v z⟩
 obtain ⟨W, ⟨m0, w0⟩, turn⟩ := h
 have loop : ∀ s₃ : Shared, s₃ = { s with heap := h₁, toks := s.toks + ([] : List (Str × Value)).length } →
   codeAny (model X.prog X.w) X.A (.compLoop (.ListComp elt [⟨.Name x px, iter, ifs, 0⟩] scope pos) 0 (.ref it) (.ref s.heap.objs.size) (compEnvC scope ((x, H2.objs.size + 1) :: closOf X.env.cells scope.names []) H2.objs.size X.env)) (RR (.ref s.heap.objs.size) H2.objs.size) s₃ := by
  rintro s₃ rfl
  refine compLoop_go (fun k s' => ∃ (i : Nat) (ys : List V) (its : List Value) (n : Nat) (H' : Hp), Inv (cxCompC X scope N' x a) [] (padS N'.length j σ) H' s' ∧ s'.heap.get? s.heap.objs.size = some { cls := .type "list", data := .seq its.toArray n } ∧ Vals ys its ∧
   H' s.heap.objs.size = none ∧ tn i s'.heap ∧ (∀ b ∈ fp, H' b = none) ∧ W i k ys H') ?_ m0
   ⟨0, [], [], 0, H, I0, hacc, .nil, fr0 _ (Nat.le_refl _), T.keep _ _ _ st fun b hb o e => old b o e, fun b hb => (f2 b hb).1, w0⟩
  rintro k s' ⟨i, ys, its, n, H', I', hD, rv, nD', st', fr', w'⟩ E'
  obtain ⟨hz, hw⟩ := turn i k ys H' w'
  have ownD : Own (cxCompC X scope N' x a) [] H' s.heap.objs.size := ⟨nD', hDC, Nat.le_refl _, fun y c e z => by
   rcases sub y c e with ⟨_, q⟩ | ⟨_, q⟩
   ·lia
   ·have := cellLt y c q
    lia, fun p hp => absurd hp (noPn p)⟩
  have fpok : ∀ (pl : List (Addr × Obj)) (H'' : Hp), (∀ b ∈ fp, H'' b = none) → (∀ p ∈ pl, p.1 ∉ fp) → ∀ b ∈ fp, FpOk (cxCompC X scope N' x a) pl H'' b := fun pl H'' hn hpl b hb =>
   ⟨hn b hb, (below b (fplt b hb)).1, fun z => by
    rcases List.mem_cons.mp (I.stkSub b z) with e | e
    ·exact (f2 b hb).2.1 e
    ·exact (f2 b hb).2.2.1 e, .inl hb, cne0 b hb, fun p hp z => by
    have hp' : p ∈ pl := by simpa using hp
    exact hpl p hp' (z ▸ hb)⟩
  have nDfp : s.heap.objs.size ∉ fp := fun z => absurd (fplt _ z) (Nat.lt_irrefl _)
  have pinD : ∀ p ∈ ([(s.heap.objs.size, { cls := .type "list", data := .seq its.toArray n })] : List (Addr × Obj)), s'.heap.get? p.1 = some p.2 ∧ H' p.1 = none ∧ p.1 ≠ (cxCompC X scope N' x a).env.locals ∧ p.1 ∉ (cxCompC X scope N' x a).fs ∧ ∀ v, p.2.data ≠ .cell v := fun p hp => by
   have e : p = (s.heap.objs.size, { cls := .type "list", data := .seq its.toArray n }) := by simpa using hp
   subst e
   refine ⟨hD, nD', hDC, fun z => ?_, fun v z => by cases z⟩
   rcases List.mem_cons.mp (I.stkSub _ z) with e | e
   ·exact absurd I.lt (by rw [← e]; exact Nat.lt_irrefl _)
   ·exact I.nofs (Nat.le_refl _) e
  have Ip := I'.pins_of pinD
  have hpl : ∀ p ∈ ([(s.heap.objs.size, { cls := .type "list", data := .seq its.toArray n })] : List (Addr × Obj)), p.1 ∉ fp := fun p hp => by
   have e : p = (s.heap.objs.size, { cls := .type "list", data := .seq its.toArray n }) := by simpa using hp
   subst e
   exact nDfp
  rcases hw with ⟨stop, q⟩ | ⟨go, N, hN, step⟩
  ·refine thn (T.done (cxCompC X scope N' x a) rfl rfl rfl hc i _ s' _ H' E' Ip (fpok _ H' fr' hpl) st' stop) fun r s4 zz233 => zz233.elim fun hr I4 => ?_
   subst hr
   have hD4 := (I4.pin (s.heap.objs.size, { cls := .type "list", data := .seq its.toArray n }) (by simp)).1
   have J4 : Inv X pins σ H' s4 := I.call' (ch := fp) I4.os I4.base I4.hok I4.bare fun b hb => ⟨(f2 b hb).2.2.2.1, (f2 b hb).2.1, (f2 b hb).2.2.2.2.1, (f2 b hb).2.2.2.2.2⟩
   obtain ⟨m4, hn4, _⟩ := I4.loc
   have hC4 : H' H2.objs.size = none := I4.free
   exact hRR _ _ ys H' s4 m4 hn4 (I.own hCle (by rw [upd_ne (Ne.symm hDC)]; exact hC4)) (J4.track (I.own (Nat.le_refl _) nD') hD4 rv hz) nD' q
  ·refine thn (T.item (cxCompC X scope N' x a) rfl rfl rfl hc i _ s' _ H' E' Ip (fpok _ H' fr' hpl) st' go) fun r s5 zz234 => el2 zz234 fun u hr h5 => ?_
   subst hr
   refine thn h5 fun _ s6 zz235 => zz235.elim fun xv zz236 => zz236.elim fun H6 zz237 => zz237.elim fun I6 zz238 => zz238.elim fun r6 zz239 => zz239.elim fun y6 zz240 => zz240.elim fun st6 fr6 => ?_
   have I6' := I6.pinned (fpok _ H6 fr6 hpl) (T.obj _ _ st6)
   refine wpAny_assign_Name (store_ok I6' S.nd S.at_ (.inr (lookup_relabel_cell S.loc)) r6 (fun s7 I7 => ?_) (.inl (beq_self_eq_true x)))
   have wk : ∀ (i : Nat) v, (padS N'.length j σ)[i]? = some (some v) → ((padS N'.length j σ).set j (some xv))[i]? = some (some v) := fun i v e => by
    rw [List.getElem?_set_ne (Ne.symm (padS_get e).1)]; exact e
   refine wpAny_mono (ht a _ s7 _ H6 _ I7 (step xv H6 y6 a)) (fun ok s8 zz241 => el2 zz241 fun H8 I8 q8 => ?_) fun _ _ z => z.elim
   have tnk : ∀ {H9 : Hp} {s9 : Shared} {σ9 : St}, Inv (cxCompC X scope N' x a) ([(s.heap.objs.size, { cls := .type "list", data := .seq its.toArray n })] ++ pinsAt fp s6.heap) σ9 H9 s9 → tn (i + 1) s9.heap ∧ (∀ b ∈ fp, H9 b = none) ∧ s9.heap.get? s.heap.objs.size = some { cls := .type "list", data := .seq its.toArray n } ∧ H9 s.heap.objs.size = none := fun {H9 s9 σ9} I9 => by
    refine ⟨T.keep _ _ _ st6 fun b hb o e => (I9.pin (b, o) (List.mem_append_right _ (List.mem_append_right _ (mem_pinsAt hb e)))).1, fun b hb => ?_, ?_⟩
    ·obtain ⟨o, e, d⟩ := T.obj _ _ st6 b hb
     exact (I9.pin (b, o) (List.mem_append_right _ (List.mem_append_right _ (mem_pinsAt hb e)))).2.1
    ·have z := I9.pin (s.heap.objs.size, { cls := .type "list", data := .seq its.toArray n }) (List.mem_append_right _ (List.mem_append_left _ (by simp)))
     exact ⟨z.1, z.2.1⟩
   cases ok with
   | false =>
    obtain ⟨m', hm, w8⟩ : ∃ m', m' < k ∧ W (i + 1) m' ys H8 := hN _ _ (by simpa using q8)
    obtain ⟨t1, t2, t3, t4⟩ := tnk I8
    exact ⟨m', hm, i + 1, ys, its, n, H8, (I8.pins_of (pins' := []) fun p hp => nomatch hp).weak (by rw [List.length_set]) wk, t3, rv, t4, t1, t2, w8⟩
   | true =>
    have q8' := q8
    simp only [if_true] at q8'
    refine wpAny_mono (he a _ s8 _ H8 _ I8 q8') (fun u9 s9 zz242 => el5 zz242 fun v9 H9 I9 r9 q9 => ?_) fun _ _ z => z.elim
    obtain ⟨m', hm, w9⟩ := hN _ _ q9
    obtain ⟨t1, t2, t3, t4⟩ := tnk I9
    have hl := rv.length
    refine append_at (hsz := by show its.toArray.size ≤ sizeLine; rw [List.size_toArray, ← hl]; exact hz) t3 fun h' hs' hD' => ?_
    have J9 := ((I9.pins_of (pins' := []) fun p hp => nomatch hp).weak (σ' := padS N'.length j σ) (by rw [List.length_set]) wk).own_turn (C := s.heap.objs.size) ⟨t4, ownD.ne, ownD.ab, ownD.ce, ownD.pi⟩ hs'
    refine ⟨m', hm, i + 1, ys ++ [v9], its ++ [u9], n + 1, H9, J9, ?_, Vals.append rv (.cons r9 .nil), t4, T.keep _ _ _ t1 fun b hb o e => (hs'.2 b fun z => nDfp (z ▸ hb)).trans e, t2, w9⟩
    rw [List.push_toArray] at hD'
    exact hD'
 exact codeAny_compStart_list (loop _ rfl) (T.self _ 0 _ _ _ (T.keep _ _ _ st fun b hb o e => old b o e) (loop _ rfl))
end
section
variable {X : Cx}
theorem pe_compC {elt iter : Expr} {x : Str} {px pos : Pos} {ifs : List Expr} {scope : Scope} {N' : List Str} {j : Nat} {wi : TI} {tt : CA → TT} {te : CA → TE} {osc : Scope} {N : List Str}
  (S : CompScC N N' osc scope j x) (hc : X.calm = true) (hi : PI X (.Name x px) iter wi) (ht : ∀ a : CA, PTs (cxCompC X scope N' x a) ifs (tt a)) (he : ∀ a : CA, PE (cxCompC X scope N' x a) elt (te a))
  (ho : X.env.scope = osc := by rfl) (hN : X.N = N := by rfl) (hs : ∀ x, foldedSetIterable iter X.env x = pure x := by intro _; rfl) : PE X (.ListComp elt [⟨.Name x px, iter, ifs, 0⟩] scope pos) (tComp wi N'.length j tt te) := by
 subst ho hN
 intro pins s σ H Q I h
 rw [eval_ListComp]
 have hcells : ∀ y ∈ scope.names, y.2 = .free → ∃ c, X.env.cells.lookup y.1 = some c := fun y hy e => I.ok.has y.1 (.inl (S.free y hy e))
 refine wpAny_comprehension_free (use := none) rfl hs (closureFor_eq hcells) S.kind S.names (wpAny_mono (hi pins s σ H _ I h) (fun xv s₁ h₁ => wpAny_mono h₁ (fun itv s₂ h₂ => ?_) fun _ _ e => e) fun _ _ e => e)
 obtain ⟨it, fp, tn, J, H2, rfl, I2, T, st2, f2, q2⟩ := h₂
 refine comp_coreC (RR := fun acc C => compPost (model X.prog X.w) X.A X.xe none (EP X pins σ Q) acc C) S hc ht he I2 T st2 f2 q2 ?_
 intro D C ys H' s' m hn own I' hD q
 refine ⟨m, hn, fun h' hs' => ⟨.ref D, _, I'.own_turn own hs', rfl, q D hD⟩⟩
end
def compOkC (N : List Str) (osc scope : Scope) (x : Str) (j : Nat) : Bool :=
 decide N.Nodup && decide (N[j]? = some x) && decide (scope.kind = .function) && decide (osc.kind = .function) && (scope.names.lookup x == some .cell) &&
  scope.names.all fun y => match y.2 with
   | .cell => y.1 == x
   | .local => scope.names.lookup y.1 == some .local && !(N.contains y.1)
   | .free => osc.names.lookup y.1 == some .cell
   | _ => true
theorem CompScC.old {N : List Str} {osc scope : Scope} {x : Str} {j : Nat} (h : compOkC N osc scope x j = true) (hc : ∀ b cl, cellsFrom b scope.names cl = (x, b) :: cl) : CompScC N N osc scope j x := by
 unfold compOkC at h
 simp only [Bool.and_eq_true, decide_eq_true_eq, List.all_eq_true, beq_iff_eq] at h
 obtain ⟨⟨⟨⟨⟨h1, h0⟩, h2⟩, h3⟩, h4⟩, h5⟩ := h
 refine ⟨h1, h0, fun i y _ e => e, Nat.le_succ _, h2, fun y hy e => ?_, hc, fun y hy e => ?_, fun y hy e => ?_, h4, h3, fun y hy e => ?_⟩
 ·have := h5 y hy; rw [e] at this; exact beq_iff_eq.mp this
 ·have := h5 y hy
  rw [e] at this
  simp only [Bool.and_eq_true, beq_iff_eq] at this
  exact this.1
 ·have := h5 y hy
  rw [e] at this
  simp only [Bool.and_eq_true, Bool.not_eq_true', List.contains_eq_mem, decide_eq_false_iff_not] at this
  exact this.2
 ·have := h5 y hy
  rw [e] at this
  simp only [beq_iff_eq] at this
  exact this
end L2
namespace L2
open PySem PySem.Spec PyProof.Rows
theorem filt_erase {α κ : Type} [DecidableEq κ] (f : α → κ) : ∀ {xs : List α} {j : Nat} {x : α}, (xs.map f).Nodup → xs[j]? = some x → xs.filter (fun y => decide (f y ≠ f x)) = xs.eraseIdx j
 | [], _, _, _, h => by cases h
 | a :: xs, 0, x, nd, h => by
  have e : a = x := Option.some.inj h
  subst e
  rw [List.map_cons, List.nodup_cons] at nd
  rw [List.filter_cons_of_neg (by simp)]
  show _ = xs
  rw [List.filter_eq_self]
  intro y hy
  exact decide_eq_true (p := f y ≠ f a) fun e => nd.1 (by rw [← e]; exact List.mem_map_of_mem hy)
 | a :: xs, j + 1, x, nd, h => by
  rw [List.map_cons, List.nodup_cons] at nd
  have hx : x ∈ xs := List.mem_of_getElem? (show xs[j]? = some x from h)
  rw [List.filter_cons_of_pos (p := fun y => decide (f y ≠ f x)) (decide_eq_true (p := f a ≠ f x) fun e => nd.1 (by rw [e]; exact List.mem_map_of_mem hx)), filt_erase f nd.2 (show xs[j]? = some x from h)]
  rfl
theorem map_era {α β : Type} (f : α → β) : ∀ (xs : List α) (j : Nat), (xs.eraseIdx j).map f = (xs.map f).eraseIdx j
 | [], _ => rfl
 | _ :: _, 0 => rfl
 | a :: xs, j + 1 => by
  show f a :: (xs.eraseIdx j).map f = f a :: (xs.map f).eraseIdx j
  rw [map_era f xs j]
section
variable {prog : Program} {w : World} {K : Type} [DecidableEq K] {knd : HeapKind prog w K} {A : Around} {E : Value → Shared → Prop} {s : Shared}
theorem takeOut_heap {d a : Addr} {xs : List (K × Addr × Value)} {k : K} {p : Addr × Value} {Q : Option DictEntry → Shared → Prop} (hu : knd.room A) (hkey : knd.is s.heap k a) (hm : s.heap.DictOfH knd d xs) (hp : atKey xs k = some p) (hsz : xs.length ≤ sizeLine)
  (h : ∀ e h', e.val = p.2 → h'.DictOfH knd d (xs.filter fun x => decide (x.1 ≠ k)) → Heap.SameBut d s.heap h' → Q (some e) { s with heap := h', toks := s.toks + knd.draws k }) :
  wpAny (model prog w) A (Builtin.Dict.takeOut d (.ref a)) Q E s := by
 obtain ⟨o, es, ep, ho, hc, hd, he, his, hn⟩ := hm
 unfold Builtin.Dict.takeOut
 try with_reducible refine wpAny_holding ?_
 refine wpAny_bind (knd.pyHash hu hkey ?_)
 refine wpAny_bind (wpAny_dictFind_heap (s := { s with toks := s.toks + knd.draws k }) hu hkey ho hd he his hn ?_ ?_)
 ·intro hno
  rw [atKey_none_of_get hno] at hp
  cases hp
 ·intro j q hj
  rw [atKey_of_get hn hj] at hp
  have hq : q = p := Option.some.inj hp
  subst hq
  refine wpAny_bind (wpAny_dictEntries (s := { s with toks := s.toks + knd.draws k }) ho hd ?_)
  have he' : es[j]? = some (entryOfKey knd (k, q)) := by rw [entry_at he j, hj]; rfl
  rw [he']
  have fe := filt_erase (fun x : K × Addr × Value => x.1) hn hj
  refine wpAny_bind (wpAny_updateDictKeys (hz := by have e := size_of_entries he; lia) (s := { s with toks := s.toks + knd.draws k }) ho hd (wpAny_pure (h _ _ rfl ⟨_, _, ep + 1, Heap.get?_update_self _ ho (Obj.isFreed_of_dict (Obj.data_mapDictKeys hd _)),
   hc.mapDictKeys _, Obj.data_mapDictKeys hd _, ?_, fun x hx => knd.keeps (his x (List.mem_filter.mp hx).1) ho hd (Heap.SameBut.update ..), ?_⟩ (Heap.SameBut.update ..))))
  ·rw [fe, map_era, ← he]
   obtain ⟨l⟩ := es
   simp [Array.eraseIdxIfInBounds]
   have hl : j < l.length := by
    have := (List.getElem?_eq_some_iff.mp hj).1
    have e2 : l.length = xs.length := by rw [show l = List.map (entryOfKey knd) xs from he, List.length_map]
    lia
   rw [if_pos hl]
  ·rw [fe, map_era]
   exact hn.sublist (List.eraseIdx_sublist _ _)
theorem meetsH_dict_pop (knd : HeapKind prog w K) (d a : Addr) :
  MeetsIn prog w (Builtin.«dict.pop» ⟨[.ref d, .ref a], []⟩) (fun A R s => knd.room A.in1 ∧ ∃ k xs p, knd.is s.heap k a ∧ s.heap.DictOfH knd d xs ∧ xs.length ≤ sizeLine ∧ atKey xs k = some p ∧
   ∀ h', h'.DictOfH knd d (xs.filter fun x => decide (x.1 ≠ k)) → Heap.SameBut d s.heap h' → R (.ok (.ret p.2)) { s with heap := h', toks := s.toks + knd.draws k }) :=
 .of_wp fun A R s ⟨hu, k, xs, p, hkey, hm, hsz, hp, h⟩ => by
  unfold Builtin.«dict.pop»
  refine wpAny_bind ?_
  unfold Builtin.Dict.keyAndDefault
  refine wpAny_bind (wpAny_notOrdered_dict hm.typeIs ?_)
  show wpAny _ _ (pure (d, Value.ref a, none)) _ _ s
  refine wpAny_pure ?_
  have kp : (keyPart (Value.ref a)).isSome = false := rfl
  simp only [kp, Bool.false_eq_true, if_false]
  have hm' := hm
  obtain ⟨o, es, ep, ho, hc, hd, he, his, hn⟩ := hm'
  refine wpAny_bind (wpAny_dictEntries ho hd ?_)
  refine wpAny_bind (wpAny_pure ?_)
  have ne : es.isEmpty = false := by
   cases c : es.isEmpty with
   | false => rfl
   | true =>
    have e0 : es = #[] := Array.isEmpty_iff.mp c
    subst e0
    cases xs with
    | nil => cases hp
    | cons x xs => cases he
  rw [ne]
  simp only [Bool.false_eq_true, if_false]
  refine wpAny_bind (takeOut_heap hu hkey hm hp hsz fun e h' hev hm' hs' => ?_)
  simp only [Option.isNone_some, Bool.false_eq_true, if_false]
  exact wpAny_bind (wpAny_letGo (wpAny_pure ⟨e.val, rfl, by rw [hev]; exact h h' hm' hs'⟩))
end
section
variable {X : Cx} {pins : List (Addr × Obj)} {σ : St} {H : Hp} {s : Shared} {a b : Addr} {kvs : List (List Key × V)} {k : List Key} {A : Around} {E : Value → Shared → Prop}
theorem KT.drop {H : Hp} {kvs : List (List Key × V)} {xs : List (List Key × Addr × Value)} (r : KT H kvs xs) (k : List Key) : KT H (dropK kvs k) (xs.filter fun x => decide (x.1 ≠ k)) := by
 induction r with
 | nil => exact .nil
 | @cons p q ps qs hq t ih =>
  unfold dropK at *
  by_cases c : p.1 = k
  ·rw [List.filter_cons_of_neg (by simp [c]), List.filter_cons_of_neg (by rw [← hq.1]; simp [c])]
   exact ih
  ·rw [List.filter_cons_of_pos (by simp [c]), List.filter_cons_of_pos (by rw [← hq.1]; simp [c])]
   exact .cons hq ih
theorem d_popT {v : V} {Q : Value → Shared → Prop} (hu : A.units + 1 < cLine) (I : Inv X pins σ H s) (e : H a = some (.dT kvs)) (eb : H b = some (.tup (k.map kV))) (l : valV kvs k = some v)
  (h : ∀ w' s', Inv X pins σ (upd H a (.dT (dropK kvs k))) s' → RelV v w' → Q w' s') : wpAny (model X.prog X.w) A (call (.builtin "dict.pop") [.ref a, .ref b]) Q E s := by
 obtain ⟨z, hd, xs, rel, dd⟩ := dt_of I.hok e
 have hz : xs.length ≤ sizeLine := by rw [← Paired.length rel]; exact z
 obtain ⟨w', hw, rw'⟩ := RelO.some_of (v := v) (o := (atKey xs k).map (·.2)) (by rw [← l]; exact rel.val k)
 obtain ⟨p, hp, e2⟩ := Option.map_eq_some_iff.mp hw
 refine call_meetsIn PySem.F.slot_dict_pop dd.typeIs PySem.F.entry_dict_pop (PySem.F.args_dict_pop_2 _ _) (meetsH_dict_pop (tupleKind (mixKind X.prog X.w)) a b)
  ⟨tupleKind_room_in1 hu, k, xs, p, key_of I.hok eb, dd, hz, hp, fun h' dd' hs => h _ _ ?_ (by rw [e2]; exact rw')⟩
 obtain ⟨q, es, ep, hq, h2, h3, h4, _, h5⟩ := dd'
 refine d_write I (by rw [e]; exact True.intro) hs ⟨q, hq⟩ ⟨Nat.le_trans (dropK_le kvs k) z, hd, _, (rel.drop k).keeps fun c ys ec => ?_, q, es, ep, hq, h2, h3, h4, h5⟩
 rw [upd_ne (ne_of ec e (fun z => nomatch z))]
 exact ec
end
def tDPopT (td ty : TE) : TE := fun σ H Q => td σ H fun x H1 => ∃ a, x = .ref a ∧ IsD H1 a ∧ ty σ H1 fun y H2 => ∃ kvs k b v, H2 a = some (.dT kvs) ∧ y = .ref b ∧ H2 b = some (.tup (k.map kV)) ∧ valV kvs k = some v ∧ Q v (upd H2 a (.dT (dropK kvs k)))
theorem pe_dpopT {X : Cx} {o e : Expr} {apos cpos : Pos} {td ty : TE} (hu : X.A.units + 1 < cLine) (ho : PE X o td) (he : PE X e ty) (m : M1 X o "pop" apos e cpos) : PE X (.Call (.Attribute o "pop" apos) [e] [] cpos) (tDPopT td ty) := by
 intro pins s σ H Q I h
 refine wpAny_Call_method m.base m.few m.line PySem.F.plainAttrs_dict PySem.F.slot_dict_pop PySem.F.type_dict_pop (thn (ho pins s σ H _ I h) fun u s1 ⟨x, H1, I1, rx, a, ex, d, q1⟩ => ?_)
 subst ex
 obtain rfl : u = Value.ref a := rx
 obtain ⟨t1, t2, _⟩ := isD_at I1 d
 refine ⟨t1, t2, ?_⟩
 rw [m.trees]
 refine Calls.callWith_builtin rfl (Calls.evalArgs_plain (Calls.spliced_cons (thn (he pins s1 σ H1 _ I1 q1) fun iv s2 ⟨y, H2, I2, ry, kvs, k, b, v, ea, ey, eb, l, q2⟩ => Calls.spliced_nil ?_)))
 subst ey
 cases (show iv = Value.ref b from ry)
 exact d_popT hu I2 ea eb l fun w' s3 I3 rw' => ⟨v, _, I3, rw', q2⟩
theorem Inv.thaw {X : Cx} {pins : List (Addr × Obj)} {σ : List (Option V)} {H : Hp} {s : Shared} {a : Addr} {o : Obj} {u : HO} (I : Inv X pins σ H s) (e : H a = some (.frz o u)) (h0 : ∀ o' u', X.H₀ a ≠ some (.frz o' u')) : Inv X pins σ (upd H a u) s := by
 have nn : ∀ b, H b = none → upd H a u b = none := fun b hb => by
  rw [upd_ne (fun z => by rw [z, e] at hb; cases hb)]; exact hb
 refine ⟨I.ok, I.os, I.bare, ⟨I.base.keep, I.base.slot, fun b ob q n hx => nn b (I.base.free b ob q n hx), I.base.there, fun b xs q => ?_, fun b ob v q => ?_, fun b ps q => ?_⟩, I.loc, I.cell, nn _ I.free, fun x c h => nn _ (I.freeC x c h), fun p hp => ?_, ?_, I.len⟩
 ·have z := I.base.tups b xs q
  rw [upd_ne (fun z' => by rw [z', e] at z; cases z)]; exact z
 ·have z := I.base.frzs b ob v q
  rw [upd_ne (fun z' => by rw [z'] at q; exact h0 ob v q)]; exact z
 ·obtain ⟨more, z⟩ := I.base.tbls b ps q
  exact ⟨more, by rw [upd_ne (fun z' => by rw [z', e] at z; cases z)]; exact z⟩
 ·obtain ⟨p1, p2, p3⟩ := I.pin p hp
  exact ⟨p1, nn _ p2, p3⟩
 ·intro b ob q
  have st : ∀ {ob' : HO}, ObjOk X.prog X.w H s.heap b ob' → ObjOk X.prog X.w (upd H a u) s.heap b ob' := fun x => x.stay (fun _ _ _ z => z) (fun c z => by rw [upd_ne (fun z' => by rw [z', e] at z; cases z)]; exact z) fun c xs z => by rw [upd_ne (fun z' => by rw [z', e] at z; cases z)]; exact z
  by_cases z : b = a
  ·subst z
   rw [upd_same] at q
   cases q
   exact st (I.hok b _ e).2
  ·rw [upd_ne z] at q
   exact st (I.hok b ob q)
def tThaw (t : TE) : TE := fun σ H Q => ∃ a u, (∀ o v, u ≠ .frz o v) ∧ H a = some u ∧ t σ H fun v H' => ∃ o, H' a = some (.frz o u) ∧ Q v (upd H' a u)
theorem pe_thaw {X : Cx} {e : Expr} {t : TE} (h : PE X e t) : PE X e (tThaw t) := by
 intro pins s σ H Q I q
 obtain ⟨a, u, nf, ea, q⟩ := q
 refine thn (h pins s σ H _ I q) fun v s' ⟨x, H', I', rx, o, ef, q'⟩ => ⟨x, _, I'.thaw ef fun o' u' z => ?_, rx, q'⟩
 have := I.base.frzs a o' u' z
 rw [ea] at this
 cases this
 exact nf _ _ rfl
section
variable {prog : Program} {w : World} {A : Around} {E : Value → Shared → Prop} {s : Shared}
theorem ne_filled {a b : Addr} {oa ob : Obj} {es es' : Array DictEntry} {ep ep' : Nat} {Q : Value → Shared → Prop} (ha : (a == sysModules) = false) (hb : (b == sysModules) = false) (ta : s.TypeIs (.ref a) "dict") (tb : s.TypeIs (.ref b) "dict")
  (hoa : s.heap.get? a = some oa) (hda : oa.data = .dict es ep) (hob : s.heap.get? b = some ob) (hdb : ob.data = .dict es' ep') (hu : A.units < cLine) (hsz : es.size ≠ es'.size) (h : Q (.bool true) s) :
  wpAny (model prog w) A (compareOp .NotEq (.ref a) (.ref b)) Q E s := by
 refine wpAny_richCompare_same_room (op := .NotEq) ta tb PySem.F.slot_dict_ne (wpAny_call_entry PySem.F.slot_dict_ne ta PySem.F.entry_dict_ne ?_ (PySem.F.args_dict_ne_2 _ _)) hu
 show wpAny _ _ (Builtin.Dict.dictSlotArgs "__ne__" ⟨[.ref a, .ref b], []⟩ >>= _) _ _ s
 refine wpAny_bind ?_
 unfold Builtin.Dict.dictSlotArgs
 refine wpAny_bind (wpAny_notOrdered_dict ta ?_)
 show wpAny _ _ (pure (Value.ref a, Value.ref b)) _ _ s
 refine wpAny_pure ?_
 refine wpAny_bind (wpAny_isInstance (T := "dict") tb PySem.F.sub_dict_dict ?_)
 simp only [Bool.not_true, Bool.false_eq_true, if_false]
 refine wpAny_bind (wpAny_pure (wpAny_bind (wpAny_pure ?_)))
 refine wpAny_bind ?_
 unfold Builtin.Dict.samePairs Builtin.Dict.showsAll
 rw [if_neg (show ¬ (a == sysModules) = true by rw [ha]; exact Bool.false_ne_true), if_neg (show ¬ (b == sysModules) = true by rw [hb]; exact Bool.false_ne_true)]
 refine wpAny_bind (wpAny_pure (wpAny_bind (wpAny_pure ?_)))
 refine wpAny_bind (wpAny_dictEntries hoa hda ?_)
 dsimp only
 refine wpAny_bind (wpAny_dictEntries hob hdb ?_)
 rw [if_pos (by simpa using hsz)]
 refine wpAny_bind (wpAny_rule (wpAny_pure ?_))
 refine wpAny_pure ⟨_, rfl, ?_, ?_⟩
 ·exact fun x => nomatch x
 ·simpa using h
end
def rNeE : R2 := fun x y H Q => ∃ a b kvs, x = .ref a ∧ y = .ref b ∧ H a = some (.dT kvs) ∧ H b = some (.dT []) ∧ Q (.bl (!kvs.isEmpty)) H
theorem op_neE {X : Cx} (hu : X.A.units + 64 < cLine) : OpR X (compareOp .NotEq) rNeE := by
 intro pins s σ H x y v u Q I rx ry h
 obtain ⟨a, b, kvs, rfl, rfl, ha, hb, q⟩ := h
 cases rx
 cases ry
 obtain ⟨b1, db⟩ := dict_no I hb
 cases kvs with
 | nil =>
  obtain ⟨a1, da⟩ := dict_no I ha
  exact PySem.W.keq_ne (r := true) a1 b1 da db (by lia) (fun _ => .nil) ⟨.bl false, H, I, rfl, q⟩
 | cons p kvs =>
  obtain ⟨z, hd, xs, rel, dd⟩ := dt_of I.hok ha
  have ta := dd.typeIs
  have tb := db.typeIs
  obtain ⟨oa, es, ep, hoa, _, hda, hes, _⟩ := dd
  obtain ⟨ob, es', ep', hob, _, hdb, _, hp, _⟩ := db
  refine ne_filled hd b1 ta tb hoa hda hob hdb (by lia) ?_ ⟨.bl true, H, I, rfl, q⟩
  have l1 : es.size = xs.length := by rw [← Array.length_toList, hes, List.length_map]
  have l2 : es'.size = 0 := by
   have := hp.length
   rw [Array.length_toList] at this
   exact this
  have l3 := Paired.length rel
  rw [List.length_cons] at l3
  lia
end L2
namespace L2
open PySem PySem.Spec PyProof.Rows
theorem tuple_lt_pairs (l b : Addr) (i j i2 j2 : Int) (t u t2 u2 : Tok) (n n2 : Nat) (dd dd2 : Option Addr) (sl sl2 : Array (Option Value)) :
  Meets (Builtin.«tuple.__lt__» ⟨[.ref l, .ref b], []⟩)
   (fun _ R s => s.heap.get? l = some { cls := .type "tuple", dict := dd, data := .seq #[.int i t, .int j u] n, slots := sl } ∧ s.heap.get? b = some { cls := .type "tuple", dict := dd2, data := .seq #[.int i2 t2, .int j2 u2] n2, slots := sl2 } ∧
    ∀ k : Bool, R (.ok (.ret (.bool k))) s) :=
 .of_wp fun prog w A R s h => by
  obtain ⟨hp, g, d, tk, os⟩ := s; obtain ⟨hl, hb, h⟩ := h
  have f2 := AutoSeq1.sub_tuple_tuple
  wp_walk using AutoSeq1.wpAny_loadPart' hl, AutoSeq1.wpAny_loadPart' hb, wpAny_forIn_list _ (fun (rest : List (Value × Value)) r s' => r.1 = none ∧ s' = ⟨hp, g, d, tk, os⟩ ∧ ∀ q ∈ rest, ∃ (x y : Int) (tx ty : Tok), q = (.int x tx, .int y ty)) _
  case turn =>
   rintro ⟨y, x⟩ rest r s' ⟨hb', rfl, hm⟩
   obtain ⟨x1, y1, tx, ty, e⟩ := hm _ (List.mem_cons_self ..)
   cases e
   refine wpAny_bind (wpAny_eqBool_int ?_)
   cases c : (x1 == y1) with
   | true =>
    simp only [Bool.not_true, Bool.false_eq_true, if_false]
    exact wpAny_pure ⟨rfl, rfl, fun z hz => hm z (List.mem_cons_of_mem _ hz)⟩
   | false =>
    simp only [Bool.not_false, if_true]
    refine wpAny_bind (wpAny_rule ?_)
    refine wpAny_bind (richCompare_gives (op := .Lt) (typeIs_int _ _ tx) (typeIs_int _ _ ty) F.slot_int_lt F.entry_int_lt (F.args_int_lt_2 _ _) (gives_int_lt _ _ tx ty) (fun x => nomatch x) ?_)
    exact wpAny_bind (wpAny_pure (wpAny_pure (wpAny_pure ⟨_, rfl, h _⟩)))
  case fin =>
   rintro ⟨r1, r2⟩ s' ⟨hb', rfl, -⟩
   simp only at hb'
   subst hb'
   wp_walk
   exact ⟨_, rfl, h _⟩
  case h =>
   refine ⟨rfl, rfl, fun q hq => ?_⟩
   simp at hq
   rcases hq with rfl | rfl
   ·exact ⟨_, _, _, _, rfl⟩
   ·exact ⟨_, _, _, _, rfl⟩
section
variable {prog : Program} {w : World} {A : Around} {E : Value → Shared → Prop} {s : Shared}
theorem lt_pairs {ns : List Addr} {v u : Value} {Q : Value → Shared → Prop} (hv : PairAt s.heap ns v) (hu : PairAt s.heap ns u) (room : A.units < cLine) (h : ∀ k : Bool, Q (.bool k) s) : wpAny (model prog w) A (richCompare .Lt v u) Q E s := by
 obtain ⟨a, i, j, t, u1, rfl, _, ⟨cls, dd, data, sl⟩, ho, hc, n, hd⟩ := hv
 obtain ⟨b, i2, j2, t2, u2, rfl, _, ⟨cls2, dd2, data2, sl2⟩, ho2, hc2, n2, hd2⟩ := hu
 simp only at hc hd hc2 hd2
 subst hc hd hc2 hd2
 exact richCompare_meets_room (op := .Lt) ⟨_, ho, rfl⟩ ⟨_, ho2, rfl⟩ F.slot_tuple_lt F.entry_tuple_lt (F.args_tuple_lt_2 _ _) (tuple_lt_pairs a b i j i2 j2 t u1 t2 u2 n n2 dd dd2 sl sl2)
  ⟨ho, ho2, fun k => ⟨(fun x => nomatch x), h k⟩⟩ room
end
theorem pair_reads {h : Heap} {q : Addr} {o : Obj} {i j : Int} {t u : Tok} {n : Nat} (e : h.get? q = some o) (c : o.cls = .type "tuple") (d : o.data = .seq #[.int i t, .int j u] n) : Reads h (.ref q) (.tuple [.int i, .int j]) [] := by
 exact Reads.tuple e c d (.cons (.int i t) (.cons (.int j u) .nil))
theorem tuple_lt_items {prog : Program} {w : World} (l b q q2 : Addr) (c c2 i j i2 j2 : Int) (t t2 u v u2 v2 : Tok) (n n2 n3 n4 : Nat) (dd dd2 dd3 dd4 : Option Addr) (sl sl2 sl3 sl4 : Array (Option Value)) :
  MeetsIn prog w (Builtin.«tuple.__lt__» ⟨[.ref l, .ref b], []⟩)
   (fun A R s => A.units + 130 < cLine ∧ s.heap.get? l = some { cls := .type "tuple", dict := dd, data := .seq #[.int c t, .ref q] n, slots := sl } ∧ s.heap.get? b = some { cls := .type "tuple", dict := dd2, data := .seq #[.int c2 t2, .ref q2] n2, slots := sl2 } ∧
    s.heap.get? q = some { cls := .type "tuple", dict := dd3, data := .seq #[.int i u, .int j v] n3, slots := sl3 } ∧ s.heap.get? q2 = some { cls := .type "tuple", dict := dd4, data := .seq #[.int i2 u2, .int j2 v2] n4, slots := sl4 } ∧
    ∀ k : Bool, (k = true → c ≤ c2) → (k = false → c2 ≤ c) → R (.ok (.ret (.bool k))) s) :=
 .of_wp fun A R s h => by
  obtain ⟨hp, g, d, tk, os⟩ := s; obtain ⟨hu, hl, hb, hq, hq2, h⟩ := h
  have f2 := AutoSeq1.sub_tuple_tuple
  wp_walk using AutoSeq1.wpAny_loadPart' hl, AutoSeq1.wpAny_loadPart' hb, wpAny_forIn_list _ (fun (rest : List (Value × Value)) r s' => r.1 = none ∧ s' = ⟨hp, g, d, tk, os⟩ ∧ (rest = [(.int c t, .int c2 t2), (.ref q, .ref q2)] ∨ (c = c2 ∧ (rest = [(.ref q, .ref q2)] ∨ rest = [])))) _
  case turn =>
   rintro ⟨y, x⟩ rest r s' ⟨hb', rfl, hm⟩
   rcases hm with hm | ⟨hc, hm | hm⟩
   ·cases hm
    refine wpAny_bind (wpAny_eqBool_int ?_)
    cases k : (c == c2) with
    | true =>
     simp only [Bool.not_true, Bool.false_eq_true, if_false]
     exact wpAny_pure ⟨rfl, rfl, .inr ⟨by simpa using k, by simp⟩⟩
    | false =>
     simp only [Bool.not_false, if_true]
     refine wpAny_bind (wpAny_rule ?_)
     refine wpAny_bind (richCompare_gives (op := .Lt) (typeIs_int _ _ t) (typeIs_int _ _ t2) F.slot_int_lt F.entry_int_lt (F.args_int_lt_2 _ _) (gives_int_lt _ _ t t2) (fun x => nomatch x) ?_)
     refine wpAny_bind (wpAny_pure (wpAny_pure (wpAny_pure ⟨_, rfl, h _ (fun z => ?_) (fun z => ?_)⟩)))
     ·have := of_decide_eq_true z
      lia
     ·have := of_decide_eq_false z
      lia
   ·cases hm
    refine wpAny_bind (PySem.W.keq_at (A := A) (pair_reads hq rfl rfl) (pair_reads hq2 rfl rfl) rfl rfl (show A.units + 1 + 64 < cLine by lia) _ _ _ _ ?_)
    cases k : PyData.eqv (.tuple [.int i, .int j]) (.tuple [.int i2, .int j2]) with
    | true =>
     simp only [Bool.not_true, Bool.false_eq_true, if_false]
     exact wpAny_pure ⟨rfl, rfl, .inr ⟨hc, by simp⟩⟩
    | false =>
     simp only [Bool.not_false, if_true]
     refine wpAny_bind (wpAny_rule ?_)
     refine wpAny_bind (lt_pairs (ns := []) ⟨q, i, j, u, v, rfl, (fun z => nomatch z), _, hq, rfl, n3, rfl⟩ ⟨q2, i2, j2, u2, v2, rfl, (fun z => nomatch z), _, hq2, rfl, n4, rfl⟩ (show A.units + 1 < cLine by lia) fun k => ?_)
     exact wpAny_bind (wpAny_pure (wpAny_pure (wpAny_pure ⟨_, rfl, h _ (fun _ => by lia) (fun _ => by lia)⟩)))
   ·cases hm
  case fin =>
   rintro ⟨r1, r2⟩ s' ⟨hb', rfl, hm⟩
   simp only at hb'
   subst hb'
   rcases hm with hm | ⟨hc, _⟩
   ·cases hm
   wp_walk
   exact ⟨_, rfl, h _ (fun _ => by lia) (fun _ => by lia)⟩
  case h =>
   simp
def ItemAt (h : Heap) (ns : List Addr) (c : Int) (v : Value) : Prop := ∃ (a q : Addr) (i j : Int) (t u u' : Tok), v = .ref a ∧ a ∉ ns ∧ q ∉ ns ∧ h.IsTuple a #[.int c t, .ref q] ∧ h.IsTuple q #[.int i u, .int j u']
theorem ItemAt.keep {h h' : Heap} {ns : List Addr} {c : Int} {v : Value} (hk : ∀ b o, b ∉ ns → h.get? b = some o → h'.get? b = some o) : ItemAt h ns c v → ItemAt h' ns c v := by
 rintro ⟨a, q, i, j, t, u, u', rfl, hn, hq, ⟨o, e, z⟩, ⟨o2, e2, z2⟩⟩
 exact ⟨a, q, i, j, t, u, u', rfl, hn, hq, ⟨o, hk a o hn e, z⟩, ⟨o2, hk q o2 hq e2, z2⟩⟩
section
variable {prog : Program} {w : World} {A : Around} {E : Value → Shared → Prop} {s : Shared}
theorem lt_items {ns : List Addr} {v u : Value} {c c2 : Int} {Q : Value → Shared → Prop} (hv : ItemAt s.heap ns c v) (hu : ItemAt s.heap ns c2 u) (room : A.units + 140 < cLine) (h : ∀ k : Bool, (k = true → c ≤ c2) → (k = false → c2 ≤ c) → Q (.bool k) s) : wpAny (model prog w) A (richCompare .Lt v u) Q E s := by
 obtain ⟨a, q, i, j, t, w1, w2, rfl, _, _, ⟨⟨cls, dd, data, sl⟩, ho, hc, n, hd⟩, ⟨⟨cls3, dd3, data3, sl3⟩, ho3, hc3, n3, hd3⟩⟩ := hv
 obtain ⟨b, q2, i2, j2, t2, x1, x2, rfl, _, _, ⟨⟨cls2, dd2, data2, sl2⟩, ho2, hc2, n2, hd2⟩, ⟨⟨cls4, dd4, data4, sl4⟩, ho4, hc4, n4, hd4⟩⟩ := hu
 simp only at hc hd hc2 hd2 hc3 hd3 hc4 hd4
 subst hc hd hc2 hd2 hc3 hd3 hc4 hd4
 refine wpAny_richCompare_same_room (op := .Lt) (⟨_, ho, rfl⟩ : s.TypeIs (.ref a) "tuple") (⟨_, ho2, rfl⟩ : s.TypeIs (.ref b) "tuple") F.slot_tuple_lt ?_ (by lia)
 exact call_meetsIn F.slot_tuple_lt (⟨_, ho, rfl⟩ : s.TypeIs (.ref a) "tuple") F.entry_tuple_lt (F.args_tuple_lt_2 _ _) (tuple_lt_items a b q q2 c c2 i j i2 j2 t t2 w1 w2 x1 x2 n n2 n3 n4 dd dd2 dd3 dd4 sl sl2 sl3 sl4) ⟨by first | exact (show A.units + 1 + 130 < cLine by lia) | (show A.units + 130 < cLine; lia), ho, ho2, ho3, ho4, fun k k1 k2 => ⟨(fun x => nomatch x), h k k1 k2⟩⟩
end
theorem least_on {cf : Nat → Int} {ib j : Nat} (hmin : ∀ i', i' < j + 1 → cf ib ≤ cf i') (h : cf (j + 1) ≤ cf ib) : ∀ i', i' < j + 1 + 1 → cf (j + 1) ≤ cf i' := fun i' hi' => by
 rcases Nat.lt_or_ge i' (j + 1) with z | z
 ·have := hmin i' z
  lia
 ·have z2 : i' = j + 1 := by lia
  rw [z2]; exact Int.le_refl _
theorem least_stay {cf : Nat → Int} {ib j : Nat} (hmin : ∀ i', i' < j + 1 → cf ib ≤ cf i') (h : cf ib ≤ cf (j + 1)) : ∀ i', i' < j + 1 + 1 → cf ib ≤ cf i' := fun i' hi' => by
 rcases Nat.lt_or_ge i' (j + 1) with z | z
 ·exact hmin i' z
 ·have z2 : i' = j + 1 := by lia
  rw [z2]; exact h
theorem least_0 {cf : Nat → Int} : ∀ i', i' < 0 + 1 → cf 0 ≤ cf i' := fun i' hi' => by
 have z2 : i' = 0 := by lia
 rw [z2]; exact Int.le_refl _
section
variable {prog : Program} {w : World} {A : Around} {R : Result → Shared → Prop} {I : Addr} {fp wr : List Addr} {n : Nat} {P : Nat → Value → Prop} {St : Nat → Heap → Prop}
theorem min_loopJ (cf : Nat → Int) (room : A.in1.units + 140 < cLine) (W : Walks prog w A.in1 I fp wr n P St) (S : Addr) (hSf : S ∉ fp) :
  ∀ (k j : Nat) (s : Shared) (vb : Value) (c : Nat), n - (j + 1) = k → j + 1 ≤ n → St (j + 1) s.heap → (∃ i, P i vb ∧ ∀ i', i' < j + 1 → cf i ≤ cf i') → (∀ i v, P i v → ItemAt s.heap (S :: wr) (cf i) v) →
  s.heap.get? S = some { cls := .type "list", dict := none, data := .seq #[vb, vb] c, slots := #[] } →
  (∀ v h' tk, (∃ i, P i v ∧ ∀ i', i' < n → cf i ≤ cf i') → (∀ b o, b ∉ wr → b ≠ S → s.heap.get? b = some o → h'.get? b = some o) → R (.ok (.ret v)) { s with heap := h', toks := tk }) →
  codeAny (model prog w) A (.builtin "min.loop" ⟨[.ref I, .none, .ref S], []⟩) R s := by
 have hSw : S ∉ wr := fun h => hSf (W.sub _ h)
 have hname : (toString "min" ++ toString ".loop" : String) = "min.loop" := by decide
 intro k
 induction k with
 | zero =>
  intro j s vb c hk hj hst hPb hG hS hR
  have hin : j + 1 = n := by lia
  refine codeAny_builtin F.entry_min_loop ?_
  rw [Around.under_plainId F.plain_min_loop _]
  show wpAny _ A.in1 (seqItems? (.ref S) >>= _) _ _ s
  refine wpAny_bind (wpAny_seqItems hS rfl ?_)
  show wpAny _ A.in1 (tryCatch (pyNext (.ref I)) _ >>= _) _ _ s
  refine wpAny_bind (wpAny_tryCatch (W.done s _ _ (hin ▸ hst) fun h' tk hk' => ?_))
  have hS' := hk' S _ hSw hS
  show wpAny _ A.in1 (updateSeq S (fun _ => #[]) >>= _) _ _ _
  refine wpAny_bind ?_
  refine wpAny_updateSeq hS' rfl (wpAny_bind (wpAny_letGo (wpAny_pure ?_)))
  exact hR vb _ tk (by rw [← hin]; exact hPb) fun b o hbw hbS e => (Heap.get?_update_other _ _ (Ne.symm hbS)).trans (hk' b o hbw e)
 | succ k ih =>
  intro j s vb c hk hj hst hPb hG hS hR
  have hlt : j + 1 < n := by lia
  refine codeAny_builtin F.entry_min_loop ?_
  rw [Around.under_plainId F.plain_min_loop _]
  show wpAny _ A.in1 (seqItems? (.ref S) >>= _) _ _ s
  refine wpAny_bind (wpAny_seqItems hS rfl ?_)
  show wpAny _ A.in1 (tryCatch (pyNext (.ref I)) _ >>= _) _ _ s
  refine wpAny_bind (wpAny_tryCatch (W.item (j + 1) s _ _ hlt hst fun v h' tk hP hst' hk' => ?_))
  have hS' := hk' S _ hSw hS
  obtain ⟨ib, hib, hmin⟩ := hPb
  have hG' : ∀ i v, P i v → ItemAt h' (S :: wr) (cf i) v := fun i v hv => (hG i v hv).keep fun b o hb e => hk' b o (fun z => hb (List.mem_cons_of_mem _ z)) e
  show wpAny _ A.in1 (tryCatch (holding [v, v] (richCompare .Lt v vb >>= _)) _ >>= _) _ _ _
  refine wpAny_bind (wpAny_tryCatch (wpAny_holding (wpAny_bind (lt_items (ns := S :: wr) (hG' _ v hP) (hG' _ vb hib) room fun bt k1 k2 => ?_))))
  refine wpAny_bind (wpAny_holding (wpAny_truthy_bool ?_))
  refine wpAny_bind (wpAny_letGo (wpAny_pure ?_))
  cases bt with
  | true =>
   simp only [if_true]
   refine wpAny_bind ?_
   refine wpAny_updateSeq hS' rfl (wpAny_bind (wpAny_letGo ?_))
   rw [hname]
   refine wpAny_pure ⟨plainId_quiet F.plain_min_loop _, ih (j + 1) _ v _ (by lia) hlt (W.frame _ _ _ hst' fun b hbf o e => ?_) ⟨_, hP, least_on hmin (k1 rfl)⟩ (fun i v hv => (hG' i v hv).keep fun b o hb e => ?_) (Heap.get?_update_self _ hS' rfl)
    fun v' h'' tk'' hP' hk'' => ?_⟩
   ·exact (Heap.get?_update_other _ _ (fun h : S = b => hSf (by rw [h]; exact hbf))).trans e
   ·exact (Heap.get?_update_other _ _ (fun h : S = b => hb (by rw [h]; exact List.mem_cons_self))).trans e
   ·exact hR v' h'' tk'' hP' fun b o hbw hbS e => hk'' b o hbw hbS ((Heap.get?_update_other _ _ (Ne.symm hbS)).trans (hk' b o hbw e))
  | false =>
   simp only [Bool.false_eq_true, if_false]
   refine wpAny_bind (wpAny_letGo ?_)
   rw [hname]
   refine wpAny_pure ⟨plainId_quiet F.plain_min_loop _, ih (j + 1) _ vb c (by lia) hlt hst' ⟨ib, hib, least_stay hmin (k2 rfl)⟩ hG' hS' fun v' h'' tk'' hP' hk'' => ?_⟩
   exact hR v' h'' tk'' hP' fun b o hbw hbS e => hk'' b o hbw hbS (hk' b o hbw e)
theorem min_firstJ (cf : Nat → Int) (room : A.in1.units + 140 < cLine) (W : Walks prog w A.in1 I fp wr n P St) (S : Addr) (hSf : S ∉ fp) (hn : 0 < n) {s : Shared} {c : Nat} (hst : St 0 s.heap) (hG : ∀ i v, P i v → ItemAt s.heap (S :: wr) (cf i) v)
  (hS : s.heap.get? S = some { cls := .type "list", dict := none, data := .seq #[] c, slots := #[] })
  (hR : ∀ v h' tk, (∃ i, P i v ∧ ∀ i', i' < n → cf i ≤ cf i') → (∀ b o, b ∉ wr → b ≠ S → s.heap.get? b = some o → h'.get? b = some o) → R (.ok (.ret v)) { s with heap := h', toks := tk }) :
  codeAny (model prog w) A (.builtin "min.loop" ⟨[.ref I, .none, .ref S], []⟩) R s := by
 have hSw : S ∉ wr := fun h => hSf (W.sub _ h)
 have hname : (toString "min" ++ toString ".loop" : String) = "min.loop" := by decide
 refine codeAny_builtin F.entry_min_loop ?_
 rw [Around.under_plainId F.plain_min_loop _]
 show wpAny _ A.in1 (seqItems? (.ref S) >>= _) _ _ s
 refine wpAny_bind (wpAny_seqItems hS rfl ?_)
 show wpAny _ A.in1 (tryCatch (pyNext (.ref I)) _ >>= _) _ _ s
 refine wpAny_bind (wpAny_tryCatch (W.item 0 s _ _ hn hst fun v h' tk hP hst' hk' => ?_))
 have hS' := hk' S _ hSw hS
 have hG' : ∀ i v, P i v → ItemAt h' (S :: wr) (cf i) v := fun i v hv => (hG i v hv).keep fun b o hb e => hk' b o (fun z => hb (List.mem_cons_of_mem _ z)) e
 show wpAny _ A.in1 (updateSeq S (fun _ => #[v, v]) >>= _) _ _ _
 refine wpAny_bind ?_
 refine wpAny_updateSeq hS' rfl ?_
 rw [hname]
 refine wpAny_pure ⟨plainId_quiet F.plain_min_loop _, min_loopJ cf room W S hSf _ 0 _ v _ rfl hn (W.frame _ _ _ hst' fun b hbf o e => ?_) ⟨_, hP, least_0⟩ (fun i v hv => (hG' i v hv).keep fun b o hb e => ?_) (Heap.get?_update_self _ hS' rfl) fun v' h'' tk'' hP' hk'' => ?_⟩
 ·exact (Heap.get?_update_other _ _ (fun h : S = b => hSf (by rw [h]; exact hbf))).trans e
 ·exact (Heap.get?_update_other _ _ (fun h : S = b => hb (by rw [h]; exact List.mem_cons_self))).trans e
 ·exact hR v' h'' tk'' hP' fun b o hbw hbS e => hk'' b o hbw hbS ((Heap.get?_update_other _ _ (Ne.symm hbS)).trans (hk' b o hbw e))
end
section
variable {X : Cx}
def rMinJ (K : PySem.W.Frag) : List V → Hp → VK → Prop := fun xs H Q => ∃ (p : Addr) (vs : List V) (cf : Nat → Int), xs = [.ref p] ∧ SqL K H p vs ∧ vs ≠ [] ∧ (∀ i v, vs[i]? = some v → ∃ (a b : Addr) (i1 j1 : Int), v = .ref a ∧ SqT K H a [.int (cf i), .ref b] ∧ SqT K H b [.int i1, .int j1]) ∧ ∀ i v, vs[i]? = some v → (∀ i', i' < vs.length → cf i ≤ cf i') → Q v H
theorem call_minJ (hc : X.calm = true) (hu : X.A.units + 160 < cLine) : CallR X (.builtin "min") (rMinJ X.K) := by
 intro pins s σ H xs us Q I r h
 obtain ⟨p, vs, cf, rfl, hq, hne, hp, q⟩ := h
 obtain ⟨u, rfl, rx⟩ := vals1 r
 cases rx
 obtain ⟨its, rv, pl, hz⟩ := I.list hq
 have hl := pl.isList
 have hlt : p < s.heap.objs.size := by obtain ⟨_, e, _⟩ := hl; exact Heap.lt_size e
 have hlen := rv.length
 have hname : (toString "min" ++ toString ".loop" : String) = "min.loop" := by decide
 refine call_function_tree F.kind_min F.plain_min F.entry_min (F.args_min1 _) ?_
 show wpAny _ X.A.in1 (Builtin.Builtins.bindParams "min" ["key", "default"] 0 ⟨[], []⟩ >>= _) _ _ s
 refine wpAny_bind (wpAny_of_eq (show Builtin.Builtins.bindParams "min" ["key", "default"] 0 ⟨[], []⟩ = pure [none, none] from rfl) ?_)
 refine wpAny_bind (wpAny_pure ?_)
 refine wpAny_bind (wpAny_pyIter_list hl ?_)
 refine wpAny_bind (wpAny_newObj_type ?_)
 rw [hname]
 have W := Walks.list (prog := X.prog) (w := X.w) (A := X.A.in1) (I.ok.hd hc) s.heap.objs.size p (Nat.ne_of_lt hlt) its.toArray
 have sz : ∀ (h : Heap) (o : Obj), (h.push o).objs.size = h.objs.size + 1 := fun h o => by simp [Heap.push]
 refine wpAny_pure ⟨plainId_quiet F.plain_min_loop _, min_firstJ cf (show X.A.units + 1 + 140 < cLine by lia) W _ ?_ ?_ ?_ ?_ (Heap.get?_push_size _ rfl) fun v h' tk hP hk => ?_⟩
 ·intro hm
  rw [sz] at hm
  rcases List.mem_cons.mp hm with z | z
  ·exact absurd z (Nat.succ_ne_self _)
  ·have h2 : s.heap.objs.size + 1 = p := List.mem_singleton.mp z
   have h3 : s.heap.objs.size + 1 < s.heap.objs.size := by rw [h2]; exact hlt
   exact absurd h3 (Nat.not_lt.mpr (Nat.le_succ _))
 ·rw [List.size_toArray, ← hlen]
  exact List.length_pos_iff.mpr hne
 ·exact W.frame _ _ _ ⟨⟨_, Heap.get?_push_size _ rfl, rfl, rfl⟩, hl.push _⟩ fun b _ o e => Heap.get?_push_of_some _ e
 ·intro i v hv
  have hv' : its[i]? = some v := by simpa using hv
  obtain ⟨x, hx, rx⟩ := Vals.un rv hv'
  obtain ⟨a, b, i1, j1, rfl, ht, hb⟩ := hp i x hx
  cases rx
  obtain ⟨its2, rv2, ht2, _⟩ := I.tuple ht
  obtain ⟨u1, u2, rfl, ⟨t1, rfl⟩, r2⟩ := rv2.two
  cases r2
  obtain ⟨its3, rv3, ht3, _⟩ := I.tuple hb
  obtain ⟨u3, u4, rfl, ⟨t3, rfl⟩, ⟨t4, rfl⟩⟩ := rv3.two
  have hat : a < s.heap.objs.size := by obtain ⟨_, e, _⟩ := id ht2; exact Heap.lt_size e
  have hbt : b < s.heap.objs.size := by obtain ⟨_, e, _⟩ := id ht3; exact Heap.lt_size e
  have nin : ∀ c, c < s.heap.objs.size → c ∉ [s.heap.objs.size + 1, s.heap.objs.size] := fun c hc hm => by
   rcases List.mem_cons.mp hm with z | z
   ·rw [z] at hc; exact absurd hc (Nat.not_lt.mpr (Nat.le_succ _))
   ·rw [List.mem_singleton.mp z] at hc; exact Nat.lt_irrefl _ hc
  refine ⟨a, b, i1, j1, t1, t3, t4, rfl, by rw [sz]; exact nin a hat, by rw [sz]; exact nin b hbt, ?_, ?_⟩
  ·obtain ⟨o, e, z⟩ := id ht2
   exact ⟨o, Heap.get?_push_of_some _ (Heap.get?_push_of_some _ e), z⟩
  ·obtain ⟨o, e, z⟩ := id ht3
   exact ⟨o, Heap.get?_push_of_some _ (Heap.get?_push_of_some _ e), z⟩
 ·obtain ⟨i, hi, hmin⟩ := hP
  have hv' : its[i]? = some v := by simpa using hi
  obtain ⟨x, hx, rx⟩ := Vals.un rv hv'
  refine ⟨x, H, I.kept (t' := tk) fun b o e => ?_, rx, q i x hx fun i' hi' => hmin i' (by rw [List.size_toArray, ← hlen]; exact hi')⟩
  have hb := Heap.lt_size e
  refine hk b o ?_ ?_ (Heap.get?_push_of_some _ (Heap.get?_push_of_some _ e))
  ·intro hm
   rw [List.mem_singleton.mp hm] at hb; exact Nat.lt_irrefl _ hb
  ·intro z
   rw [z, sz] at hb
   exact absurd hb (Nat.not_lt.mpr (Nat.le_succ _))
end
end L2
namespace My
open PySem L2
open PySem.Spec PyProof.Rows
mutual
def flatD : PyData → Bool
 | .none => true
 | .bool _ => true
 | .int _ => true
 | .str _ => true
 | .tuple xs => flatL xs
 | .list _ => false
 | .dict _ => false
def flatL : List PyData → Bool
 | [] => true
 | d :: ds => flatD d && flatL ds
end
mutual
theorem ThV.flat {F G : Addr → Prop} {H : Hp} (ft : ∀ b xs, H b = some (.tup xs) → F b) : ∀ {v : V} {d : PyData}, ThV G H v d → flatD d = true → ThV F H v d
 | _, _, .non, _ => .non
 | _, _, .bl b, _ => .bl b
 | _, _, .int i, _ => .int i
 | _, _, .str x, _ => .str x
 | _, _, .lst _ _ _, h => by rw [flatD] at h; cases h
 | _, _, .tup _ e t, h => .tup (ft _ _ e) e (ThVs.flat ft t (by rw [flatD] at h; exact h))
 | _, _, .dic _ _ _, h => by rw [flatD] at h; cases h
theorem ThVs.flat {F G : Addr → Prop} {H : Hp} (ft : ∀ b xs, H b = some (.tup xs) → F b) : ∀ {vs : List V} {ds : List PyData}, ThVs G H vs ds → flatL ds = true → ThVs F H vs ds
 | _, _, .nil, _ => .nil
 | _, _, .cons x t, h => by
  rw [flatL, Bool.and_eq_true] at h
  exact .cons (ThV.flat ft x h.1) (ThVs.flat ft t h.2)
end
open Classical in
theorem RelC.norm0 {C : DC} {col : Addr → Nat} {ρ : List Sl} {σ : L2.St} {P : List Pe} {H : Hp} (r : RelC C col ρ σ P H) : ∃ col', RelC C col' ρ σ P H ∧ (∀ b xs, H b = some (.tup xs) → col' b = 0) ∧ ∀ b, C.H0 b ≠ none → col' b ≤ 1 := by
 obtain ⟨col, r, tp⟩ := r.norm
 let col' : Addr → Nat := fun b => if C.H0 b ≠ none ∧ 1 < col b then 1 else col b
 have c0 : ∀ b, C.H0 b = none → col' b = col b := fun b h => if_neg fun z => z.1 h
 have c1 : ∀ b, col b ≤ 1 → col' b = col b := fun b h => if_neg fun z => absurd z.2 (by lia)
 have lo : ∀ b, col b ≤ 1 → col' b ≤ 1 := fun b h => by rw [c1 b h]; exact h
 have z0 : ∀ b, col' b = 0 → col b = 0 := fun b h => by
  by_cases q : C.H0 b ≠ none ∧ 1 < col b
  ·have h : (if C.H0 b ≠ none ∧ 1 < col b then 1 else col b) = 0 := h
   rw [if_pos q] at h; cases h
  ·have h : (if C.H0 b ≠ none ∧ 1 < col b then 1 else col b) = 0 := h
   rw [if_neg q] at h; exact h
 have mv0 : ∀ b o, Z col b → H b = some o → Z col' b ∧ H b = some o := fun b o z e => ⟨(c1 b (by rw [show col b = 0 from z]; decide)).trans z, e⟩
 refine ⟨col', ⟨fun b hb => (c1 b (by rw [r.fresh b hb]; decide)).trans (r.fresh b hb), fun b hb => r.inF b (z0 b hb), fun q hq => (c1 _ (by rw [r.hnd q hq]; decide)).trans (r.hnd q hq), fun i s e => ?_, fun p hp => ?_, r.kq, r.hq, r.hq0, r.nf, r.len⟩, fun b xs e => (c1 b (by rw [tp b xs e]; decide)).trans (tp b xs e), fun b hb => ?_⟩
 ·have h := r.sl i s e
  cases s with
  | no => trivial
  | sh d => obtain ⟨v, e1, t⟩ := h; exact ⟨v, e1, t.mv mv0⟩
  | ow ds => obtain ⟨a, vs, e1, c, n, e2, t⟩ := h; exact ⟨a, vs, e1, (c0 a n).trans c, n, e2, t.mv mv0⟩
  | bo ds => obtain ⟨a, vs, e1, c, n, e2, t⟩ := h; exact ⟨a, vs, e1, lo a c, n, e2, t.mv mv0⟩
  | hd => exact h
  | o2 dss => obtain ⟨a, as, e1, c, e2, nd, t⟩ := h; exact ⟨a, as, e1, ⟨(c0 a c.2).trans c.1, c.2⟩, e2, nd, t.mv mv0 fun b o g e => ⟨⟨(c0 b g.2).trans g.1, g.2⟩, e⟩⟩
  | b2 dss => obtain ⟨a, as, e1, c, e2, t⟩ := h; exact ⟨a, as, e1, ⟨lo a c.1, c.2⟩, e2, t.mv mv0 fun b o g e => ⟨⟨lo b g.1, g.2⟩, e⟩⟩
  | di f ks => obtain ⟨a, e1, c, n, e2⟩ := h; exact ⟨a, e1, (c0 a n).trans c, n, e2⟩
  | dm f ks => obtain ⟨a, e1, c, n, e2⟩ := h; exact ⟨a, e1, (c0 a n).trans c, n, e2⟩
  | bd d => exact h
  | ot d => obtain ⟨v, e1, t⟩ := h; exact ⟨v, e1, t.mv fun b o g e => ⟨g.imp (fun g => ⟨(c0 b g.2).trans g.1, g.2⟩) fun g => ⟨(c1 b (by rw [g.1]; decide)).trans g.1, g.2⟩, e⟩⟩
 ·have h := r.pd p hp
  cases p with
  | v v d => exact ThV.mv mv0 h
  | n a o => exact ⟨lo a h.1, h.2⟩
  | s vs ds => exact ThVs.mv mv0 h
  | o c as dss => exact ⟨h.1, h.2.mv mv0 fun b o g e => ⟨⟨(c0 b g.2).trans g.1, g.2⟩, e⟩⟩
  | w v d => exact h
 ·show (if C.H0 b ≠ none ∧ 1 < col b then 1 else col b) ≤ 1
  split
  ·exact Nat.le_refl _
  ·rename_i q
   rcases Nat.lt_or_ge 1 (col b) with z | z
   ·exact absurd ⟨hb, z⟩ q
   ·exact z
def lOf (C : DC) (t : DE) : TE := fun σ H Q => ∃ ρ P Qd, Rel C ρ σ P H ∧ t ρ Qd ∧ ∀ v d ρ' H', Rel C ρ' σ (.w v d :: P) H' → Qd d ρ' → Q v H'
section
variable {X : Cx} {C : DC} {e a b : Expr} {es : List Expr} {t ta tb te : DE} {u : DA} {pos : Pos} {st : Stmt} {tg : Expr}
def dLVar (i : Nat) (ρ : List Sl) (Q : PyData → List Sl → Prop) : Prop := bnd (lentD ρ i) fun d => Q d ρ
theorem pl_var {i : Nat} (h : PE X e (tVar i)) : PE X e (lOf C (dLVar i)) := PE.wk h fun σ H Q z => el3 z fun ρ P Qd R ht k => R.elim fun col r => by
 obtain ⟨d, hd, q⟩ := bnd_of ht
 obtain ⟨v, ev, t⟩ := r.lent hd
 exact ⟨v, ev, k _ _ _ _ ⟨col, r.add (x := .w v d) t⟩ q⟩
theorem RelC.ixL {K : PySem.W.Frag} {F : Addr → Prop} {col : Addr → Nat} {ρ : List Sl} {σ : L2.St} {P : List Pe} {H : Hp} {v w : V} {a b d : PyData} (r : RelC C col ρ σ P H) (t1 : ThV (Le C) C.H0 v a) (t2 : ThV F H w b) (h : ixD a b = some d) : ∃ u, ThV (Le C) C.H0 u d ∧ ∀ Q : VK, Q u H → rIx K v w H Q := by
 unfold ixD at h
 split at h
 ·cases t2
  obtain ⟨p, vs, rfl, n, e, t⟩ := th_lst t1
  obtain ⟨u, hu, tu⟩ := atI_th t h
  exact ⟨u, tu, fun Q q => .inl ⟨p, vs, _, u, rfl, rfl, SqL.of (r.kq p _ e n.2), hu, q⟩⟩
 ·cases t2
  obtain ⟨p, vs, rfl, n, e, t⟩ := th_tup t1
  obtain ⟨u, hu, tu⟩ := atI_th t h
  exact ⟨u, tu, fun Q q => .inr (.inl ⟨p, vs, _, u, rfl, rfl, SqT.of (r.kq p _ e n.2), hu, q⟩)⟩
 ·cases h
def dIxL (ta tb : DE)  (ρ : List Sl) (Q : PyData → List Sl → Prop) : Prop := ta ρ fun a ρ1 => tb ρ1 fun b ρ2 => bnd (ixD a b) fun d => Q d ρ2
theorem pl_ix (ha : PE X a (lOf C ta)) (hb : PE X b (eOf C tb)) (hs : PlainIx b) : PE X (.Subscript a b pos) (lOf C (dIxL ta tb)) := PE.wk (pe_ix ix_seq ha hb hs) fun _ _ _ z => el3 z fun ρ P _ R ht k => ⟨ρ, P, _, R, ht, fun v _ ρ1 H1 R1 h1 => ⟨ρ1, _, _, R1, h1, fun w _ ρ2 H2 R2 h2 => R2.elim fun col r => by
 obtain ⟨d, hd, q⟩ := bnd_of h2
 obtain ⟨x, tu, f⟩ := r.ixL (K := X.K) (r.pd _ (List.mem_cons_of_mem _ List.mem_cons_self)) (show ThV (Z col) H2 w _ from r.pd _ List.mem_cons_self) hd
 exact f _ (k _ _ _ _ ⟨col, (r.sub fun _ h => List.mem_cons_of_mem _ (List.mem_cons_of_mem _ h)).add (x := .w x d) tu⟩ q)⟩⟩
def dFlat (t : DE)  (ρ : List Sl) (Q : PyData → List Sl → Prop) : Prop := t ρ fun d ρ' => flatD d = true ∧ Q d ρ'
theorem pd_flat (h : PE X e (lOf C t)) : PE X e (eOf C (dFlat t)) := PE.wk h fun _ _ _ z => el3 z fun ρ P _ R ht k => ⟨ρ, P, _, R, ht, fun v d ρ' H' R' q => R'.elim fun col0 r0 => by
 obtain ⟨col, r, tp, _⟩ := r0.norm0
 exact k _ _ _ _ ⟨col, (r.sub fun _ h => List.mem_cons_of_mem _ h).push ((r.le (r.pd _ List.mem_cons_self)).flat tp q.1)⟩ q.2⟩
def dLenL (t : DE)  (ρ : List Sl) (Q : PyData → List Sl → Prop) : Prop := t ρ fun d ρ' => bnd (lenD d) fun n => Q (.int n) ρ'
theorem pd_lenL {K : PySem.W.Frag} (h : PE X e (tCB (rLen K) (tCons (lOf C t) tNil))) : PE X e (eOf C (dLenL t)) := PE.wk h fun _ _ _ z => el3 z fun ρ P _ R ht k => ⟨ρ, P, _, R, ht, fun v d ρ' H' R' q => R'.elim fun col r => by
 obtain ⟨n, hn, q⟩ := bnd_of q
 have t := r.le (r.pd _ List.mem_cons_self)
 have fin := k _ _ _ _ ⟨col, (r.sub fun _ h => List.mem_cons_of_mem _ h).push (.int n)⟩ q
 cases d with
 | list ds =>
  cases hn
  obtain ⟨p, vs, rfl, _, e, t⟩ := th_lst t
  exact ⟨p, vs, rfl, .inl (SqL.of e), by rw [t.len]; exact fin⟩
 | tuple ds =>
  cases hn
  obtain ⟨p, vs, rfl, _, e, t⟩ := th_tup t
  exact ⟨p, vs, rfl, .inr (SqT.of e), by rw [t.len]; exact fin⟩
 | _ => cases hn⟩
def dIsiL (t : DE) (T : String)  (ρ : List Sl) (Q : PyData → List Sl → Prop) : Prop := t ρ fun a ρ' => Q (.bool (isiD T a)) ρ'
theorem ty_le {K : PySem.W.Frag} {F : Addr → Prop} {H : Hp} {v : V} {d : PyData} (t : ThV F H v d) : ∃ t', tyD d = some t' ∧ TyOf2 K H v (.type t') := by
 obtain ⟨t', e1, e2⟩ := ty_rd (K := K) (col := fun _ => 0) (.th (t.mv fun b o _ e => ⟨rfl, e⟩))
 exact ⟨t', e1, e2⟩
theorem pd_isiL {K : PySem.W.Frag} {T : String} (hT : TyOk K T) (h : PE X e (tCB (rIsi K) (tCons (lOf C t) (tCons (tC (.ty T)) tNil)))) : PE X e (eOf C (dIsiL t T)) := PE.wk h fun _ _ _ z => el3 z fun ρ P _ R ht k => ⟨ρ, P, _, R, ht, fun v d ρ' H' R' q => R'.elim fun col r => by
 obtain ⟨t', e1, e2⟩ := ty_le (K := K) (r.le (r.pd _ List.mem_cons_self))
 exact ⟨v, .ty T, .type T, _, _, rfl, rfl, e2, hT d t' e1, k _ _ _ _ ⟨col, (r.sub fun _ h => List.mem_cons_of_mem _ h).push (.bl _)⟩ q⟩⟩
def dIsNL (neg : Bool) (t : DE)  (ρ : List Sl) (Q : PyData → List Sl → Prop) : Prop := t ρ fun a ρ' => Q (.bool (if neg then !isN a else isN a)) ρ'
theorem pd_isNL (ho : OpR X (compareOp .Is) (fun x y H Q => y = .non ∧ Q (.bl (decide (x = .non))) H)) (ha : PE X a (lOf C t)) (hb : PE X b (tC .non)) (hm : behindInMarks .Is b = false) : PE X (.Compare a [.Is] [b] pos) (eOf C (dIsNL false t)) := PE.wk (pe_cmpR ho ha hb hm) fun _ _ _ z => el3 z fun ρ P _ R ht k => ⟨ρ, P, _, R, ht, fun v d ρ' H' R' q => R'.elim fun col r => by
 refine ⟨rfl, ?_⟩
 rw [isN_th (r.le (r.pd _ List.mem_cons_self))]
 exact k _ _ _ _ ⟨col, (r.sub fun _ h => List.mem_cons_of_mem _ h).push (.bl _)⟩ q⟩
def dListL (t : DE)  (ρ : List Sl) (Q : List PyData → List Sl → Prop) : Prop := t ρ fun d ρ' => bnd (itemsD d) fun ds => flatL ds = true ∧ Q ds ρ'
theorem pf_listL {K : PySem.W.Frag} (h : PE X e (tCB (rListOf K) (tCons (lOf C t) tNil))) : PE X e (fOf C (dListL t)) := PE.wk h fun _ _ _ z => el3 z fun ρ P _ R ht k => ⟨ρ, P, _, R, ht, fun v d ρ' H' R' q => R'.elim fun col0 r0 => by
 obtain ⟨ds, hn, hf, q2⟩ := bnd_of q
 obtain ⟨col, r, tp, _⟩ := r0.norm0
 have t := r.le (r.pd _ List.mem_cons_self)
 cases d with
 | list es =>
  cases hn
  obtain ⟨p, vs, rfl, _, e, t⟩ := th_lst t
  exact ⟨p, vs, rfl, .inl (SqL.of e), fun l hl => k _ _ _ _ _ ⟨col, r.sub fun _ h => List.mem_cons_of_mem _ h, t.flat tp hf⟩ hl q2⟩
 | tuple es =>
  cases hn
  obtain ⟨p, vs, rfl, _, e, t⟩ := th_tup t
  exact ⟨p, vs, rfl, .inr (SqT.of e), fun l hl => k _ _ _ _ _ ⟨col, r.sub fun _ h => List.mem_cons_of_mem _ h, t.flat tp hf⟩ hl q2⟩
 | _ => cases hn⟩
def dIL (t : DE)  (ρ : List Sl) (Q : List PyData → List Sl → Prop) : Prop := t ρ fun d ρ' => bnd (listD d) fun xs => flatL xs = true ∧ Q xs ρ'
theorem di_L (h : PE X e (lOf C t)) : PI X tg e (iOf C (dIL t)) := PI.wk (pi_list h) fun _ _ _ z => el3 z fun ρ P _ R ht k => ⟨ρ, P, _, R, ht, fun v d ρ' H' R' q => R'.elim fun col0 r0 => by
 obtain ⟨xs, hx, hf, q2⟩ := bnd_of q
 have := listD_eq hx
 subst this
 obtain ⟨col, r, tp, lo⟩ := r0.norm0
 obtain ⟨a, vs, rfl, n, e1, t1⟩ := th_lst (r.le (r.pd _ List.mem_cons_self))
 refine ⟨a, rfl, ⟨vs, SqL.of e1⟩, k xs ρ' (.n a (.lst vs) :: .s vs xs :: P) H' _ ⟨col, ?_⟩ (fun _ h => List.mem_cons_of_mem _ (List.mem_cons_of_mem _ h)) it_list q2⟩
 exact ((r.sub fun _ h => List.mem_cons_of_mem _ h).add (x := .s vs xs) (t1.flat tp hf)).add (x := .n a (.lst vs)) ⟨lo a n.1, n.2, e1⟩⟩
def dEnumL (t : DE)  (ρ : List Sl) (Q : List PyData → List Sl → Prop) : Prop := t ρ fun d ρ' => bnd (listD d) fun xs => flatL xs = true ∧ Q (enumD xs) ρ'
theorem di_enumL {K : PySem.W.Frag} (h : PI X tg e (iEnum K (tCons (lOf C t) tNil))) : PI X tg e (iOf C (dEnumL t)) := PI.wk h fun _ _ _ z => el3 z fun ρ P _ R ht k => ⟨ρ, P, _, R, ht, fun v d ρ' H' R' q => R'.elim fun col0 r0 => by
 obtain ⟨xs, hx, hf, q2⟩ := bnd_of q
 have := listD_eq hx
 subst this
 obtain ⟨col, r, tp, lo⟩ := r0.norm0
 obtain ⟨a, vs, rfl, n, e1, t1⟩ := th_lst (r.le (r.pd _ List.mem_cons_self))
 refine ⟨a, rfl, ⟨vs, SqL.of e1⟩, k _ ρ' (.n a (.lst vs) :: .s vs xs :: P) H' _ ⟨col, ?_⟩ (fun _ h => List.mem_cons_of_mem _ (List.mem_cons_of_mem _ h)) it_enum q2⟩
 exact ((r.sub fun _ h => List.mem_cons_of_mem _ h).add (x := .s vs xs) (t1.flat tp hf)).add (x := .n a (.lst vs)) ⟨lo a n.1, n.2, e1⟩⟩
def aW (t : DE) (u : DA)  (ρ : List Sl) (Q : List Ar → List Sl → Prop) : Prop := t ρ fun d ρ1 => u ρ1 fun as ρ2 => Q (.w d :: as) ρ2
theorem da_w (ha : PE X e (lOf C t)) (hr : PA X es (aOf C u)) (hs : starEach (e :: es) X.env = (false, eval e X.env) :: starEach es X.env := by rfl) : PA X (e :: es) (aOf C (aW t u)) := PA.wk (pa_cons ha hr hs) fun _ _ _ z => el3 z fun ρ P _ R ht k =>
 ⟨ρ, P, _, R, ht, fun _ _ ρ1 _ R1 h1 => ⟨ρ1, _, _, R1, h1, fun _ _ _ _ _ R2 s2 p2 h2 => k _ _ _ _ _ R2 (fun p hp => s2 p (List.mem_cons_of_mem _ hp)) (.w (s2 _ List.mem_cons_self) p2) h2⟩⟩
end
end My
namespace My
open PySem L2
def ownS (C : DC) (col : Addr → Nat) (i : Nat) (b : Addr) : Prop := col b = 2 * i + 3 ∧ C.H0 b = none
open Classical in
noncomputable def ldC (C : DC) (col : Addr → Nat) (H : Hp) (i : Nat) : DC := ⟨fun b => C.F b ∧ ¬ ownS C col i b, C.hand, fun b => if ownS C col i b ∨ (∃ xs, H b = some (.tup xs)) then H b else C.H0 b⟩
def noBB : List Sl → Bool
 | [] => true
 | .b2 _ :: _ => false
 | .no :: r => noBB r
 | .sh _ :: r => noBB r
 | .ow _ :: r => noBB r
 | .bo _ :: r => noBB r
 | .hd :: r => noBB r
 | .o2 _ :: r => noBB r
 | .di _ _ :: r => noBB r
 | .dm _ _ :: r => noBB r
 | .bd _ :: r => noBB r
 | .ot _ :: r => noBB r
theorem noBB_get : ∀ {ρ : List Sl} {j : Nat} {d : List (List PyData)}, noBB ρ = true → ρ[j]? = some (.b2 d) → False
 | [], _, _, _, e => by cases e
 | s :: r, 0, d, h, e => by cases e; cases h
 | s :: r, j + 1, d, h, e => by
  have e : r[j]? = some (.b2 d) := e
  cases s with
  | b2 _ => cases h
  | _ => exact noBB_get (show noBB r = true from h) e
section
variable {C : DC} {col col2 : Addr → Nat} {ρ : List Sl} {σ : L2.St} {P : List Pe} {H H2 : Hp} {i : Nat} {d : PyData}
theorem ld_in (h : ownS C col i b ∨ ∃ xs, H b = some (.tup xs)) : (ldC C col H i).H0 b = H b := if_pos h
theorem ld_out {b : Addr} (h : ¬ (ownS C col i b ∨ ∃ xs, H b = some (.tup xs))) : (ldC C col H i).H0 b = C.H0 b := if_neg h
theorem RelC.ld_at (r : RelC C col ρ σ P H) {b : Addr} {o : HO} (e : C.H0 b = some o) (n : ∀ q, C.hand = some q → b ≠ q.1) : (ldC C col H i).H0 b = some o := by
 by_cases z : ownS C col i b ∨ ∃ xs, H b = some (.tup xs)
 ·rw [ld_in z]; exact r.kq b o e n
 ·rw [ld_out z]; exact e
theorem RelC.ld_le (r : RelC C col ρ σ P H) {v : V} {x : PyData} (t : ThV (Le C) C.H0 v x) : ThV (Le (ldC C col H i)) (ldC C col H i).H0 v x := t.mv fun b o g e => ⟨⟨(by rw [r.ld_at e g.2]; exact fun q => nomatch q), g.2⟩, r.ld_at e g.2⟩
theorem RelC.notT (r : RelC C col ρ σ P H) (tp : ∀ b xs, H b = some (.tup xs) → col b = 0) {b : Addr} (h1 : col b ≠ 2 * i + 3) (h2 : col b ≠ 0) : ¬ (ownS C col i b ∨ ∃ xs, H b = some (.tup xs)) := fun z => by
 rcases z with z | ⟨xs, z⟩
 ·exact h1 z.1
 ·exact h2 (tp b xs z)
open Classical in
theorem RelC.lendT (r : RelC C col ρ σ P H) (tp : ∀ b xs, H b = some (.tup xs) → col b = 0) (ei : ρ[i]? = some (.ot d)) : RelC (ldC C col H i) (fun b => if ownS C col i b then 1 else col b) (ρ.set i (.bd d)) σ P H := by
 have cs : ∀ b, ownS C col i b → (if ownS C col i b then 1 else col b) = 1 := fun b h => if_pos h
 have cn : ∀ b, ¬ ownS C col i b → (if ownS C col i b then 1 else col b) = col b := fun b h => if_neg h
 have ns : ∀ b, col b ≠ 2 * i + 3 → ¬ ownS C col i b := fun b h z => h z.1
 have mv0 : ∀ b o, Z col b → H b = some o → Z (fun b => if ownS C col i b then 1 else col b) b ∧ H b = some o := fun b o z e => ⟨by show (if ownS C col i b then 1 else col b) = 0; rw [cn b (ns b (by rw [show col b = 0 from z]; omega))]; exact z, e⟩
 have own : ∀ b j, j ≠ i → col b = 2 * j + 3 → C.H0 b = none → (if ownS C col i b then 1 else col b) = 2 * j + 3 ∧ (ldC C col H i).H0 b = none := fun b j hj c n => ⟨by rw [cn b (ns b (by omega))]; exact c, by rw [ld_out (r.notT tp (by omega) (by omega))]; exact n⟩
 refine ⟨fun b hb => ?_, fun b hb => ?_, fun q hq => ?_, fun j s es => ?_, fun p hp => ?_, fun b o eb nb => ?_, r.hq, fun q hq => ?_, ⟨fun b hb => ?_, fun b xs hb => ?_⟩, by rw [List.length_set]; exact r.len⟩
 ·have c := r.fresh b hb
  show (if ownS C col i b then 1 else col b) = 0
  rw [cn b (ns b (by omega))]; exact c
 ·have hb : (if ownS C col i b then 1 else col b) = 0 := hb
  by_cases z : ownS C col i b
  ·rw [cs b z] at hb; cases hb
  ·rw [cn b z] at hb; exact ⟨r.inF b hb, z⟩
 ·show (if ownS C col i q.1 then 1 else col q.1) = 1
  have := r.hnd q hq
  rw [cn _ (ns _ (by omega))]; exact this
 ·by_cases hj : j = i
  ·subst hj
   rw [List.getElem?_set] at es
   simp only [if_true] at es
   split at es
   ·cases es
    obtain ⟨v, e1, t⟩ := r.sl j _ ei
    refine ⟨v, e1, t.mv fun b o g e => ?_⟩
    have T : ownS C col j b ∨ ∃ xs, H b = some (.tup xs) := g.imp id fun g => g.2
    have nh : ∀ q, C.hand = some q → b ≠ q.1 := r.notH (by rcases g with g | g <;> (have := g.1; omega))
    exact ⟨⟨(by rw [ld_in T, e]; exact fun q => nomatch q), nh⟩, by rw [ld_in T]; exact e⟩
   ·cases es
  ·rw [List.getElem?_set_ne (Ne.symm hj)] at es
   have h := r.sl j s es
   cases s with
   | no => trivial
   | sh d => obtain ⟨v, g1, t⟩ := h; exact ⟨v, g1, t.mv mv0⟩
   | ow ds => obtain ⟨b, us, g1, c, n', g2, t⟩ := h; exact ⟨b, us, g1, (own b j hj c n').1, (own b j hj c n').2, g2, t.mv mv0⟩
   | bo ds => obtain ⟨b, us, g1, c, n', g2, t⟩ := h; exact ⟨b, us, g1, by show (if ownS C col i b then 1 else col b) ≤ 1; rw [cn b (ns b (by omega))]; exact c, n', g2, t.mv mv0⟩
   | hd => exact h
   | o2 dss => obtain ⟨b, us, g1, c, g2, nd, t⟩ := h; exact ⟨b, us, g1, own b j hj c.1 c.2, g2, nd, t.mv mv0 fun b' o g e => ⟨own b' j hj g.1 g.2, e⟩⟩
   | b2 dss => obtain ⟨b, us, g1, c, g2, t⟩ := h; exact ⟨b, us, g1, ⟨by show (if ownS C col i b then 1 else col b) ≤ 1; rw [cn b (ns b (by have := c.1; omega))]; exact c.1, c.2⟩, g2, t.mv mv0 fun b' o g e => ⟨⟨by show (if ownS C col i b' then 1 else col b') ≤ 1; rw [cn b' (ns b' (by have := g.1; omega))]; exact g.1, g.2⟩, e⟩⟩
   | di f ks => obtain ⟨b, g1, c, n', g2⟩ := h; exact ⟨b, g1, (own b j hj c n').1, (own b j hj c n').2, g2⟩
   | dm f ks => obtain ⟨b, g1, c, n', g2⟩ := h; exact ⟨b, g1, (own b j hj c n').1, (own b j hj c n').2, g2⟩
   | bd d => obtain ⟨v, g1, t⟩ := h; exact ⟨v, g1, r.ld_le t⟩
   | ot d => obtain ⟨v, g1, t⟩ := h; exact ⟨v, g1, t.mv fun b o g e => ⟨g.imp (fun g => own b j hj g.1 g.2) fun g => ⟨(mv0 b o g.1 e).1, g.2⟩, e⟩⟩
 ·have h := r.pd p hp
  cases p with
  | v v d => exact ThV.mv mv0 h
  | n b o => exact ⟨by show (if ownS C col i b then 1 else col b) ≤ 1; rw [cn b (ns b (by have := h.1; omega))]; exact h.1, h.2⟩
  | s vs ds => exact ThVs.mv mv0 h
  | o c as dss => exact ⟨h.1, h.2.mv mv0 fun b' o g e => ⟨⟨by show (if ownS C col i b' then 1 else col b') = _; rw [cn b' (ns b' (by have := g.1; omega))]; exact g.1, by rw [ld_out (r.notT tp (by have := g.1; omega) (by have := g.1; omega))]; exact g.2⟩, e⟩⟩
  | w v d => exact r.ld_le h
 ·by_cases z : ownS C col i b ∨ ∃ xs, H b = some (.tup xs)
  ·rw [ld_in z] at eb; exact eb
  ·rw [ld_out z] at eb; exact r.kq b o eb nb
 ·obtain ⟨ns', p, b, c, u, v, hl, hp, ha⟩ := r.hq0 q hq
  obtain ⟨_, _, _, _, _, _, hl2, _, ha2⟩ := r.hq q hq
  have n1 : ¬ (ownS C col i q.1 ∨ ∃ xs, H q.1 = some (.tup xs)) := fun z => by
   rcases z with z | ⟨xs, z⟩
   ·have := r.hnd q hq; have := z.1; omega
   ·rw [ha2] at z; cases z
  have n2 : ¬ (ownS C col i q.2 ∨ ∃ xs, H q.2 = some (.tup xs)) := fun z => by
   rcases z with z | ⟨xs, z⟩
   ·rw [z.2] at hl; cases hl
   ·rw [hl2] at z; cases z
  exact ⟨ns', p, b, c, u, v, by rw [ld_out n2]; exact hl, hp, by rw [ld_out n1]; exact ha⟩
 ·by_cases z : ownS C col i b ∨ ∃ xs, H b = some (.tup xs)
  ·rw [ld_in z] at hb
   rcases z with z | ⟨xs, z⟩
   ·have := r.fresh b hb; have := z.1; omega
   ·rw [hb] at z; cases z
  ·rw [ld_out z] at hb
   exact ⟨r.nf.1 b hb, fun q => z (.inl q)⟩
 ·by_cases z : ownS C col i b ∨ ∃ xs, H b = some (.tup xs)
  ·rw [ld_in z] at hb
   have c := tp b xs hb
   exact ⟨r.inF b c, ns b (by omega)⟩
  ·rw [ld_out z] at hb
   exact ⟨r.nf.2 b xs hb, fun q => by rw [q.2] at hb; cases hb⟩
open Classical in
theorem RelC.backT (r : RelC C col ρ σ P H) (tp : ∀ b xs, H b = some (.tup xs) → col b = 0) (hn : noBB ρ = true) (ei : ρ[i]? = some (.ot d)) (r2 : RelC (ldC C col H i) col2 (ρ.set i (.bd d)) σ P H2) (tp2 : ∀ b xs, H2 b = some (.tup xs) → col2 b = 0) :
  RelC C (fun b => if ownS C col i b then 2 * i + 3 else col2 b) ρ σ P H2 ∧ ∀ b, col2 b = 0 → (if ownS C col i b then 2 * i + 3 else col2 b) = 0 := by
 have hi : i < ρ.length := by
  rcases Nat.lt_or_ge i ρ.length with z | z
  ·exact z
  ·rw [List.getElem?_eq_none z] at ei; cases ei
 have cs : ∀ b, ownS C col i b → (if ownS C col i b then 2 * i + 3 else col2 b) = 2 * i + 3 := fun b h => if_pos h
 have cn : ∀ b, ¬ ownS C col i b → (if ownS C col i b then 2 * i + 3 else col2 b) = col2 b := fun b h => if_neg h
 have sh : ∀ b, ownS C col i b → H b ≠ none := fun b h q => by have := r.fresh b q; have := h.1; omega
 have nhS : ∀ b, ownS C col i b → ∀ q, C.hand = some q → b ≠ q.1 := fun b h => r.notH (by have := h.1; omega)
 have keep : ∀ b o, (ownS C col i b ∨ ∃ xs, H b = some (.tup xs)) → (∀ q, C.hand = some q → b ≠ q.1) → H b = some o → H2 b = some o := fun b o z nh e => r2.kq b o (by rw [ld_in z]; exact e) nh
 have z0 : ∀ b, col2 b = 0 → (if ownS C col i b then 2 * i + 3 else col2 b) = 0 := fun b hb => by
  rw [cn b (r2.inF b hb).2]; exact hb
 have mv0 : ∀ b o, Z col2 b → H2 b = some o → Z (fun b => if ownS C col i b then 2 * i + 3 else col2 b) b ∧ H2 b = some o := fun b o z e => ⟨z0 b z, e⟩
 have new : ∀ b, (ldC C col H i).H0 b = none → ¬ ownS C col i b ∧ C.H0 b = none := fun b hb => by
  by_cases z : ownS C col i b ∨ ∃ xs, H b = some (.tup xs)
  ·rw [ld_in z] at hb
   rcases z with z | ⟨xs, z⟩
   ·exact absurd hb (sh b z)
   ·rw [hb] at z; cases z
  ·rw [ld_out z] at hb
   exact ⟨fun q => z (.inl q), hb⟩
 refine ⟨⟨fun b hb => z0 b (r2.fresh b hb), fun b hb => ?_, fun q hq => ?_, fun j s es => ?_, fun p hp => ?_, fun b o eb nb => r2.kq b o (r.ld_at eb nb) nb, r2.hq, r.hq0, r.nf, r.len⟩, z0⟩
 ·have hb : (if ownS C col i b then 2 * i + 3 else col2 b) = 0 := hb
  by_cases z : ownS C col i b
  ·rw [cs b z] at hb; omega
  ·rw [cn b z] at hb; exact (r2.inF b hb).1
 ·show (if ownS C col i q.1 then 2 * i + 3 else col2 q.1) = 1
  rw [cn _ (fun z => nhS _ z q hq rfl)]; exact r2.hnd q hq
 ·by_cases hj : j = i
  ·subst hj
   rw [ei] at es
   cases es
   obtain ⟨v, e1, t⟩ := r.sl j _ ei
   refine ⟨v, e1, t.mv fun b o g e => ?_⟩
   have T : ownS C col j b ∨ ∃ xs, H b = some (.tup xs) := g.imp id fun g => g.2
   have nh : ∀ q, C.hand = some q → b ≠ q.1 := r.notH (by rcases g with g | g <;> (have := g.1; omega))
   have e2 := keep b o T nh e
   refine ⟨g.imp (fun g => ⟨cs b g, g.2⟩) fun ⟨c, xs, z⟩ => ?_, e2⟩
   have e3 : H2 b = some (.tup xs) := by rw [e] at z; rw [e2]; exact z
   exact ⟨z0 b (tp2 b xs e3), xs, e3⟩
  ·have es2 : (ρ.set i (.bd d))[j]? = some s := by rw [List.getElem?_set_ne (Ne.symm hj)]; exact es
   have h := r2.sl j s es2
   have hr := r.sl j s es
   cases s with
   | no => trivial
   | sh d => obtain ⟨v, k1, t⟩ := h; exact ⟨v, k1, t.mv mv0⟩
   | ow ds' => obtain ⟨b, us', k1, c, n', k2, t⟩ := h; exact ⟨b, us', k1, by show (if ownS C col i b then 2 * i + 3 else col2 b) = _; rw [cn b (new b n').1]; exact c, (new b n').2, k2, t.mv mv0⟩
   | bo ds' =>
    obtain ⟨b, us', k1, c, n', k2, t⟩ := h
    obtain ⟨b', _, k1', c', _⟩ := hr
    rw [k1] at k1'
    cases k1'
    exact ⟨b, us', k1, by show (if ownS C col i b then 2 * i + 3 else col2 b) ≤ 1; rw [cn b (fun q => by have := q.1; omega)]; exact c, n', k2, t.mv mv0⟩
   | hd => exact h
   | o2 dss => obtain ⟨b, us', k1, c, k2, nd, t⟩ := h; exact ⟨b, us', k1, ⟨by show (if ownS C col i b then 2 * i + 3 else col2 b) = _; rw [cn b (new b c.2).1]; exact c.1, (new b c.2).2⟩, k2, nd, t.mv mv0 fun b' o g e => ⟨⟨by show (if ownS C col i b' then 2 * i + 3 else col2 b') = _; rw [cn b' (new b' g.2).1]; exact g.1, (new b' g.2).2⟩, e⟩⟩
   | b2 dss => exact (noBB_get hn es).elim
   | di f ks => obtain ⟨b, k1, c, n', k2⟩ := h; exact ⟨b, k1, by show (if ownS C col i b then 2 * i + 3 else col2 b) = _; rw [cn b (new b n').1]; exact c, (new b n').2, k2⟩
   | dm f ks => obtain ⟨b, k1, c, n', k2⟩ := h; exact ⟨b, k1, by show (if ownS C col i b then 2 * i + 3 else col2 b) = _; rw [cn b (new b n').1]; exact c, (new b n').2, k2⟩
   | bd d => exact hr
   | ot d => obtain ⟨v, k1, t⟩ := h; exact ⟨v, k1, t.mv fun b o g e => ⟨g.imp (fun g => ⟨by show (if ownS C col i b then 2 * i + 3 else col2 b) = _; rw [cn b (new b g.2).1]; exact g.1, (new b g.2).2⟩) fun g => ⟨z0 b g.1, g.2⟩, e⟩⟩
 ·have h := r2.pd p hp
  have hr := r.pd p hp
  cases p with
  | v v d => exact ThV.mv mv0 h
  | n b o => exact ⟨by show (if ownS C col i b then 2 * i + 3 else col2 b) ≤ 1; rw [cn b (fun q => by have := q.1; have := hr.1; omega)]; exact h.1, h.2⟩
  | s vs ds => exact ThVs.mv mv0 h
  | o c as dss => exact ⟨h.1, h.2.mv mv0 fun b' o g e => ⟨⟨by show (if ownS C col i b' then 2 * i + 3 else col2 b') = _; rw [cn b' (new b' g.2).1]; exact g.1, (new b' g.2).2⟩, e⟩⟩
  | w v d => exact hr
end
end My
namespace My
open PySem L2
section
variable {X : Cx} {C : DC} {e : Expr} {st : Stmt} {t te : DE} {u : DA} {i : Nat}
def dLendE (i : Nat) (t : DE)  (ρ : List Sl) (Q : PyData → List Sl → Prop) : Prop := match ρ[i]? with
 | some (.ot d) => noBB ρ = true ∧ t (ρ.set i (.bd d)) fun d' ρ' => ρ' = ρ.set i (.bd d) ∧ Q d' ρ
 | _ => t ρ Q
theorem pd_lendT (h : ∀ C, PE X e (eOf C t)) : PE X e (eOf C (dLendE i t)) := fun pins s σ H Q I q => by
 obtain ⟨ρ, P, Qd, ⟨col0, r0⟩, ht, k⟩ := q
 unfold dLendE at ht
 split at ht
 ·rename_i d ei
  obtain ⟨col, r, tp⟩ := r0.norm
  refine h (ldC C col H i) pins s σ H Q I ⟨ρ.set i (.bd d), P, _, ⟨_, r.lendT tp ei⟩, ht.2, fun v d' ρ' H' R' hq => ?_⟩
  obtain ⟨rfl, q⟩ := hq
  obtain ⟨colx, rx⟩ := R'
  obtain ⟨col2, r2, tp2⟩ := rx.norm
  obtain ⟨r3, z0⟩ := r.backT tp ht.1 ei (r2.sub fun _ h => List.mem_cons_of_mem _ h) tp2
  exact k v d' ρ H' ⟨_, r3.push (ThV.mv (fun b o z e => ⟨z0 b z, e⟩) (r2.pd _ List.mem_cons_self))⟩ q
 ·exact h C pins s σ H Q I ⟨ρ, P, Qd, ⟨col0, r0⟩, ht, k⟩
def flatM : List Md → List PyData → Bool
 | [], [] => true
 | .sh :: ms, d :: ds => flatD d && flatM ms ds
 | .bo :: ms, .list es :: ds => flatL es && flatM ms ds
 | .bd :: ms, _ :: ds => flatM ms ds
 | .hd :: ms, _ :: ds => flatM ms ds
 | _, _ => false
theorem ArgsR.flat {F G : Addr → Prop} {hand : Option (Addr × Addr)} {H : Hp} (ft : ∀ b xs, H b = some (.tup xs) → G b) {ms : List Md} {vs : List V} {ds : List PyData} (a : ArgsR F hand H ms vs ds) (h : flatM ms ds = true) : ArgsR G hand H ms vs ds := by
 induction a with
 | nil => exact .nil
 | @cons m v d ms vs ds x _ ih =>
  cases m with
  | sh =>
   have h : (flatD d && flatM ms ds) = true := h
   rw [Bool.and_eq_true] at h
   exact .cons (ThV.flat ft x h.1) (ih h.2)
  | bo =>
   obtain ⟨a, us, es, rfl, rfl, n, e, t⟩ := x
   have h : (flatL es && flatM ms ds) = true := h
   rw [Bool.and_eq_true] at h
   exact .cons ⟨a, us, es, rfl, rfl, n, e, t.flat ft h.1⟩ (ih h.2)
  | hd => exact .cons x (ih h)
  | b2 => cases h
  | bd => exact .cons x (ih h)
def dNewT (i : Nat) (ms : List Md) (sp : DSp) (u : DA)  (D : DEnds) (ρ : List Sl) : Prop := u ρ fun as ρ' => bnd (arsD ρ' ms as) fun ds => flatM ms ds = true ∧ sp ds fun d => D.nx (ρ'.set i (.ot d))
open Classical in
theorem ds_newT {ms : List Md} {sp : DSp} {E : XK} (h : PS X st (tAsg (tCall (spD ms sp) [] E (aOf C u)) (gName i))) : PS X st (sOf C (dNewT i ms sp u)) := PS.wk h fun D σ H z => el3 z fun ρ P Dd R ht E => ⟨ρ, P, _, R, ht, fun vs as ρ' P' H' R' s p q => R'.elim fun col r => by
 obtain ⟨ds, hds, hf, q2⟩ := bnd_of q
 rw [List.append_nil]
 obtain ⟨col, r, tp⟩ := r.norm
 refine ⟨fun b => H' b = none ∨ ∃ xs, H' b = some (.tup xs), C.hand, ds, _, ⟨fun b hb => .inl hb, fun b xs hb => .inr ⟨xs, hb⟩⟩, fun q hq z => ?_, r.hq, (ars_ok r p hds).flat (fun b xs e => .inr ⟨xs, e⟩) hf, q2, fun d v H2 q3 t2 k2 h2 => ?_⟩
 ·obtain ⟨_, _, _, _, _, _, _, _, ha⟩ := r.hq q hq
  rcases z with z | ⟨xs, z⟩
  ·rw [ha] at z; cases z
  ·rw [ha] at z; cases z
 ·let N : Addr → Prop := fun b => H' b = none ∧ H2 b ≠ none ∧ ∀ xs, H2 b ≠ some (.tup xs)
  have cs : ∀ b, N b → (if N b then 2 * i + 3 else col b) = 2 * i + 3 := fun b h => if_pos h
  have cn : ∀ b, ¬ N b → (if N b then 2 * i + 3 else col b) = col b := fun b h => if_neg h
  have no : ∀ b o, H' b = some o → ¬ N b := fun b o e z => by rw [z.1] at e; cases e
  have up : ∀ b o, col b ≠ 1 → H' b = some o → H2 b = some o := fun b o h e => k2 b o e (r.notH h)
  have r1 := r.mv k2 h2
  refine E.nx _ _ _ ⟨fun b => if N b then 2 * i + 3 else col b, RelC.chg (r.sub s) i _ (by rw [List.length_set]; exact r.len) (fun b hb => ?_) (fun b hb => ?_) (fun x hx => ?_) (fun b o c e => ⟨?_, up b o (by omega) e⟩) (fun b o c n e => ⟨?_, k2 b o e n⟩) (fun _ _ _ _ b o c e => ⟨?_, up b o (by omega) e⟩) (fun b o j hj c e => ⟨?_, up b o (by omega) e⟩) (r.kq.trans k2) h2 (fun j hj => by rw [List.getElem?_set_ne (Ne.symm hj)]) fun hl => ?_⟩ q3
  ·show (if N b then 2 * i + 3 else col b) = 0
   rw [cn b fun z => z.2.1 hb]; exact r1.fresh b hb
  ·have hb : (if N b then 2 * i + 3 else col b) = 0 := hb
   by_cases z : N b
   ·rw [cs b z] at hb; omega
   ·rw [cn b z] at hb; exact r.inF b hb
  ·show (if N x.1 then 2 * i + 3 else col x.1) = 1
   obtain ⟨o', e'⟩ := (r.hq x hx).at1
   rw [cn _ (no _ _ e')]; exact r.hnd x hx
  ·show (if N b then 2 * i + 3 else col b) = 0
   rw [cn b (no b o e)]; exact c
  ·show (if N b then 2 * i + 3 else col b) ≤ 1
   rw [cn b (no b o e)]; exact c
  ·show (if N b then 2 * i + 3 else col b) = _
   rw [cn b (no b o e)]; exact c
  ·show (if N b then 2 * i + 3 else col b) = _
   rw [cn b (no b o e)]; exact c
  ·have : (σ.set i (some v))[i]?.join = some v := by rw [List.getElem?_set, if_pos rfl, if_pos (by rw [← r.len]; exact hl)]; rfl
   rw [this]
   refine ⟨v, rfl, t2.mv fun b o g e => ⟨?_, e⟩⟩
   rcases g with g | ⟨xs, g⟩
   ·by_cases z : ∃ xs, H2 b = some (.tup xs)
    ·refine .inr ⟨?_, z⟩
     show (if N b then 2 * i + 3 else col b) = 0
     rw [cn b fun q => absurd z.choose_spec (q.2.2 _)]; exact r.fresh b g
    ·exact .inl ⟨cs b ⟨g, (by rw [e]; exact fun q => nomatch q), fun xs q => z ⟨xs, q⟩⟩, r.kq.fr r.hq g⟩
   ·have c := tp b xs g
    refine .inr ⟨?_, xs, up b _ (by omega) g⟩
    show (if N b then 2 * i + 3 else col b) = 0
    rw [cn b (no b _ g)]; exact c⟩
theorem RelC.writeT {col : Addr → Nat} {ρ : List Sl} {σ : L2.St} {P : List Pe} {H : Hp} {l : Addr} {xs ws : List V} {s : Sl} (r : RelC C col ρ σ P H) (hl : ownS C col i l) (el : H l = some (.lst xs)) (new : i < ρ.length → SlR C col (upd H l (.lst ws)) i (σ[i]?).join s) : RelC C col (ρ.set i s) σ P (upd H l (.lst ws)) := by
 have ne : ∀ x, col x ≠ 2 * i + 3 → x ≠ l := fun x hx q => hx (q ▸ hl.1)
 have up : ∀ x o, col x ≠ 2 * i + 3 → H x = some o → upd H l (.lst ws) x = some o := fun x o h e => by rw [upd_ne (ne x h)]; exact e
 refine RelC.chg r i _ r.len (fun x hx => ?_) r.inF r.hnd (fun x o c e => ⟨c, up x o (by omega) e⟩) (fun x o c _ e => ⟨c, up x o (by omega) e⟩) (fun _ _ _ _ x o c e => ⟨c, up x o (by omega) e⟩) (fun x o j hj c e => ⟨c, up x o (by omega) e⟩) (fun x o e q => ?_) (fun q hq => ?_) (fun _ _ => rfl) new
 ·by_cases q : x = l
  ·rw [q, upd_same] at hx; cases hx
  ·rw [upd_ne q] at hx; exact r.fresh x hx
 ·have z := r.kq x o e q
  have q' : x ≠ l := fun q' => by rw [q', hl.2] at e; cases e
  rw [upd_ne q']; exact z
 ·obtain ⟨o1, h1⟩ := (r.hq0 q hq).at1
  obtain ⟨o2, h2⟩ := (r.hq0 q hq).at2
  exact (r.hq q hq).wr (fun z => by rw [← z, hl.2] at h1; cases h1) (fun z => by rw [← z, hl.2] at h2; cases h2)
mutual
def skelD : PyData → PyData
 | .tuple xs => .tuple (skelL xs)
 | .list _ => .list []
 | .none => .none
 | .bool b => .bool b
 | .int i => .int i
 | .str s => .str s
 | .dict d => .dict d
def skelL : List PyData → List PyData
 | [] => []
 | d :: ds => skelD d :: skelL ds
end
mutual
theorem ThV.mut {G : Addr → Prop} {H : Hp} {l : Addr} {ws : List V} {es : List PyData} {xs : List V} (el : H l = some (.lst xs)) (hw : ∀ b o, G b → H b = some o → b ≠ l → upd H l (.lst ws) b = some o) (T : ThVs G (upd H l (.lst ws)) ws es) : ∀ {v : V} {d : PyData}, ThV G H v d → ∃ d', ThV G (upd H l (.lst ws)) v d' ∧ skelD d' = skelD d
 | _, _, .non => ⟨_, .non, rfl⟩
 | _, _, .bl b => ⟨_, .bl b, rfl⟩
 | _, _, .int i => ⟨_, .int i, rfl⟩
 | _, _, .str x => ⟨_, .str x, rfl⟩
 | _, _, .lst (a := a) n e t => by
  by_cases q : a = l
  ·subst q
   exact ⟨.list es, .lst n upd_same T, by rw [skelD, skelD]⟩
  ·obtain ⟨ds', t', _⟩ := ThVs.mut el hw T t
   exact ⟨.list ds', .lst n (by rw [upd_ne q]; exact e) t', by rw [skelD, skelD]⟩
 | _, _, .tup (a := a) n e t => by
  have q : a ≠ l := fun q => by rw [q, el] at e; cases e
  obtain ⟨ds', t', h⟩ := ThVs.mut el hw T t
  exact ⟨.tuple ds', .tup n (by rw [upd_ne q]; exact e) t', by rw [skelD, skelD, h]⟩
 | _, _, .dic (a := a) n e t => by
  have q : a ≠ l := fun q => by rw [q, el] at e; cases e; cases t
  exact ⟨_, .dic n (by rw [upd_ne q]; exact e) t, rfl⟩
theorem ThVs.mut {G : Addr → Prop} {H : Hp} {l : Addr} {ws : List V} {es : List PyData} {xs : List V} (el : H l = some (.lst xs)) (hw : ∀ b o, G b → H b = some o → b ≠ l → upd H l (.lst ws) b = some o) (T : ThVs G (upd H l (.lst ws)) ws es) : ∀ {vs : List V} {ds : List PyData}, ThVs G H vs ds → ∃ ds', ThVs G (upd H l (.lst ws)) vs ds' ∧ skelL ds' = skelL ds
 | _, _, .nil => ⟨_, .nil, rfl⟩
 | _, _, .cons x t => by
  obtain ⟨d', x', h1⟩ := ThV.mut el hw T x
  obtain ⟨ds', t', h2⟩ := ThVs.mut el hw T t
  exact ⟨_, .cons x' t', by rw [skelL, skelL, h1, h2]⟩
end
end
end My
namespace My
open PySem L2
section
variable {X : Cx} {C : DC} {e : Expr} {st : Stmt} {t te : DE} {u : DA} {i : Nat}
theorem skel_tup {d : PyData} {xs : List PyData} (h : skelD d = skelD (.tuple xs)) : ∃ ys, d = .tuple ys ∧ skelL ys = skelL xs := by
 cases d with
 | tuple ys =>
  rw [skelD, skelD] at h
  exact ⟨ys, rfl, PyData.tuple.inj h⟩
 | _ => rw [skelD, skelD] at h; cases h
theorem RelC.partT {K : PySem.W.Frag} {col : Addr → Nat} {ρ : List Sl} {σ : L2.St} {P : List Pe} {H : Hp} {xs ds : List PyData} {c : Int} (r : RelC C col ρ σ P H) (ei : ρ[i]? = some (.ot (.tuple xs))) (ha : atI xs c = some (.list ds)) : ∃ v l us, σ[i]? = some (some v) ∧ ownS C col i l ∧ H l = some (.lst us) ∧ ThVs (Ow C col H i) H us ds ∧ ∀ Q : VK, Q (.ref l) H → rIx K v (.int c) H Q := by
 obtain ⟨v, e1, t⟩ := r.sl i _ ei
 obtain ⟨a, vs, rfl, _, e2, t2⟩ := th_tup t
 obtain ⟨x, hu, tu⟩ := atI_th t2 ha
 obtain ⟨l, us, rfl, g, e3, t3⟩ := th_lst tu
 refine ⟨_, l, us, join_some e1, ?_, e3, t3, fun Q q => .inr (.inl ⟨a, vs, c, _, rfl, rfl, SqT.of e2, hu, q⟩)⟩
 rcases g with g | ⟨_, ys, g⟩
 ·exact g
 ·rw [e3] at g; cases g
theorem RelC.mutT {col : Addr → Nat} {ρ : List Sl} {σ : L2.St} {P : List Pe} {H : Hp} {xs es : List PyData} {l : Addr} {us ws : List V} {Q : List Sl → Prop} (r : RelC C col ρ σ P H) (tp : ∀ b xs, H b = some (.tup xs) → col b = 0) (ei : ρ[i]? = some (.ot (.tuple xs))) (hl : ownS C col i l) (el : H l = some (.lst us)) (tw : ThVs (Z col) H ws es) (hf : flatL es = true) (q : ∀ xs', skelL xs' = skelL xs → Q (ρ.set i (.ot (.tuple xs')))) : ∃ ρ', Q ρ' ∧ RelC C col ρ' σ P (upd H l (.lst ws)) := by
 obtain ⟨v, e1, t⟩ := r.sl i _ ei
 have up : ∀ b o, H b = some o → b ≠ l → upd H l (.lst ws) b = some o := fun b o e n => by rw [upd_ne n]; exact e
 have tu : ∀ b ys, upd H l (.lst ws) b = some (.tup ys) → H b = some (.tup ys) := fun b ys e => by
  by_cases z : b = l
  ·rw [z, upd_same] at e; cases e
  ·rw [upd_ne z] at e; exact e
 have ts : ∀ b ys, H b = some (.tup ys) → upd H l (.lst ws) b = some (.tup ys) := fun b ys e => up b _ e fun z => by rw [z, el] at e; cases e
 have T : ThVs (Ow C col (upd H l (.lst ws)) i) (upd H l (.lst ws)) ws es := by
  refine ThVs.flat (G := Z col) (fun b ys e => .inr ⟨tp b ys (tu b ys e), ys, e⟩) ?_ hf
  exact tw.mv fun b o z e => ⟨z, up b o e fun q => by rw [q] at z; have : col l = 0 := z; have := hl.1; omega⟩
 have t' : ThV (Ow C col (upd H l (.lst ws)) i) H v (.tuple xs) := t.mv fun b o g e => ⟨g.imp id fun ⟨c, ys, z⟩ => ⟨c, ys, ts b ys z⟩, e⟩
 obtain ⟨d', t2, hs⟩ := ThV.mut el (fun b o _ e n => up b o e n) T t'
 obtain ⟨ys, rfl, hs2⟩ := skel_tup hs
 exact ⟨_, q ys hs2, r.writeT hl el fun _ => ⟨v, e1, t2⟩⟩
def dMutA (i : Nat) (c : Int) (te : DE) (D : DEnds) (ρ : List Sl) : Prop := match ρ[i]? with
 | some (.ot (.tuple xs)) => noBB ρ = true ∧ match atI xs c with
  | some (.list ds) => (flatL ds = true ∧ ds.length ≤ 100000) ∧ te (ρ.set i (.bd (.tuple xs))) fun d' ρ' => ρ' = ρ.set i (.bd (.tuple xs)) ∧ flatD d' = true ∧ ∀ xs', skelL xs' = skelL xs → D.nx (ρ.set i (.ot (.tuple xs')))
  | _ => False
 | _ => False
open Classical in
def dMutN (i : Nat) (c : Int) (te : DE) (D : DEnds) (ρ : List Sl) : Prop := match ρ[i]? with
 | some (.ot (.tuple xs)) => noBB ρ = true ∧ match atI xs c with
  | some (.list ds) => ds.length ≤ 100000 ∧ te (ρ.set i (.bd (.tuple xs))) fun d' ρ' => ρ' = ρ.set i (.bd (.tuple xs)) ∧ D.nx (ρ.set i .no)
  | _ => False
 | _ => False
open Classical in
def dMutC (i : Nat) (c : Int) (D : DEnds) (ρ : List Sl) : Prop := match ρ[i]? with
 | some (.ot (.tuple xs)) => match atI xs c with
  | some (.list _) => ∀ xs', skelL xs' = skelL xs → D.nx (ρ.set i (.ot (.tuple xs')))
  | _ => False
 | _ => False
theorem ds_mutC {c : Int} {K : PySem.W.Frag} (hp : PS X st (tDrop (tBM0 K "list" rClear (tOp (rIx K) (tVar i) (tC (.int c)))))) : PS X st (sOf C (dMutC i c)) := fun pins s σ H D I q => by
 obtain ⟨ρ, P, Dd, ⟨col0, r0⟩, ht, E⟩ := q
 unfold dMutC at ht
 split at ht
 ·rename_i xs ei
  split at ht
  ·rename_i ds ha
   obtain ⟨col, r, tp⟩ := r0.norm
   obtain ⟨v, l, us, ev, hl, el, tl, ix⟩ := r.partT (K := K) ei ha
   obtain ⟨ρ', hq, r4⟩ := r.mutT tp ei hl el .nil rfl ht
   exact hp pins s σ H D I ⟨v, ev, ix _ ⟨.inl ⟨rfl, us, SqL.of el⟩, l, us, rfl, rfl, el, E.nx _ _ _ ⟨_, r4⟩ hq⟩⟩
  ·exact ht.elim
 ·exact ht.elim
end
end My
namespace L2
open PySem PySem.Spec PyProof.Rows
section
variable {X : Cx}
end
end L2
namespace My
open PySem L2
section
variable {X : Cx} {C : DC} {a b : Expr} {te : DE} {pos : Pos} {i : Nat}
def dNinD (te : DE) (i : Nat) (ρ : List Sl) (Q : PyData → List Sl → Prop) : Prop := te ρ fun d ρ1 => bnd (slotD ρ1 i) fun a => bnd (listD a) fun xs => (PyData.canLayAll0 xs = true ∧ d.canLay0 = true ∧ d.depth ≤ 60) ∧ Q (.bool (!(xs.any fun z => PyData.eqv z d))) ρ1
end
end My
namespace My
open PySem L2
section
variable {X : Cx} {C : DC} {e a b : Expr} {t : DE} {tt : DT} {i : Nat} {pos : Pos}
def dLendB (i : Nat) (tt : DT)  (ρ : List Sl) (Q : Bool → List Sl → Prop) : Prop := match ρ[i]? with
 | some (.ot d) => noBB ρ = true ∧ tt (ρ.set i (.bd d)) fun b ρ' => ρ' = ρ.set i (.bd d) ∧ Q b ρ
 | _ => tt ρ Q
theorem pdt_lendT (h : ∀ C, PT X e (cOf C tt)) : PT X e (cOf C (dLendB i tt)) := fun pins s σ H Q I q => by
 obtain ⟨ρ, P, Qd, ⟨col0, r0⟩, ht, k⟩ := q
 unfold dLendB at ht
 split at ht
 ·rename_i d ei
  obtain ⟨col, r, tp⟩ := r0.norm
  refine h (ldC C col H i) pins s σ H Q I ⟨ρ.set i (.bd d), P, _, ⟨_, r.lendT tp ei⟩, ht.2, fun b ρ' H' R' hq => ?_⟩
  obtain ⟨rfl, q⟩ := hq
  obtain ⟨colx, rx⟩ := R'
  obtain ⟨col2, r2, tp2⟩ := rx.norm
  exact k b ρ H' ⟨_, (r.backT tp ht.1 ei r2 tp2).1⟩ q
 ·exact h C pins s σ H Q I ⟨ρ, P, Qd, ⟨col0, r0⟩, ht, k⟩
theorem isNL_rd {σ : L2.St} {H : Hp} {Q : VK} (h : eOf C (dIsNL false t) σ H Q) : tOp (fun x y H Q => y = .non ∧ Q (.bl (decide (x = .non))) H) (lOf C t) (tC .non) σ H Q := el3 h fun ρ P Qd R ht k => ⟨ρ, P, _, R, ht, fun v d ρ' H' R' q => R'.elim fun col r => by
 refine ⟨rfl, ?_⟩
 rw [isN_th (r.le (r.pd _ List.mem_cons_self))]
 exact k _ _ _ _ ⟨col, (r.sub fun _ h => List.mem_cons_of_mem _ h).push (.bl _)⟩ q⟩
theorem pdt_isNL (ho : OpR X (compareOp .Is) (fun x y H Q => y = .non ∧ Q (.bl (decide (x = .non))) H)) (ha : PE X a (lOf C t)) (hb : PE X b (tC .non)) (hm : behindInMarks .Is b = false) : PT X (.Compare a [.Is] [b] pos) (cOf C (dT (dIsNL false t))) := PT.wk (pt_cmpR ho ha hb hm) fun _ _ _ h => isNL_rd (dT_rd h)
end
end My
namespace My
open PySem L2
section
variable {X : Cx} {C : DC} {e : Expr} {u : DA} {i : Nat}
def arS (ρ : List Sl) (i : Nat) (m : Md) (a : Ar) : Option PyData := match m, a with
 | .sh, .s j => if j = i then (match ρ[i]? with
  | some (.ot d) => some d
  | _ => none) else none
 | m, a => arD ρ m a
def arsS (ρ : List Sl) (i : Nat) : List Md → List Ar → Option (List PyData)
 | [], [] => some []
 | m :: ms, a :: as => (arS ρ i m a).bind fun d => (arsS ρ i ms as).map (d :: ·)
 | _, _ => none
def dCallS (i : Nat) (ms : List Md) (sp : DSp) (u : DA)  (ρ : List Sl) (Q : PyData → List Sl → Prop) : Prop := u ρ fun as ρ' => bnd (arsS ρ' i ms as) fun ds => sp ds fun d => flatD d = true ∧ Q d ρ'
end
end My
namespace My
open PySem L2
theorem units160 {k : Nat} {A : Around} (r : Room k A) : A.units + 160 < cLine := by have := r.un; lia
def lkM (kvs : List (List Int × Int)) (k : List Int) : Option Int := (kvs.find? fun p => decide (p.1 = k)).map (·.2)
def putM (kvs : List (List Int × Int)) (k : List Int) (c : Int) : List (List Int × Int) :=
 if (kvs.any fun p => decide (p.1 = k)) = true then kvs.map (fun p => if p.1 = k then (p.1, c) else p) else kvs ++ [(k, c)]
def delM (kvs : List (List Int × Int)) (k : List Int) : List (List Int × Int) := kvs.filter fun p => decide (p.1 ≠ k)
def oM : Option Int → PyData
 | none => .none
 | some c => .int c
theorem inl_dec (a k : List Int) : decide (a.map (Sum.inl : Int → Key) = k.map Sum.inl) = decide (a = k) := by
 by_cases e : a = k
 ·subst e; simp
 ·rw [decide_eq_false (fun z => e (inl_inj z)), decide_eq_false e]
theorem any_em (k : List Int) : ∀ kvs : List (List Int × Int), ((dEm kvs).any fun kv => decide (kv.1 = k.map Sum.inl)) = kvs.any fun p => decide (p.1 = k)
 | [] => rfl
 | p :: kvs => by
  have ih := any_em k kvs
  show (decide (p.1.map Sum.inl = k.map Sum.inl) || (dEm kvs).any fun kv => decide (kv.1 = k.map Sum.inl)) = _
  rw [ih, inl_dec]; rfl
theorem rep_em (k : List Int) (c : Int) : ∀ kvs : List (List Int × Int), (dEm kvs).map (fun kv => if kv.1 = k.map Sum.inl then (kv.1, V.int c) else kv) = dEm (kvs.map fun p => if p.1 = k then (p.1, c) else p)
 | [] => rfl
 | p :: kvs => by
  have ih := rep_em k c kvs
  show (if p.1.map Sum.inl = k.map Sum.inl then (p.1.map Sum.inl, V.int c) else (p.1.map Sum.inl, V.int p.2)) :: (dEm kvs).map (fun kv => if kv.1 = k.map Sum.inl then (kv.1, V.int c) else kv) = _
  rw [ih]
  show _ = ((if p.1 = k then (p.1, c) else p).1.map Sum.inl, V.int (if p.1 = k then (p.1, c) else p).2) :: dEm _
  by_cases e : p.1 = k
  ·rw [if_pos (by rw [e]), if_pos e]
  ·rw [if_neg (fun z => e (inl_inj z)), if_neg e]
theorem put_em (kvs : List (List Int × Int)) (k : List Int) (c : Int) : putK (dEm kvs) (k.map Sum.inl) (.int c) = dEm (putM kvs k c) := by
 unfold putK putM
 rw [any_em, rep_em]
 by_cases h : (kvs.any fun p => decide (p.1 = k)) = true
 ·rw [if_pos h, if_pos h]
 ·rw [if_neg h, if_neg h]
  unfold dEm
  rw [List.map_append]; rfl
theorem val_em (k : List Int) : ∀ kvs : List (List Int × Int), valV (dEm kvs) (k.map Sum.inl) = (lkM kvs k).map V.int
 | [] => rfl
 | p :: kvs => by
  have ih := val_em k kvs
  unfold valV lkM at *
  show ((((p.1.map Sum.inl, V.int p.2) : List Key × V) :: dEm kvs).find? _).map _ = _
  by_cases e : p.1 = k
  ·rw [List.find?_cons_of_pos (by rw [e]; simp), List.find?_cons_of_pos (by rw [e]; simp)]; rfl
  ·rw [List.find?_cons_of_neg (by rw [inl_dec]; simpa using e), List.find?_cons_of_neg (by simpa using e)]
   exact ih
theorem del_em (k : List Int) : ∀ kvs : List (List Int × Int), dropK (dEm kvs) (k.map Sum.inl) = dEm (delM kvs k)
 | [] => rfl
 | p :: kvs => by
  have ih := del_em k kvs
  unfold dropK delM at *
  show (((p.1.map Sum.inl, V.int p.2) : List Key × V) :: dEm kvs).filter _ = _
  by_cases e : p.1 = k
  ·rw [List.filter_cons_of_neg (by rw [e]; simp), List.filter_cons_of_neg (by rw [e]; simp)]
   exact ih
  ·rw [List.filter_cons_of_pos (p := fun kv : List Key × V => decide (kv.1 ≠ k.map Sum.inl)) (decide_eq_true (p := p.1.map Sum.inl ≠ k.map Sum.inl) (fun z => e (inl_inj z))), List.filter_cons_of_pos (p := fun q : List Int × Int => decide (q.1 ≠ k)) (decide_eq_true (p := p.1 ≠ k) e)]
   rw [ih]; rfl
theorem len_em (kvs : List (List Int × Int)) : (dEm kvs).length = kvs.length := List.length_map _
section
variable {C : DC} {col : Addr → Nat} {ρ : List Sl} {σ : St} {P : List Pe} {H H' : Hp} {p : Addr}
theorem RelC.writeM {i : Nat} {a : Addr} {ks es : List (List Int × Int)} (r : RelC C col ρ σ P H) (e : ρ[i]? = some (.dm false ks)) (ea : (σ[i]?).join = some (.ref a)) : RelC C col (ρ.set i (.dm false es)) σ P (upd H a (.dT (dEm es))) := by
 obtain ⟨a', e1, c, n, e2⟩ := r.sl i _ e
 rw [e1] at ea
 cases ea
 have ne : ∀ x, col x ≠ 2 * i + 3 → x ≠ a := fun x hx q => hx (q ▸ c)
 have up : ∀ x o, col x ≠ 2 * i + 3 → H x = some o → upd H a (.dT (dEm es)) x = some o := fun x o h e => by rw [upd_ne (ne x h)]; exact e
 refine RelC.chg r i _ r.len (fun x hx => ?_) r.inF r.hnd (fun x o c e => ⟨c, up x o (by lia) e⟩) (fun x o c _ e => ⟨c, up x o (by lia) e⟩) (fun _ _ _ _ x o c e => ⟨c, up x o (by lia) e⟩) (fun x o j hj c e => ⟨c, up x o (by lia) e⟩) (fun x o e q => ?_) (fun q hq => ?_) (fun _ _ => rfl) fun _ => ?_
 ·by_cases q : x = a
  ·rw [q, upd_same] at hx; cases hx
  ·rw [upd_ne q] at hx; exact r.fresh x hx
 ·have z := r.kq x o e q
  have q' : x ≠ a := fun q' => by rw [q', n] at e; cases e
  rw [upd_ne q']; exact z
 ·obtain ⟨ns, p, b, c', u, v, hl, hp, ha⟩ := r.hq q hq
  have e1 : q.1 ≠ a := fun z => by rw [z, show H a = _ from e2] at ha; cases ha
  have e3 : q.2 ≠ a := fun z => by rw [z, show H a = _ from e2] at hl; cases hl
  exact ⟨ns, p, b, c', u, v, by rw [upd_ne e3]; exact hl, hp, by rw [upd_ne e1]; exact ha⟩
 ·exact ⟨a, e1, c, n, upd_same⟩
end
section
variable {X : Cx} {C : DC} {st : Stmt} {e a b : Expr} {te tk : DE} {pos : Pos}
def dMNew (i : Nat) (D : DEnds) (ρ : List Sl) : Prop := D.nx (ρ.set i (.dm false []))
theorem ds_mnew {i : Nat} (hp : PS X st (tAsg tDNewT (gName i))) : PS X st (sOf C (dMNew i)) := PS.wk hp fun D σ H z => el3 z fun ρ P Dd R ht E => R.elim fun col r => fun p hp => E.nx _ _ _ (r.ownO (s := .dm false []) hp (Kq.lay hp) (r.hq.lay hp) upd_same fun col' ca _ h0 => ⟨p, rfl, ca, h0, upd_same⟩) ht
def dMPut (i : Nat) (tk te : DE) (D : DEnds) (ρ : List Sl) : Prop := te ρ fun dv ρ0 => match dv, ρ0[i]? with
 | .int c, some (.dm false _) => tk ρ0 fun d ρ1 => match ρ1[i]?, keyD d with
  | some (.dm false ks), some k => ks.length < 100000 ∧ D.nx (ρ1.set i (.dm false (putM ks k c)))
  | _, _ => False
 | _, _ => False
theorem ds_mput {i : Nat} (hp : PS X st (sDPut (tVar i) (eOf C tk) (eOf C te))) : PS X st (sOf C (dMPut i tk te)) := PS.wk hp fun D σ H z => el3 z fun ρ P Dd R ht E => ⟨ρ, P, _, R, ht, fun v dv ρ0 H0 R0 q0 => R0.elim fun col0 r0 => by
 split at q0
 ·rename_i c ks0 e0
  obtain ⟨a, e1, c1, n, e2⟩ := r0.sl i _ e0
  have tv := r0.pd (.v v (.int c)) List.mem_cons_self
  have ev : v = .int c := by cases tv; rfl
  subst ev
  refine ⟨.ref a, join_some e1, ρ0, _, _, ⟨col0, r0⟩, q0, fun v2 d ρ1 H1 R1 q => R1.elim fun col1 r1 => ?_⟩
  split at q
  ·rename_i ks k e3 e4
   obtain ⟨a', e1', c', n', e2'⟩ := r1.sl i _ e3
   have e5 := e1'
   rw [e1] at e1'
   cases e1'
   obtain ⟨b, rfl, eb⟩ := key_th (r1.pd (.v v2 d) List.mem_cons_self) e4
   have w := (r1.writeM (es := putM ks k c) e3 e5).sub (P' := P) fun _ h => List.mem_cons_of_mem _ (List.mem_cons_of_mem _ h)
   rw [← put_em] at w
   exact ⟨a, _, rfl, DPut.t e2' eb (by rw [len_em, sizeLine_eq]; lia), E.nx _ _ _ ⟨col1, w⟩ q.2⟩
  ·exact q.elim
 ·exact q0.elim⟩
def dMGet (i : Nat) (tk : DE) (ρ : List Sl) (Q : PyData → List Sl → Prop) : Prop := match ρ[i]? with
 | some (.dm false _) => tk ρ fun d ρ1 => match ρ1[i]?, keyD d with
  | some (.dm false ks), some k => bnd (lkM ks k) fun c => Q (.int c) ρ1
  | _, _ => False
 | _ => False
def dMGet1 (i : Nat) (tk : DE) (ρ : List Sl) (Q : PyData → List Sl → Prop) : Prop := match ρ[i]? with
 | some (.dm false _) => tk ρ fun d ρ1 => match ρ1[i]?, keyD d with
  | some (.dm false ks), some k => Q (oM (lkM ks k)) ρ1
  | _, _ => False
 | _ => False
theorem pd_mget1 {i : Nat} (h : PE X e (tDGet1 (tVar i) (eOf C tk))) : PE X e (eOf C (dMGet1 i tk)) := PE.wk h fun σ H Q z => el3 z fun ρ P Qd R ht k => R.elim fun col r => by
 unfold dMGet1 at ht
 split at ht
 ·rename_i ks0 e0
  obtain ⟨a, e1, c1, n, e2⟩ := r.sl i _ e0
  refine ⟨.ref a, join_some e1, a, rfl, .inr ⟨_, .inl e2⟩, ρ, P, _, ⟨col, r⟩, ht, fun v d ρ1 H1 R1 q => R1.elim fun col1 r1 => ?_⟩
  split at q
  ·rename_i ks k' e3 e4
   obtain ⟨a', e1', c', n', e2'⟩ := r1.sl i _ e3
   rw [e1] at e1'
   cases e1'
   obtain ⟨b, rfl, eb⟩ := key_th (r1.pd (.v v d) List.mem_cons_self) e4
   refine ⟨_, by have := DGet.t e2' eb; rw [val_em] at this; exact this, ?_⟩
   have r2 := r1.sub (P' := P) fun _ h => List.mem_cons_of_mem _ h
   cases hc : lkM ks k' with
   | none => rw [hc] at q; exact k _ _ _ _ ⟨col1, r2.push .non⟩ q
   | some c => rw [hc] at q; exact k _ _ _ _ ⟨col1, r2.push (.int c)⟩ q
  ·exact q.elim
 ·exact ht.elim
def dMGet2 (i : Nat) (tk te : DE) (ρ : List Sl) (Q : PyData → List Sl → Prop) : Prop := match ρ[i]? with
 | some (.dm false _) => tk ρ fun d ρ1 => match keyD d with
  | some k => te ρ1 fun dv ρ2 => match ρ2[i]?, dv with
   | some (.dm false ks), .int c => Q (.int ((lkM ks k).getD c)) ρ2
   | _, _ => False
  | _ => False
 | _ => False
theorem pd_mget2 {i : Nat} (h : PE X e (tDGet2 (tVar i) (eOf C tk) (eOf C te))) : PE X e (eOf C (dMGet2 i tk te)) := PE.wk h fun σ H Q z => el3 z fun ρ P Qd R ht k => R.elim fun col r => by
 unfold dMGet2 at ht
 split at ht
 ·rename_i ks0 e0
  obtain ⟨a, e1, c1, n, e2⟩ := r.sl i _ e0
  refine ⟨.ref a, join_some e1, a, rfl, .inr ⟨_, .inl e2⟩, ρ, P, _, ⟨col, r⟩, ht, fun v d ρ1 H1 R1 q => ?_⟩
  split at q
  ·rename_i k' e4
   refine ⟨ρ1, _, _, R1, q, fun v2 dv ρ2 H2 R2 q2 => R2.elim fun col2 r2 => ?_⟩
   split at q2
   ·rename_i ks c e3
    obtain ⟨a', e1', c', n', e2'⟩ := r2.sl i _ e3
    rw [e1] at e1'
    cases e1'
    obtain ⟨b, rfl, eb⟩ := key_th (r2.pd (.v v d) (List.mem_cons_of_mem _ List.mem_cons_self)) e4
    have tv := r2.pd (.v v2 (.int c)) List.mem_cons_self
    have ev : v2 = .int c := by cases tv; rfl
    subst ev
    refine ⟨_, by have := DGet.t e2' eb; rw [val_em] at this; exact this, ?_⟩
    have r3 := r2.sub (P' := P) fun _ h => List.mem_cons_of_mem _ (List.mem_cons_of_mem _ h)
    cases hc : lkM ks k' with
    | none => rw [hc] at q2; exact k _ _ _ _ ⟨col2, r3.push (.int c)⟩ q2
    | some c' => rw [hc] at q2; exact k _ _ _ _ ⟨col2, r3.push (.int c')⟩ q2
   ·exact q2.elim
  ·exact q.elim
 ·exact ht.elim
def dMPop (i : Nat) (tk : DE) (D : DEnds) (ρ : List Sl) : Prop := match ρ[i]? with
 | some (.dm false _) => tk ρ fun d ρ1 => match ρ1[i]?, keyD d with
  | some (.dm false ks), some k => (lkM ks k).isSome = true ∧ D.nx (ρ1.set i (.dm false (delM ks k)))
  | _, _ => False
 | _ => False
theorem ds_mpop {i : Nat} (hp : PS X st (tDrop (tDPopT (tVar i) (eOf C tk)))) : PS X st (sOf C (dMPop i tk)) := PS.wk hp fun D σ H z => el3 z fun ρ P Dd R ht E => R.elim fun col r => by
 unfold dMPop at ht
 split at ht
 ·rename_i ks0 e0
  obtain ⟨a, e1, c, n, e2⟩ := r.sl i _ e0
  refine ⟨.ref a, join_some e1, a, rfl, .inr ⟨_, .inl e2⟩, ρ, P, _, ⟨col, r⟩, ht, fun v d ρ1 H1 R1 q => R1.elim fun col1 r1 => ?_⟩
  split at q
  ·rename_i ks k e3 e4
   obtain ⟨a', e1', c', n', e2'⟩ := r1.sl i _ e3
   have e5 := e1'
   rw [e1] at e1'
   cases e1'
   obtain ⟨b, rfl, eb⟩ := key_th (r1.pd (.v v d) List.mem_cons_self) e4
   obtain ⟨c2, hc⟩ := Option.isSome_iff_exists.mp q.1
   have w := (r1.writeM (es := delM ks k) e3 e5).sub fun _ h => List.mem_cons_of_mem _ h
   rw [← del_em] at w
   exact ⟨_, _, b, .int c2, e2', rfl, eb, by rw [val_em, hc]; rfl, E.nx _ _ _ ⟨col1, w⟩ q.2⟩
  ·exact q.elim
 ·exact ht.elim
def dMIn (neg : Bool) (te : DE) (i : Nat) (ρ : List Sl) (Q : PyData → List Sl → Prop) : Prop := te ρ fun d ρ1 => match ρ1[i]?, keyD d with
 | some (.dm false ks), some k => Q (.bool (if neg then !(lkM ks k).isSome else (lkM ks k).isSome)) ρ1
 | _, _ => False
theorem mnin_rd {i : Nat} {σ : L2.St} {H : Hp} {Q : VK} (h : eOf C (dMIn true te i) σ H Q) : tDNotIn (eOf C te) (tVar i) σ H Q := el3 h fun ρ P Qd R ht k => ⟨ρ, P, _, R, ht, fun v d ρ1 H1 R1 q => R1.elim fun col1 r1 => by
 split at q
 ·rename_i ks k' e3 e4
  obtain ⟨a, e1, c, n, e2⟩ := r1.sl i _ e3
  obtain ⟨b, rfl, eb⟩ := key_th (r1.pd (.v v d) List.mem_cons_self) e4
  refine ⟨.ref a, join_some e1, a, _, rfl, DGet.t e2 eb, ?_⟩
  rw [val_em, Option.isSome_map]
  exact k _ _ _ _ ⟨col1, (r1.sub fun _ h => List.mem_cons_of_mem _ h).push (.bl _)⟩ q
 ·exact q.elim⟩
theorem pdt_mnin {i : Nat} (hu : X.A.units + 1 < cLine) (ha : PE X a (eOf C te)) (hb : PE X b (tVar i)) (hm : behindInMarks .NotIn b = false) : PT X (.Compare a [.NotIn] [b] pos) (cOf C (dT (dMIn true te i))) := PT.wk (pt_cmp (pc_dnotin hu ha hb) hm) fun _ _ _ h => mnin_rd (dT_rd h)
def dMNe (i : Nat) (ρ : List Sl) (Q : Bool → List Sl → Prop) : Prop := match ρ[i]? with
 | some (.dm false ks) => Q (!ks.isEmpty) ρ
 | _ => False
theorem pdt_mne {i : Nat} (hu : X.A.units + 64 < cLine) (ha : PE X a (tVar i)) (hb : PE X b tDNewT) (hm : behindInMarks .NotEq b = false) : PT X (.Compare a [.NotEq] [b] pos) (cOf C (dMNe i)) := PT.wk (pt_cmpR (op_neE hu) ha hb hm) fun σ H Q z => el3 z fun ρ P Qd R ht k => R.elim fun col r => by
 unfold dMNe at ht
 split at ht
 ·rename_i ks e0
  obtain ⟨a, e1, c1, n, e2⟩ := r.sl i _ e0
  refine ⟨.ref a, join_some e1, fun p hp => ⟨a, p, dEm ks, rfl, rfl, ?_, upd_same, ?_⟩⟩
  ·have e2 : H a = some (.dT (dEm ks)) := e2
   rw [upd_ne (fun z => by rw [z, hp] at e2; cases e2)]
   exact e2
  ·refine ⟨_, rfl, k _ _ _ ⟨col, r.mv (Kq.lay hp) (r.hq.lay hp)⟩ ?_⟩
   rw [show (dEm ks).isEmpty = ks.isEmpty by unfold dEm; cases ks <;> rfl]
   exact ht
 ·exact ht.elim
inductive ItM (H : Hp) : List V → List (List Int × Int) → Prop
 | nil : ItM H [] []
 | cons {t b : Addr} {k : List Int} {c : Int} {vs : List V} {ks : List (List Int × Int)} : H t = some (.tup [.int c, .ref b]) → H b = some (.tup ((k.map (Sum.inl : Int → Key)).map kV)) → ItM H vs ks → ItM H (.ref t :: vs) ((k, c) :: ks)
theorem ItM.mv {H H' : Hp} {vs : List V} {ks : List (List Int × Int)} (h : ItM H vs ks) (k : ∀ b xs, H b = some (.tup xs) → H' b = some (.tup xs)) : ItM H' vs ks := by
 induction h with
 | nil => exact .nil
 | cons a b _ ih => exact .cons (k _ _ a) (k _ _ b) ih
theorem ItM.snoc {H : Hp} {vs : List V} {ks : List (List Int × Int)} {t b : Addr} {k : List Int} {c : Int} (h : ItM H vs ks) (e1 : H t = some (.tup [.int c, .ref b])) (e2 : H b = some (.tup ((k.map (Sum.inl : Int → Key)).map kV))) : ItM H (vs ++ [.ref t]) (ks ++ [(k, c)]) := by
 induction h with
 | nil => exact .cons e1 e2 .nil
 | cons a b _ ih => exact .cons a b ih
theorem ItM.len {H : Hp} {vs : List V} {ks : List (List Int × Int)} (h : ItM H vs ks) : vs.length = ks.length := by
 induction h with
 | nil => rfl
 | cons _ _ _ ih => rw [List.length_cons, List.length_cons, ih]
def itemM (p : List Int × Int) : PyData := .tuple [.int p.2, keyT p.1]
theorem ItM.ths {F : Addr → Prop} {H : Hp} {vs : List V} {ks : List (List Int × Int)} (h : ItM H vs ks) (tp : ∀ b xs, H b = some (.tup xs) → F b) : ThVs F H vs (ks.map itemM) := by
 induction h with
 | nil => exact .nil
 | @cons t b k c vs ks e1 e2 _ ih =>
  rw [kv_inl] at e2
  exact .cons (.tup (tp t _ e1) e1 (.cons (.int c) (.cons (.tup (tp b _ e2) e2 (int_ths k)) .nil))) ih
def dMItems (i j : Nat) (ρ : List Sl) (Q : List PyData → List Sl → Prop) : Prop := match ρ[i]? with
 | some (.dm false ks) => ((ks.map (·.1)).Nodup ∧ ks.length ≤ 1000 ∧ ρ.length = j) ∧ Q (ks.map itemM) ρ
 | _ => False
theorem lk_at : ∀ {ks : List (List Int × Int)} {j : Nat} {p : List Int × Int}, (ks.map (·.1)).Nodup → ks[j]? = some p → lkM ks p.1 = some p.2
 | [], _, _, _, h => by cases h
 | q :: ks, 0, p, _, h => by
  have e : q = p := Option.some.inj h
  subst e
  unfold lkM
  rw [List.find?_cons_of_pos (by simp)]; rfl
 | q :: ks, j + 1, p, nd, h => by
  rw [List.map_cons, List.nodup_cons] at nd
  have hp : p ∈ ks := List.mem_of_getElem? (show ks[j]? = some p from h)
  have := lk_at nd.2 (show ks[j]? = some p from h)
  unfold lkM at *
  rw [List.find?_cons_of_neg (by simpa using fun e : q.1 = p.1 => nd.1 (by rw [e]; exact List.mem_map_of_mem hp))]
  exact this
theorem pf_mitems {i j : Nat} (hij : i < j) (h : PE X e (tThaw (tComp (iDictT (tVar i)) (j + 1) j (fun _ => tTrue) (fun _ => tTup (tCons (tDGet (tVar i) (tVar j)) (tCons (tVar j) tNil)))))) : PE X e (fOf C (dMItems i j)) := PE.wk h fun σ H Q z => el3 z fun ρ P Qd R ht k => R.elim fun col r => by
 unfold dMItems at ht
 split at ht
 ·rename_i ks e0
  obtain ⟨⟨nd, few, lj⟩, ht⟩ := ht
  obtain ⟨a, e1, c1, n, e2⟩ := r.sl i _ e0
  have e2 : H a = some (.dT (dEm ks)) := e2
  have hl : σ.length = j := r.len.symm.trans lj
  have ei : σ[i]? = some (some (V.ref a)) := join_some e1
  have hs : ∀ b, ((padS (j + 1) j σ).set j (some (V.ref b)))[i]? = some (some (V.ref a)) := fun b => by
   unfold padS
   rw [List.getElem?_set_ne (by lia), List.getElem?_set_ne (by lia), List.getElem?_take_of_lt (by lia), List.getElem?_append_left (by rw [hl]; exact hij), ei]
  have hj : ∀ b, ((padS (j + 1) j σ).set j (some (V.ref b)))[j]? = some (some (V.ref b)) := fun b => by
   rw [List.getElem?_set_self]
   unfold padS
   rw [List.length_set, List.length_take, List.length_append, hl]
   simp
  refine ⟨a, .dT (dEm ks), (fun _ _ z => nomatch z), e2, .ref a, join_some e1, a, dEm ks, rfl, .inl ⟨e2, fun o => ?_⟩⟩
  refine ⟨fun t m ys H' => t ≤ ks.length ∧ m + t = ks.length ∧ H' a = some (.frz o (.dT (dEm ks))) ∧ Same (upd H a (.frz o (.dT (dEm ks)))) H' ∧ ItM H' ys (ks.take t), ⟨ks.length, Nat.zero_le _, rfl, upd_same, Same.refl _, by rw [List.take_zero]; exact .nil⟩, fun t m ys H' ⟨w1, w2, w3, w4, w5⟩ => ⟨?_, ?_⟩⟩
  ·have := w5.len
   rw [List.length_take] at this
   rw [sizeLine_eq]
   lia
  ·by_cases c : t < ks.length
   ·refine .inr ⟨⟨w3, by rw [len_em]; exact c⟩, fun ys' H2 => t + 1 ≤ ks.length ∧ H2 a = some (.frz o (.dT (dEm ks))) ∧ Same (upd H a (.frz o (.dT (dEm ks)))) H2 ∧ ItM H2 ys' (ks.take (t + 1)), fun ys' H2 ⟨v1, v2, v3, v4⟩ => ⟨m - 1, by lia, v1, by lia, v2, v3, v4⟩, ?_⟩
    rintro x H2 ⟨rfl, kk, v, b, ek, rfl, eb⟩ ca
    obtain ⟨p0, hp0⟩ : ∃ p0, ks[t]? = some p0 := ⟨_, List.getElem?_eq_getElem c⟩
    have ek' : (dEm ks)[t]? = some (p0.1.map Sum.inl, V.int p0.2) := by unfold dEm; rw [List.getElem?_map, hp0]; rfl
    rw [ek'] at ek
    cases ek
    have hg : DGet H2 a (.ref b) (some (.int p0.2)) := .inr ⟨dEm ks, p0.1.map Sum.inl, b, .inr ⟨o, w3⟩, rfl, eb, by rw [val_em, lk_at nd hp0]; rfl⟩
    unfold tTrue
    dsimp only
    rw [if_pos rfl]
    refine ⟨.ref a, hs b, .ref b, hj b, a, .int p0.2, rfl, hg, .ref b, hj b, (by rw [sizeLine_eq]; show 2 ≤ 16777216; decide), fun p hp => ⟨c, ?_, w4.trans ((Same.refl _).lay hp), ?_⟩⟩
    ·rw [upd_ne (fun z => by rw [z, hp] at w3; cases w3)]; exact w3
    ·have nb : ∀ x xs, H2 x = some (.tup xs) → upd H2 p (.tup [.int p0.2, .ref b]) x = some (.tup xs) := fun x xs e => by rw [upd_ne (fun z => by rw [z, hp] at e; cases e)]; exact e
     rw [show ks.take (t + 1) = ks.take t ++ [(p0.1, p0.2)] by rw [List.take_add_one, hp0]; rfl]
     exact (w5.mv nb).snoc upd_same (nb b _ eb)
   ·refine .inl ⟨⟨w3, by rw [len_em]; lia⟩, fun p hp => ?_⟩
    have na : a ≠ p := fun z => by rw [z, hp] at w3; cases w3
    refine ⟨o, by rw [upd_ne na]; exact w3, ?_⟩
    have eq : upd (upd H' p (.lst ys)) a (.dT (dEm ks)) = upd (upd H' a (.dT (dEm ks))) p (.lst ys) := by
     funext x
     by_cases z1 : x = a
     ·rw [z1, upd_same, upd_ne na, upd_same]
     ·by_cases z2 : x = p
      ·rw [z2, upd_ne (Ne.symm na), upd_same, upd_same]
      ·rw [upd_ne z1, upd_ne z2, upd_ne z2, upd_ne z1]
    rw [eq]
    have sm : Same H (upd H' a (.dT (dEm ks))) := fun x o' e => by
     by_cases z1 : x = a
     ·rw [z1, upd_same, ← e2, ← z1]; exact e
     ·rw [upd_ne z1]
      exact w4 x o' (by rw [upd_ne z1]; exact e)
    obtain ⟨col', r', tp⟩ := (r.mv (Kq.same sm) (r.hq.same sm)).norm
    refine k p ys _ ρ _ ⟨col', r', ?_⟩ (by rw [upd_ne (Ne.symm na)]; exact hp) ht
    rw [List.take_of_length_le (by lia)] at w5
    exact (w5.mv fun x xs e => by rw [upd_ne (fun z => by rw [z, w3] at e; cases e)]; exact e).ths tp
 ·exact ht.elim
def dForget (i : Nat) (tf : DF) (ρ : List Sl) (Q : List PyData → List Sl → Prop) : Prop := tf (ρ.set i .no) Q
theorem pf_forget {i : Nat} {tf : DF} (h : PE X e (fOf C tf)) : PE X e (fOf C (dForget i tf)) := PE.wk h fun _ _ _ ⟨_, P, Qd, R, ht, k⟩ => ⟨_, P, Qd, R.forget, ht, k⟩
def gMinM (ds : List PyData) (Q : PyData → Prop) : Prop := match ds with
 | [.list xs] => ∃ ks : List (List Int × Int), xs = ks.map itemM ∧ (∀ p ∈ ks, p.1.length = 2) ∧ ks ≠ [] ∧ ∀ p ∈ ks, (∀ p' ∈ ks, p.2 ≤ p'.2) → Q (itemM p)
 | _ => False
theorem ThVs.atI {F : Addr → Prop} {H : Hp} : ∀ {vs : List V} {ds : List PyData} {i : Nat} {v : V}, ThVs F H vs ds → vs[i]? = some v → ∃ d, ds[i]? = some d ∧ ThV F H v d
 | _, _, _, _, .nil, h => by cases h
 | _, _, 0, _, .cons x _, h => by cases h; exact ⟨_, rfl, x⟩
 | _, _, i + 1, _, .cons _ t, h => ThVs.atI (i := i) t h
theorem ThVs.lenD {F : Addr → Prop} {H : Hp} : ∀ {vs : List V} {ds : List PyData}, ThVs F H vs ds → vs.length = ds.length
 | _, _, .nil => rfl
 | _, _, .cons _ t => by rw [List.length_cons, List.length_cons, ThVs.lenD t]
theorem cb_minM {K : PySem.W.Frag} : CbOk C (rMinJ K) gMinM := by
 intro ρ σ P col H vs ds Qd Q r t g k
 unfold gMinM at g
 split at g
 ·obtain ⟨ks, rfl, h2, hne, g⟩ := g
  obtain ⟨v, rfl, t1⟩ := ths1 t
  cases t1 with
  | @lst a0 xs _ _ e t2 =>
   have len : xs.length = ks.length := by have := t2.lenD; rw [List.length_map] at this; exact this
   refine ⟨_, _, fun i => ((ks[i]?).map (·.2)).getD 0, rfl, SqL.of e, fun z => hne ?_, fun i v hv => ?_, fun i v hv hm => ?_⟩
   ·rw [z] at len
    exact List.eq_nil_of_length_eq_zero len.symm
   ·obtain ⟨d, hd, td⟩ := t2.atI hv
    rw [List.getElem?_map] at hd
    cases hp : ks[i]? with
    | none => rw [hp] at hd; cases hd
    | some p =>
     rw [hp] at hd
     cases hd
     have l2 := h2 p (List.mem_of_getElem? hp)
     obtain ⟨kk, c⟩ := p
     match kk, l2 with
     | [x, y], _ =>
      cases td with
      | tup _ e2 t3 =>
       obtain ⟨u1, u2, rfl, a1, a2⟩ := ths2 t3
       cases a1
       cases a2 with
       | tup _ e3 t4 =>
        obtain ⟨w1, w2, rfl, b1, b2⟩ := ths2 t4
        cases b1
        cases b2
        refine ⟨_, _, x, y, rfl, ?_, SqT.of e3⟩
        dsimp only
        rw [hp]
        exact SqT.of e2
   ·obtain ⟨d, hd, td⟩ := t2.atI hv
    rw [List.getElem?_map] at hd
    cases hp : ks[i]? with
    | none => rw [hp] at hd; cases hd
    | some p =>
     rw [hp] at hd
     cases hd
     refine k _ _ _ ⟨col, r.push td⟩ (g p (List.mem_of_getElem? hp) fun p' hp' => ?_)
     obtain ⟨i', hi', e'⟩ := List.mem_iff_getElem.mp hp'
     have := hm i' (by rw [len]; exact hi')
     dsimp only at this
     rw [hp, List.getElem?_eq_getElem hi', e'] at this
     exact this
 ·exact g.elim
end
section
variable {X : Cx} {C : DC} {st : Stmt}
end
end My
namespace My
open PySem L2
section
variable {X : Cx} {C : DC} {st : Stmt} {i j : Nat}
def dClrT (i : Nat) (D : DEnds) (ρ : List Sl) : Prop := match ρ[i]? with
 | some (.ot (.list _)) => D.nx (ρ.set i (.ot (.list [])))
 | _ => False
def dForClr (i j : Nat) (D : DEnds) (ρ : List Sl) : Prop := match ρ[i]? with
 | some (.ot (.list ds)) => (i ≠ j ∧ j < ρ.length) ∧ (∀ d ∈ ds, ∃ es, d = .list es) ∧ D.nx ((ρ.set j .no).set i (.ot (.list (ds.map fun _ => .list []))))
 | _ => False
end
end My
namespace My
open PySem L2
theorem us_c {us : List Value} {n : Nat} (h : us.length = n + 1) : ∃ a r, us = a :: r ∧ r.length = n := by
 cases us with
 | nil => cases h
 | cons a r => exact ⟨a, r, rfl, Nat.succ.inj h⟩
theorem usl0 {us : List Value} (h : us.length = 0) : us = [] := by
 cases List.eq_nil_of_length_eq_zero h
 exact rfl
theorem usl1 {us : List Value} (h : us.length = 1) : ∃ a0, us = [a0] := by
 obtain ⟨a0, u0, rfl, h0⟩ := us_c h
 cases List.eq_nil_of_length_eq_zero h0
 exact ⟨a0, rfl⟩
theorem usl2 {us : List Value} (h : us.length = 2) : ∃ a0 a1, us = [a0, a1] := by
 obtain ⟨a0, u0, rfl, h0⟩ := us_c h
 obtain ⟨a1, u1, rfl, h1⟩ := us_c h0
 cases List.eq_nil_of_length_eq_zero h1
 exact ⟨a0, a1, rfl⟩
theorem usl3 {us : List Value} (h : us.length = 3) : ∃ a0 a1 a2, us = [a0, a1, a2] := by
 obtain ⟨a0, u0, rfl, h0⟩ := us_c h
 obtain ⟨a1, u1, rfl, h1⟩ := us_c h0
 obtain ⟨a2, u2, rfl, h2⟩ := us_c h1
 cases List.eq_nil_of_length_eq_zero h2
 exact ⟨a0, a1, a2, rfl⟩
theorem usl4 {us : List Value} (h : us.length = 4) : ∃ a0 a1 a2 a3, us = [a0, a1, a2, a3] := by
 obtain ⟨a0, u0, rfl, h0⟩ := us_c h
 obtain ⟨a1, u1, rfl, h1⟩ := us_c h0
 obtain ⟨a2, u2, rfl, h2⟩ := us_c h1
 obtain ⟨a3, u3, rfl, h3⟩ := us_c h2
 cases List.eq_nil_of_length_eq_zero h3
 exact ⟨a0, a1, a2, a3, rfl⟩
theorem usl5 {us : List Value} (h : us.length = 5) : ∃ a0 a1 a2 a3 a4, us = [a0, a1, a2, a3, a4] := by
 obtain ⟨a0, u0, rfl, h0⟩ := us_c h
 obtain ⟨a1, u1, rfl, h1⟩ := us_c h0
 obtain ⟨a2, u2, rfl, h2⟩ := us_c h1
 obtain ⟨a3, u3, rfl, h3⟩ := us_c h2
 obtain ⟨a4, u4, rfl, h4⟩ := us_c h3
 cases List.eq_nil_of_length_eq_zero h4
 exact ⟨a0, a1, a2, a3, a4, rfl⟩
theorem usl6 {us : List Value} (h : us.length = 6) : ∃ a0 a1 a2 a3 a4 a5, us = [a0, a1, a2, a3, a4, a5] := by
 obtain ⟨a0, u0, rfl, h0⟩ := us_c h
 obtain ⟨a1, u1, rfl, h1⟩ := us_c h0
 obtain ⟨a2, u2, rfl, h2⟩ := us_c h1
 obtain ⟨a3, u3, rfl, h3⟩ := us_c h2
 obtain ⟨a4, u4, rfl, h4⟩ := us_c h3
 obtain ⟨a5, u5, rfl, h5⟩ := us_c h4
 cases List.eq_nil_of_length_eq_zero h5
 exact ⟨a0, a1, a2, a3, a4, a5, rfl⟩
theorem usl7 {us : List Value} (h : us.length = 7) : ∃ a0 a1 a2 a3 a4 a5 a6, us = [a0, a1, a2, a3, a4, a5, a6] := by
 obtain ⟨a0, u0, rfl, h0⟩ := us_c h
 obtain ⟨a1, u1, rfl, h1⟩ := us_c h0
 obtain ⟨a2, u2, rfl, h2⟩ := us_c h1
 obtain ⟨a3, u3, rfl, h3⟩ := us_c h2
 obtain ⟨a4, u4, rfl, h4⟩ := us_c h3
 obtain ⟨a5, u5, rfl, h5⟩ := us_c h4
 obtain ⟨a6, u6, rfl, h6⟩ := us_c h5
 cases List.eq_nil_of_length_eq_zero h6
 exact ⟨a0, a1, a2, a3, a4, a5, a6, rfl⟩
theorem usl8 {us : List Value} (h : us.length = 8) : ∃ a0 a1 a2 a3 a4 a5 a6 a7, us = [a0, a1, a2, a3, a4, a5, a6, a7] := by
 obtain ⟨a0, u0, rfl, h0⟩ := us_c h
 obtain ⟨a1, u1, rfl, h1⟩ := us_c h0
 obtain ⟨a2, u2, rfl, h2⟩ := us_c h1
 obtain ⟨a3, u3, rfl, h3⟩ := us_c h2
 obtain ⟨a4, u4, rfl, h4⟩ := us_c h3
 obtain ⟨a5, u5, rfl, h5⟩ := us_c h4
 obtain ⟨a6, u6, rfl, h6⟩ := us_c h5
 obtain ⟨a7, u7, rfl, h7⟩ := us_c h6
 cases List.eq_nil_of_length_eq_zero h7
 exact ⟨a0, a1, a2, a3, a4, a5, a6, a7, rfl⟩
def top (i : Nat) : Stmt := PySem.Challenge.pw_trudge_k73_cheapest_paid.main.body.getD i (.Pass ⟨0, 0, 0, 0⟩)
abbrev s_is_whole : Stmt := top 4
abbrev s_stepped : Stmt := top 5
abbrev s_is_place : Stmt := top 12
abbrev s_is_within : Stmt := top 14
abbrev s_moves_by_way : Stmt := top 24
abbrev s_moves_by_price : Stmt := top 25
abbrev s_all_moves : Stmt := top 26
abbrev s_cost_at : Stmt := top 27
abbrev s_cost_by : Stmt := top 28
abbrev s_costs_at_goal : Stmt := top 29
abbrev s_settled_costs : Stmt := top 30
abbrev s_behind_walking : Stmt := top 33
abbrev s_behind_buying : Stmt := top 34
abbrev s_behind_step : Stmt := top 35
abbrev s_paid : Stmt := top 36
abbrev s_with_step : Stmt := top 37
abbrev s_plan_by : Stmt := top 38
abbrev s_cheapest : Stmt := top 39
abbrev s_hand : Stmt := top 41
abbrev s_next : Stmt := top 42
abbrev s_take : Stmt := top 43
abbrev s_draw : Stmt := top 44
abbrev s_change : Stmt := top 45
abbrev s_land : Stmt := top 46
abbrev s_step : Stmt := top 47
abbrev s_law_is_whole : Stmt := top 48
abbrev s_prices : Stmt := top 49
abbrev s_market : Stmt := top 50
abbrev s_costs : Stmt := top 51
abbrev s_law_paid : Stmt := top 52
abbrev s_is_plan : Stmt := top 53
abbrev s_right : Stmt := top 54
abbrev s_law : Stmt := top 55
set_option genInjectivity false in
set_option genSizeOf false in
structure Txt (K : PySem.W.Frag) (mg : Str → Option Value) where
 n_abs : mg "abs" = none
 n_bool : mg "bool" = none
 n_enumerate : mg "enumerate" = none
 n_int : mg "int" = none
 n_isinstance : mg "isinstance" = none
 n_len : mg "len" = none
 n_list : mg "list" = none
 n_min : mg "min" = none
 n_range : mg "range" = none
 n_tuple : mg "tuple" = none
 t_MANY : Tok
 mg_MANY : mg "MANY" = some (.int 0 t_MANY)
 t_WAYS : Tok
 mg_WAYS : mg "WAYS" = some (.int 1 t_WAYS)
 t_START : Tok
 mg_START : mg "START" = some (.int 0 t_START)
 t_END : Tok
 mg_END : mg "END" = some (.int 1 t_END)
 t_CHANGE : Tok
 mg_CHANGE : mg "CHANGE" = some (.int 2 t_CHANGE)
 t_PLACE : Tok
 mg_PLACE : mg "PLACE" = some (.int 0 t_PLACE)
 t_LEVEL : Tok
 mg_LEVEL : mg "LEVEL" = some (.int 1 t_LEVEL)
 t_STEP : Tok
 mg_STEP : mg "STEP" = some (.int 0 t_STEP)
 t_AHEAD : Tok
 mg_AHEAD : mg "AHEAD" = some (.int 1 t_AHEAD)
 t_BEHIND : Tok
 mg_BEHIND : mg "BEHIND" = some (.int 2 t_BEHIND)
 t_COST : Tok
 mg_COST : mg "COST" = some (.int 3 t_COST)
 t_PAID : Tok
 mg_PAID : mg "PAID" = some (.int 2 t_PAID)
 t_WAY : Tok
 mg_WAY : mg "WAY" = some (.str "way" t_WAY)
 t_BUY : Tok
 mg_BUY : mg "BUY" = some (.str "buy" t_BUY)
 a_is_whole : Addr
 d_is_whole : FuncData
 F_is_whole : Fun K "is_whole" "is_whole" s_is_whole a_is_whole d_is_whole
 mg_is_whole : mg "is_whole" = some (.ref a_is_whole)
 kp_is_whole : PySem.W.keepIn K (.ref a_is_whole) = true
 a_stepped : Addr
 d_stepped : FuncData
 F_stepped : Fun K "stepped" "stepped" s_stepped a_stepped d_stepped
 mg_stepped : mg "stepped" = some (.ref a_stepped)
 kp_stepped : PySem.W.keepIn K (.ref a_stepped) = true
 a_is_place : Addr
 d_is_place : FuncData
 F_is_place : Fun K "is_place" "is_place" s_is_place a_is_place d_is_place
 mg_is_place : mg "is_place" = some (.ref a_is_place)
 kp_is_place : PySem.W.keepIn K (.ref a_is_place) = true
 a_is_within : Addr
 d_is_within : FuncData
 F_is_within : Fun K "is_within" "is_within" s_is_within a_is_within d_is_within
 mg_is_within : mg "is_within" = some (.ref a_is_within)
 kp_is_within : PySem.W.keepIn K (.ref a_is_within) = true
 a_moves_by_way : Addr
 d_moves_by_way : FuncData
 F_moves_by_way : Fun K "moves_by_way" "moves_by_way" s_moves_by_way a_moves_by_way d_moves_by_way
 mg_moves_by_way : mg "moves_by_way" = some (.ref a_moves_by_way)
 kp_moves_by_way : PySem.W.keepIn K (.ref a_moves_by_way) = true
 a_moves_by_price : Addr
 d_moves_by_price : FuncData
 F_moves_by_price : Fun K "moves_by_price" "moves_by_price" s_moves_by_price a_moves_by_price d_moves_by_price
 mg_moves_by_price : mg "moves_by_price" = some (.ref a_moves_by_price)
 kp_moves_by_price : PySem.W.keepIn K (.ref a_moves_by_price) = true
 a_all_moves : Addr
 d_all_moves : FuncData
 F_all_moves : Fun K "all_moves" "all_moves" s_all_moves a_all_moves d_all_moves
 mg_all_moves : mg "all_moves" = some (.ref a_all_moves)
 kp_all_moves : PySem.W.keepIn K (.ref a_all_moves) = true
 a_cost_at : Addr
 d_cost_at : FuncData
 F_cost_at : Fun K "cost_at" "cost_at" s_cost_at a_cost_at d_cost_at
 mg_cost_at : mg "cost_at" = some (.ref a_cost_at)
 kp_cost_at : PySem.W.keepIn K (.ref a_cost_at) = true
 a_cost_by : Addr
 d_cost_by : FuncData
 F_cost_by : Fun K "cost_by" "cost_by" s_cost_by a_cost_by d_cost_by
 mg_cost_by : mg "cost_by" = some (.ref a_cost_by)
 kp_cost_by : PySem.W.keepIn K (.ref a_cost_by) = true
 a_costs_at_goal : Addr
 d_costs_at_goal : FuncData
 F_costs_at_goal : Fun K "costs_at_goal" "costs_at_goal" s_costs_at_goal a_costs_at_goal d_costs_at_goal
 mg_costs_at_goal : mg "costs_at_goal" = some (.ref a_costs_at_goal)
 kp_costs_at_goal : PySem.W.keepIn K (.ref a_costs_at_goal) = true
 a_settled_costs : Addr
 d_settled_costs : FuncData
 F_settled_costs : Fun K "settled_costs" "settled_costs" s_settled_costs a_settled_costs d_settled_costs
 mg_settled_costs : mg "settled_costs" = some (.ref a_settled_costs)
 kp_settled_costs : PySem.W.keepIn K (.ref a_settled_costs) = true
 a_behind_walking : Addr
 d_behind_walking : FuncData
 F_behind_walking : Fun K "behind_walking" "behind_walking" s_behind_walking a_behind_walking d_behind_walking
 mg_behind_walking : mg "behind_walking" = some (.ref a_behind_walking)
 kp_behind_walking : PySem.W.keepIn K (.ref a_behind_walking) = true
 a_behind_buying : Addr
 d_behind_buying : FuncData
 F_behind_buying : Fun K "behind_buying" "behind_buying" s_behind_buying a_behind_buying d_behind_buying
 mg_behind_buying : mg "behind_buying" = some (.ref a_behind_buying)
 kp_behind_buying : PySem.W.keepIn K (.ref a_behind_buying) = true
 a_behind_step : Addr
 d_behind_step : FuncData
 F_behind_step : Fun K "behind_step" "behind_step" s_behind_step a_behind_step d_behind_step
 mg_behind_step : mg "behind_step" = some (.ref a_behind_step)
 kp_behind_step : PySem.W.keepIn K (.ref a_behind_step) = true
 a_paid : Addr
 d_paid : FuncData
 F_paid : Fun K "paid" "paid" s_paid a_paid d_paid
 mg_paid : mg "paid" = some (.ref a_paid)
 kp_paid : PySem.W.keepIn K (.ref a_paid) = true
 a_with_step : Addr
 d_with_step : FuncData
 F_with_step : Fun K "with_step" "with_step" s_with_step a_with_step d_with_step
 mg_with_step : mg "with_step" = some (.ref a_with_step)
 kp_with_step : PySem.W.keepIn K (.ref a_with_step) = true
 a_plan_by : Addr
 d_plan_by : FuncData
 F_plan_by : Fun K "plan_by" "plan_by" s_plan_by a_plan_by d_plan_by
 mg_plan_by : mg "plan_by" = some (.ref a_plan_by)
 kp_plan_by : PySem.W.keepIn K (.ref a_plan_by) = true
 a_cheapest : Addr
 d_cheapest : FuncData
 F_cheapest : Fun K "cheapest" "cheapest" s_cheapest a_cheapest d_cheapest
 mg_cheapest : mg "cheapest" = some (.ref a_cheapest)
 kp_cheapest : PySem.W.keepIn K (.ref a_cheapest) = true
 a_hand : Addr
 d_hand : FuncData
 F_hand : Fun K "_law_hand" "_law_hand" s_hand a_hand d_hand
 mg_hand : mg "_law_hand" = some (.ref a_hand)
 kp_hand : PySem.W.keepIn K (.ref a_hand) = true
 a_next : Addr
 d_next : FuncData
 F_next : Fun K "_law_next" "_law_next" s_next a_next d_next
 mg_next : mg "_law_next" = some (.ref a_next)
 kp_next : PySem.W.keepIn K (.ref a_next) = true
 a_take : Addr
 d_take : FuncData
 F_take : Fun K "_law_take" "_law_take" s_take a_take d_take
 mg_take : mg "_law_take" = some (.ref a_take)
 kp_take : PySem.W.keepIn K (.ref a_take) = true
 a_draw : Addr
 d_draw : FuncData
 F_draw : Fun K "_law_draw" "_law_draw" s_draw a_draw d_draw
 mg_draw : mg "_law_draw" = some (.ref a_draw)
 kp_draw : PySem.W.keepIn K (.ref a_draw) = true
 a_change : Addr
 d_change : FuncData
 F_change : Fun K "_law_change" "_law_change" s_change a_change d_change
 mg_change : mg "_law_change" = some (.ref a_change)
 kp_change : PySem.W.keepIn K (.ref a_change) = true
 a_land : Addr
 d_land : FuncData
 F_land : Fun K "_law_land" "_law_land" s_land a_land d_land
 mg_land : mg "_law_land" = some (.ref a_land)
 kp_land : PySem.W.keepIn K (.ref a_land) = true
 a_step : Addr
 d_step : FuncData
 F_step : Fun K "_law_step" "_law_step" s_step a_step d_step
 mg_step : mg "_law_step" = some (.ref a_step)
 kp_step : PySem.W.keepIn K (.ref a_step) = true
 a_law_is_whole : Addr
 d_law_is_whole : FuncData
 F_law_is_whole : Fun K "_law_is_whole" "_law_is_whole" s_law_is_whole a_law_is_whole d_law_is_whole
 mg_law_is_whole : mg "_law_is_whole" = some (.ref a_law_is_whole)
 kp_law_is_whole : PySem.W.keepIn K (.ref a_law_is_whole) = true
 a_prices : Addr
 d_prices : FuncData
 F_prices : Fun K "_law_prices" "_law_prices" s_prices a_prices d_prices
 mg_prices : mg "_law_prices" = some (.ref a_prices)
 kp_prices : PySem.W.keepIn K (.ref a_prices) = true
 a_market : Addr
 d_market : FuncData
 F_market : Fun K "_law_market" "_law_market" s_market a_market d_market
 mg_market : mg "_law_market" = some (.ref a_market)
 kp_market : PySem.W.keepIn K (.ref a_market) = true
 a_costs : Addr
 d_costs : FuncData
 F_costs : Fun K "_law_costs" "_law_costs" s_costs a_costs d_costs
 mg_costs : mg "_law_costs" = some (.ref a_costs)
 kp_costs : PySem.W.keepIn K (.ref a_costs) = true
 a_law_paid : Addr
 d_law_paid : FuncData
 F_law_paid : Fun K "_law_paid" "_law_paid" s_law_paid a_law_paid d_law_paid
 mg_law_paid : mg "_law_paid" = some (.ref a_law_paid)
 kp_law_paid : PySem.W.keepIn K (.ref a_law_paid) = true
 a_is_plan : Addr
 d_is_plan : FuncData
 F_is_plan : Fun K "_law_is_plan" "_law_is_plan" s_is_plan a_is_plan d_is_plan
 mg_is_plan : mg "_law_is_plan" = some (.ref a_is_plan)
 kp_is_plan : PySem.W.keepIn K (.ref a_is_plan) = true
 a_right : Addr
 d_right : FuncData
 F_right : Fun K "_law_right" "_law_right" s_right a_right d_right
 mg_right : mg "_law_right" = some (.ref a_right)
 kp_right : PySem.W.keepIn K (.ref a_right) = true
 a_law : Addr
 d_law : FuncData
 F_law : Fun K "law" "law" s_law a_law d_law
 mg_law : mg "law" = some (.ref a_law)
 kp_law : PySem.W.keepIn K (.ref a_law) = true
theorem sc_is_whole : FnScope ["thing"] ["thing"] (defScope s_is_whole) := ⟨rfl, rfl, rfl, by decide +kernel, rfl, by decide +kernel, by decide +kernel⟩
theorem sc_stepped : FnScope ["store", "level", "change", "behind"] ["store", "level", "change"] (defScope s_stepped) := ⟨rfl, rfl, rfl, by decide +kernel, rfl, by decide +kernel, by decide +kernel⟩
theorem sc_is_place : FnScope ["many", "thing"] ["many", "thing"] (defScope s_is_place) := ⟨rfl, rfl, rfl, by decide +kernel, rfl, by decide +kernel, by decide +kernel⟩
theorem sc_is_within : FnScope ["level", "bound"] ["level", "bound"] (defScope s_is_within) := ⟨rfl, rfl, rfl, by decide +kernel, rfl, by decide +kernel, by decide +kernel⟩
theorem sc_moves_by_way : FnScope ["store", "number", "way", "behind"] ["store", "number", "way"] (defScope s_moves_by_way) := ⟨rfl, rfl, rfl, by decide +kernel, rfl, by decide +kernel, by decide +kernel⟩
theorem sc_moves_by_price : FnScope ["store", "place", "price"] ["store", "place", "price"] (defScope s_moves_by_price) := ⟨rfl, rfl, rfl, by decide +kernel, rfl, by decide +kernel, by decide +kernel⟩
theorem sc_all_moves : FnScope ["land", "store", "prices", "moves", "number", "way", "place", "price"] ["land", "store", "prices"] (defScope s_all_moves) := ⟨rfl, rfl, rfl, by decide +kernel, rfl, by decide +kernel, by decide +kernel⟩
theorem sc_cost_at : FnScope ["costs", "spot"] ["costs", "spot"] (defScope s_cost_at) := ⟨rfl, rfl, rfl, by decide +kernel, rfl, by decide +kernel, by decide +kernel⟩
theorem sc_cost_by : FnScope ["costs", "move", "behind"] ["costs", "move"] (defScope s_cost_by) := ⟨rfl, rfl, rfl, by decide +kernel, rfl, by decide +kernel, by decide +kernel⟩
theorem sc_costs_at_goal : FnScope ["land", "store", "goal", "costs", "level"] ["land", "store", "goal"] (defScope s_costs_at_goal) := ⟨rfl, rfl, rfl, by decide +kernel, rfl, by decide +kernel, by decide +kernel⟩
theorem sc_settled_costs : FnScope ["land", "store", "prices", "goal", "costs", "ons", "moves", "falls", "move"] ["land", "store", "prices", "goal"] (defScope s_settled_costs) := ⟨rfl, rfl, rfl, by decide +kernel, rfl, by decide +kernel, by decide +kernel⟩
theorem sc_behind_walking : FnScope ["land", "store", "had", "number", "way", "level"] ["land", "store", "had", "number"] (defScope s_behind_walking) := ⟨rfl, rfl, rfl, by decide +kernel, rfl, by decide +kernel, by decide +kernel⟩
theorem sc_behind_buying : FnScope ["store", "prices", "had", "many", "price"] ["store", "prices", "had", "many"] (defScope s_behind_buying) := ⟨rfl, rfl, rfl, by decide +kernel, rfl, by decide +kernel, by decide +kernel⟩
theorem sc_behind_step : FnScope ["land", "store", "prices", "had", "step"] ["land", "store", "prices", "had", "step"] (defScope s_behind_step) := ⟨rfl, rfl, rfl, by decide +kernel, rfl, by decide +kernel, by decide +kernel⟩
theorem sc_paid : FnScope ["land", "store", "prices", "begin", "plan", "had", "at", "step"] ["land", "store", "prices", "begin", "plan"] (defScope s_paid) := ⟨rfl, rfl, rfl, by decide +kernel, rfl, by decide +kernel, by decide +kernel⟩
theorem sc_with_step : FnScope ["plan", "step"] ["plan", "step"] (defScope s_with_step) := ⟨rfl, rfl, rfl, by decide +kernel, rfl, by decide +kernel, by decide +kernel⟩
theorem sc_plan_by : FnScope ["ons", "begin", "plan", "move"] ["ons", "begin"] (defScope s_plan_by) := ⟨rfl, rfl, rfl, by decide +kernel, rfl, by decide +kernel, by decide +kernel⟩
theorem sc_cheapest : FnScope ["land", "store", "prices", "begin", "goal", "found", "cost"] ["land", "store", "prices", "begin", "goal"] (defScope s_cheapest) := ⟨rfl, rfl, rfl, by decide +kernel, rfl, by decide +kernel, by decide +kernel⟩
theorem sc_hand : FnScope ["_law_script"] ["_law_script"] (defScope s_hand) := ⟨rfl, rfl, rfl, by decide +kernel, rfl, by decide +kernel, by decide +kernel⟩
theorem sc_next : FnScope ["_law_hand_here"] ["_law_hand_here"] (defScope s_next) := ⟨rfl, rfl, rfl, by decide +kernel, rfl, by decide +kernel, by decide +kernel⟩
theorem sc_take : FnScope ["_law_hand_here", "_law_cell"] ["_law_hand_here"] (defScope s_take) := ⟨rfl, rfl, rfl, by decide +kernel, rfl, by decide +kernel, by decide +kernel⟩
theorem sc_draw : FnScope ["_law_hand_here", "_law_many", "_law_got", "_law_value", "_law_size"] ["_law_hand_here", "_law_many"] (defScope s_draw) := ⟨rfl, rfl, rfl, by decide +kernel, rfl, by decide +kernel, by decide +kernel⟩
theorem sc_change : FnScope ["_law_hand_here", "_law_scale"] ["_law_hand_here", "_law_scale"] (defScope s_change) := ⟨rfl, rfl, rfl, by decide +kernel, rfl, by decide +kernel, by decide +kernel⟩
theorem sc_land : FnScope ["_law_hand_here", "_law_places", "_law_ways", "_law_scale", "_law_many", "_law_rows", "_law_k", "_law_start", "_law_end"] ["_law_hand_here", "_law_places", "_law_ways", "_law_scale"] (defScope s_land) := ⟨rfl, rfl, rfl, by decide +kernel, rfl, by decide +kernel, by decide +kernel⟩
theorem sc_step : FnScope ["_law_store", "_law_level", "_law_change_here"] ["_law_store", "_law_level", "_law_change_here"] (defScope s_step) := ⟨rfl, rfl, rfl, by decide +kernel, rfl, by decide +kernel, by decide +kernel⟩
theorem sc_law_is_whole : FnScope ["_law_thing"] ["_law_thing"] (defScope s_law_is_whole) := ⟨rfl, rfl, rfl, by decide +kernel, rfl, by decide +kernel, by decide +kernel⟩
theorem sc_prices : FnScope ["_law_hand_here", "_law_many", "_law_top", "_law_rare", "_law_row", "_law_k", "_law_price"] ["_law_hand_here", "_law_many"] (defScope s_prices) := ⟨rfl, rfl, rfl, by decide +kernel, rfl, by decide +kernel, by decide +kernel⟩
theorem sc_market : FnScope ["_law_hand_here", "_law_places", "_law_ways", "_law_most", "_law_scale", "_law_land_here", "_law_store"] ["_law_hand_here", "_law_places", "_law_ways", "_law_most"] (defScope s_market) := ⟨rfl, rfl, rfl, by decide +kernel, rfl, by decide +kernel, by decide +kernel⟩
theorem sc_costs : FnScope ["_law_land_here", "_law_store", "_law_prices_here", "_law_goal", "_law_settled", "_law_waiting", "_law_level", "_law_cost", "_law_spot", "_law_place", "_law_ahead", "_law_start", "_law_end", "_law_change_here", "_law_x", "_law_more"] ["_law_land_here", "_law_store", "_law_prices_here", "_law_goal"] (defScope s_costs) := ⟨rfl, rfl, rfl, by decide +kernel, rfl, by decide +kernel, by decide +kernel⟩
theorem sc_law_paid : FnScope ["_law_land_here", "_law_store", "_law_prices_here", "_law_begin", "_law_plan", "_law_place", "_law_level", "_law_cost", "_law_k", "_law_word", "_law_number"] ["_law_land_here", "_law_store", "_law_prices_here", "_law_begin", "_law_plan"] (defScope s_law_paid) := ⟨rfl, rfl, rfl, by decide +kernel, rfl, by decide +kernel, by decide +kernel⟩
theorem sc_is_plan : FnScope ["_law_plan", "_law_step_here"] ["_law_plan"] (defScope s_is_plan) := ⟨rfl, rfl, rfl, by decide +kernel, rfl, by decide +kernel, by decide +kernel⟩
theorem sc_right : FnScope ["_law_land_here", "_law_store", "_law_prices_here", "_law_begin", "_law_goal", "_law_due", "_law_handed", "_law_found", "_law_there", "_law_kept", "_law_again"] ["_law_land_here", "_law_store", "_law_prices_here", "_law_begin", "_law_goal", "_law_due"] (defScope s_right) := ⟨rfl, rfl, rfl, by decide +kernel, rfl, by decide +kernel, by decide +kernel⟩
theorem sc_law : FnScope ["_law_script", "_law_hand_here", "_law_land_here", "_law_store", "_law_prices_here", "_law_goal", "_law_costs_here", "_law_k", "_law_place", "_law_level"] ["_law_script"] (defScope s_law) := ⟨rfl, rfl, rfl, by decide +kernel, rfl, by decide +kernel, by decide +kernel⟩
theorem bd_is_whole {K : PySem.W.Frag} {mg : Str → Option Value} (T : Txt K mg) : Binds K T.d_is_whole ["thing"] [] := T.F_is_whole.binds fun _ _ _ _ _ _ us hl => by obtain ⟨_, rfl⟩ := usl1 hl; rfl
theorem bd_stepped {K : PySem.W.Frag} {mg : Str → Option Value} (T : Txt K mg) : Binds K T.d_stepped ["store", "level", "change"] [] := T.F_stepped.binds fun _ _ _ _ _ _ us hl => by obtain ⟨_, _, _, rfl⟩ := usl3 hl; rfl
theorem bd_is_place {K : PySem.W.Frag} {mg : Str → Option Value} (T : Txt K mg) : Binds K T.d_is_place ["many", "thing"] [] := T.F_is_place.binds fun _ _ _ _ _ _ us hl => by obtain ⟨_, _, rfl⟩ := usl2 hl; rfl
theorem bd_is_within {K : PySem.W.Frag} {mg : Str → Option Value} (T : Txt K mg) : Binds K T.d_is_within ["level", "bound"] [] := T.F_is_within.binds fun _ _ _ _ _ _ us hl => by obtain ⟨_, _, rfl⟩ := usl2 hl; rfl
theorem bd_moves_by_way {K : PySem.W.Frag} {mg : Str → Option Value} (T : Txt K mg) : Binds K T.d_moves_by_way ["store", "number", "way"] [] := T.F_moves_by_way.binds fun _ _ _ _ _ _ us hl => by obtain ⟨_, _, _, rfl⟩ := usl3 hl; rfl
theorem bd_moves_by_price {K : PySem.W.Frag} {mg : Str → Option Value} (T : Txt K mg) : Binds K T.d_moves_by_price ["store", "place", "price"] [] := T.F_moves_by_price.binds fun _ _ _ _ _ _ us hl => by obtain ⟨_, _, _, rfl⟩ := usl3 hl; rfl
theorem bd_all_moves {K : PySem.W.Frag} {mg : Str → Option Value} (T : Txt K mg) : Binds K T.d_all_moves ["land", "store", "prices"] [] := T.F_all_moves.binds fun _ _ _ _ _ _ us hl => by obtain ⟨_, _, _, rfl⟩ := usl3 hl; rfl
theorem bd_cost_at {K : PySem.W.Frag} {mg : Str → Option Value} (T : Txt K mg) : Binds K T.d_cost_at ["costs", "spot"] [] := T.F_cost_at.binds fun _ _ _ _ _ _ us hl => by obtain ⟨_, _, rfl⟩ := usl2 hl; rfl
theorem bd_cost_by {K : PySem.W.Frag} {mg : Str → Option Value} (T : Txt K mg) : Binds K T.d_cost_by ["costs", "move"] [] := T.F_cost_by.binds fun _ _ _ _ _ _ us hl => by obtain ⟨_, _, rfl⟩ := usl2 hl; rfl
theorem bd_costs_at_goal {K : PySem.W.Frag} {mg : Str → Option Value} (T : Txt K mg) : Binds K T.d_costs_at_goal ["land", "store", "goal"] [] := T.F_costs_at_goal.binds fun _ _ _ _ _ _ us hl => by obtain ⟨_, _, _, rfl⟩ := usl3 hl; rfl
theorem bd_settled_costs {K : PySem.W.Frag} {mg : Str → Option Value} (T : Txt K mg) : Binds K T.d_settled_costs ["land", "store", "prices", "goal"] [] := T.F_settled_costs.binds fun _ _ _ _ _ _ us hl => by obtain ⟨_, _, _, _, rfl⟩ := usl4 hl; rfl
theorem bd_behind_walking {K : PySem.W.Frag} {mg : Str → Option Value} (T : Txt K mg) : Binds K T.d_behind_walking ["land", "store", "had", "number"] [] := T.F_behind_walking.binds fun _ _ _ _ _ _ us hl => by obtain ⟨_, _, _, _, rfl⟩ := usl4 hl; rfl
theorem bd_behind_buying {K : PySem.W.Frag} {mg : Str → Option Value} (T : Txt K mg) : Binds K T.d_behind_buying ["store", "prices", "had", "many"] [] := T.F_behind_buying.binds fun _ _ _ _ _ _ us hl => by obtain ⟨_, _, _, _, rfl⟩ := usl4 hl; rfl
theorem bd_behind_step {K : PySem.W.Frag} {mg : Str → Option Value} (T : Txt K mg) : Binds K T.d_behind_step ["land", "store", "prices", "had", "step"] [] := T.F_behind_step.binds fun _ _ _ _ _ _ us hl => by obtain ⟨_, _, _, _, _, rfl⟩ := usl5 hl; rfl
theorem bd_paid {K : PySem.W.Frag} {mg : Str → Option Value} (T : Txt K mg) : Binds K T.d_paid ["land", "store", "prices", "begin", "plan"] [] := T.F_paid.binds fun _ _ _ _ _ _ us hl => by obtain ⟨_, _, _, _, _, rfl⟩ := usl5 hl; rfl
theorem bd_with_step {K : PySem.W.Frag} {mg : Str → Option Value} (T : Txt K mg) : Binds K T.d_with_step ["plan", "step"] [] := T.F_with_step.binds fun _ _ _ _ _ _ us hl => by obtain ⟨_, _, rfl⟩ := usl2 hl; rfl
theorem bd_plan_by {K : PySem.W.Frag} {mg : Str → Option Value} (T : Txt K mg) : Binds K T.d_plan_by ["ons", "begin"] [] := T.F_plan_by.binds fun _ _ _ _ _ _ us hl => by obtain ⟨_, _, rfl⟩ := usl2 hl; rfl
theorem bd_cheapest {K : PySem.W.Frag} {mg : Str → Option Value} (T : Txt K mg) : Binds K T.d_cheapest ["land", "store", "prices", "begin", "goal"] [] := T.F_cheapest.binds fun _ _ _ _ _ _ us hl => by obtain ⟨_, _, _, _, _, rfl⟩ := usl5 hl; rfl
theorem bd_hand {K : PySem.W.Frag} {mg : Str → Option Value} (T : Txt K mg) : Binds K T.d_hand ["_law_script"] [] := T.F_hand.binds fun _ _ _ _ _ _ us hl => by obtain ⟨_, rfl⟩ := usl1 hl; rfl
theorem bd_next {K : PySem.W.Frag} {mg : Str → Option Value} (T : Txt K mg) : Binds K T.d_next ["_law_hand_here"] [] := T.F_next.binds fun _ _ _ _ _ _ us hl => by obtain ⟨_, rfl⟩ := usl1 hl; rfl
theorem bd_take {K : PySem.W.Frag} {mg : Str → Option Value} (T : Txt K mg) : Binds K T.d_take ["_law_hand_here"] [] := T.F_take.binds fun _ _ _ _ _ _ us hl => by obtain ⟨_, rfl⟩ := usl1 hl; rfl
theorem bd_draw {K : PySem.W.Frag} {mg : Str → Option Value} (T : Txt K mg) : Binds K T.d_draw ["_law_hand_here", "_law_many"] [] := T.F_draw.binds fun _ _ _ _ _ _ us hl => by obtain ⟨_, _, rfl⟩ := usl2 hl; rfl
theorem bd_change {K : PySem.W.Frag} {mg : Str → Option Value} (T : Txt K mg) : Binds K T.d_change ["_law_hand_here", "_law_scale"] [] := T.F_change.binds fun _ _ _ _ _ _ us hl => by obtain ⟨_, _, rfl⟩ := usl2 hl; rfl
theorem bd_land {K : PySem.W.Frag} {mg : Str → Option Value} (T : Txt K mg) : Binds K T.d_land ["_law_hand_here", "_law_places", "_law_ways", "_law_scale"] [] := T.F_land.binds fun _ _ _ _ _ _ us hl => by obtain ⟨_, _, _, _, rfl⟩ := usl4 hl; rfl
theorem bd_step {K : PySem.W.Frag} {mg : Str → Option Value} (T : Txt K mg) : Binds K T.d_step ["_law_store", "_law_level", "_law_change_here"] [] := T.F_step.binds fun _ _ _ _ _ _ us hl => by obtain ⟨_, _, _, rfl⟩ := usl3 hl; rfl
theorem bd_law_is_whole {K : PySem.W.Frag} {mg : Str → Option Value} (T : Txt K mg) : Binds K T.d_law_is_whole ["_law_thing"] [] := T.F_law_is_whole.binds fun _ _ _ _ _ _ us hl => by obtain ⟨_, rfl⟩ := usl1 hl; rfl
theorem bd_prices {K : PySem.W.Frag} {mg : Str → Option Value} (T : Txt K mg) : Binds K T.d_prices ["_law_hand_here", "_law_many"] [] := T.F_prices.binds fun _ _ _ _ _ _ us hl => by obtain ⟨_, _, rfl⟩ := usl2 hl; rfl
theorem bd_market {K : PySem.W.Frag} {mg : Str → Option Value} (T : Txt K mg) : Binds K T.d_market ["_law_hand_here", "_law_places", "_law_ways", "_law_most"] [] := T.F_market.binds fun _ _ _ _ _ _ us hl => by obtain ⟨_, _, _, _, rfl⟩ := usl4 hl; rfl
theorem bd_costs {K : PySem.W.Frag} {mg : Str → Option Value} (T : Txt K mg) : Binds K T.d_costs ["_law_land_here", "_law_store", "_law_prices_here", "_law_goal"] [] := T.F_costs.binds fun _ _ _ _ _ _ us hl => by obtain ⟨_, _, _, _, rfl⟩ := usl4 hl; rfl
theorem bd_law_paid {K : PySem.W.Frag} {mg : Str → Option Value} (T : Txt K mg) : Binds K T.d_law_paid ["_law_land_here", "_law_store", "_law_prices_here", "_law_begin", "_law_plan"] [] := T.F_law_paid.binds fun _ _ _ _ _ _ us hl => by obtain ⟨_, _, _, _, _, rfl⟩ := usl5 hl; rfl
theorem bd_is_plan {K : PySem.W.Frag} {mg : Str → Option Value} (T : Txt K mg) : Binds K T.d_is_plan ["_law_plan"] [] := T.F_is_plan.binds fun _ _ _ _ _ _ us hl => by obtain ⟨_, rfl⟩ := usl1 hl; rfl
theorem bd_right {K : PySem.W.Frag} {mg : Str → Option Value} (T : Txt K mg) : Binds K T.d_right ["_law_land_here", "_law_store", "_law_prices_here", "_law_begin", "_law_goal", "_law_due"] [] := T.F_right.binds fun _ _ _ _ _ _ us hl => by obtain ⟨_, _, _, _, _, _, rfl⟩ := usl6 hl; rfl
theorem bd_law {K : PySem.W.Frag} {mg : Str → Option Value} (T : Txt K mg) : Binds K T.d_law ["_law_script"] [] := T.F_law.binds fun _ _ _ _ _ _ us hl => by obtain ⟨_, rfl⟩ := usl1 hl; rfl
section
variable {P : Program} {w : World} {K : PySem.W.Frag} {mg : Str → Option Value} {base : Heap}
theorem ok_hand (T : Txt K mg) : FnOk P w K mg base CX0 1 T.a_hand T.d_hand ["_law_script"] (spHand K) := by
 refine T.F_hand.ok sc_hand (fun vs H Q E h => ?_) (fun cdv A outer s H vs Q E hr h => ?_)
 ·obtain ⟨a, ns, rfl, _⟩ := h
  rfl
 ·obtain ⟨a, ns, rfl, hS, k⟩ := h
  refine ⟨_, (pss_one (ps_ret (pe_lst (pa_cons (pe_callTy call_list_of rfl T.n_list bt_list (pa_cons (pe_slice sl_list (pv 0) po_none (po_some pe_int)) pa_nil se_Subscript) (he := se_Subscript) (hpl := np_nil)) (pa_cons pe_int (pa_cons pe_int (pa_cons pe_int (pa_cons pe_int (pa_cons pe_int pa_nil se_Constant) se_Constant) se_Constant) se_Constant) se_Constant) se_Call)))), ?_⟩
  refine ⟨_, rfl, _, rfl, a, _, rfl, hS, fun p1 h1 => ⟨p1, _, rfl, .inl (SqL.of upd_same), fun l hl => ⟨(by show 6 ≤ sizeLine; decide), fun p hp => ?_⟩⟩⟩
  have n1 : p ≠ p1 := (ne_of_none (H := upd (upd H p1 _) l _) (by rw [upd_ne (ne_of_none upd_same hl)]; exact upd_same) hp).symm
  have n2 : p ≠ l := (ne_of_none (H := upd (upd H p1 _) l _) upd_same hp).symm
  have hp0 : H p = none := by rw [upd_ne n2, upd_ne n1] at hp; exact hp
  have hl0 : H l = none := by
   have nl : l ≠ p1 := (ne_of_none upd_same hl).symm
   rw [upd_ne nl] at hl; exact hl
  refine k p l _ hp0 hl0 ⟨(ns.drop (HT.sIx (ns.map V.int).length 0 none)).take (HT.sIx (ns.map V.int).length (ns.map V.int).length (some 63) - HT.sIx (ns.map V.int).length 0 none), 0, 0, 0, 20011, 40009, ?_, Int.le_refl _, upd_same⟩ (((Same.refl H).lay h1).lay hl |>.lay hp)
  rw [upd_ne n2.symm, upd_same]
  unfold cutV
  rw [List.map_take, List.map_drop]
theorem ok_next (T : Txt K mg) : FnOk P w K mg base CX0 1 T.a_next T.d_next ["_law_hand_here"] spNext := by
 refine T.F_next.ok sc_next (fun vs H Q E h => ?_) (fun cdv A outer s H vs Q E hr h => ?_)
 ·obtain ⟨a, l, rfl, _⟩ := h
  rfl
 ·obtain ⟨a, l, rfl, ⟨ns, p, b, c, u, v, hl, hp, ha⟩, k⟩ := h
  have ne := ne_hand hl ha
  refine ⟨_, (pss_cons (ps_asg (pe_op op_mod (pe_op op_mul (pe_ix ix_list (pv 0) pe_int (fun _ _ => rfl)) pe_int) pe_int) (pg_sub (pv 0) pe_int set_list))
   (pss_cons (ps_asg (pe_op op_mod (pe_op op_mul (pe_ix ix_list (pv 0) pe_int (fun _ _ => rfl)) pe_int) pe_int) (pg_sub (pv 0) pe_int set_list))
   (pss_one (ps_ret (pe_op op_add (pe_ix ix_list (pv 0) pe_int (fun _ _ => rfl)) (pe_ix ix_list (pv 0) pe_int (fun _ _ => rfl))))))), ?_⟩
  refine ⟨_, rfl, a, _, _, _, rfl, rfl, SqL.of ha, rfl, _, _, rfl, rfl, .inr ⟨by decide, by decide⟩, _, _, rfl, rfl, (by first | decide | (dsimp only; decide)), _, rfl, a, _, _, _, rfl, rfl, ha, rfl, ?_⟩
  refine ⟨_, rfl, a, _, _, _, rfl, rfl, SqL.of upd_same, rfl, _, _, rfl, rfl, .inr ⟨by decide, by decide⟩, _, _, rfl, rfl, (by first | decide | (dsimp only; decide)), _, rfl, a, _, _, _, rfl, rfl, upd_same, rfl, ?_⟩
  refine ⟨_, rfl, a, _, _, _, rfl, rfl, SqL.of upd_same, rfl, _, rfl, a, _, _, _, rfl, rfl, SqL.of upd_same, rfl, _, _, rfl, rfl, ?_⟩
  exact k _ _ ⟨ns, p, b, c, _, _, by rw [upd_ne ne, upd_ne ne]; exact hl, hp, upd_same⟩ fun b o e nb => by rw [upd_ne nb, upd_ne nb]; exact e
theorem ok_take (T : Txt K mg) : FnOk P w K mg base CX0 2 T.a_take T.d_take ["_law_hand_here"] spTake := by
 have G_next : FnOk P w K mg base CX0 1 T.a_next T.d_next ["_law_hand_here"] spNext := ok_next T
 have b_next := bd_next T
 refine T.F_take.ok sc_take (fun vs H Q E h => ?_) (fun cdv A outer s H vs Q E hr h => ?_)
 ·obtain ⟨a, l, rfl, _⟩ := h
  rfl
 ·obtain ⟨a, l, rfl, ⟨ns, p, b, c, u, v, hl, hp, ha⟩, k⟩ := h
  have ne := ne_hand hl ha
  refine ⟨_, (pss_cons (ps_set (i := 1) sc_take.nd rfl (Or.inl rfl) pe_int)
   (pss_cons (ps_mid (ps_if (pt_cmpR op_lt (pe_ix ix_list (pv 0) pe_int (fun _ _ => rfl)) (pe_callB call_len_seq rfl T.n_len bt_len (pa_cons (pe_ix ix_list (pv 0) pe_int (fun _ _ => rfl)) pa_nil se_Subscript) (he := se_Subscript) (hpl := np_nil)) (nomark _))
   (pss_one (ps_set (i := 1) sc_take.nd rfl (Or.inl rfl) (pe_callB call_abs rfl T.n_abs bt_abs (pa_cons (pe_ix ix_list (pe_ix ix_list (pv 0) pe_int (fun _ _ => rfl)) (pe_ix ix_list (pv 0) pe_int (fun _ _ => rfl)) (fun _ _ => rfl)) pa_nil se_Subscript) (he := se_Subscript) (hpl := np_nil))))
   pss_nil))
   (pss_cons (ps_augS (pv 0) pe_int get_list pe_int ip_add set_list)
   (pss_cons (ps_mid (ps_if (pt_cmpR op_ge (pv 1) (pe_op op_pow pe_int pe_int) (nomark _))
   (pss_one (ps_asg (pv 1) (pg_sub (pv 0) pe_int set_list)))
   (pss_one (ps_asg pe_int (pg_sub (pv 0) pe_int set_list)))))
   (pss_cons (ps_asg (pe_op op_add (pe_op op_mod (pe_op op_add (pe_ix ix_list (pv 0) pe_int (fun _ _ => rfl)) (pe_op op_mod (pv 1) pe_int)) pe_int) pe_int) (pg_sub (pv 0) pe_int set_list))
   (pss_cons (ps_asg (pe_op op_add (pe_op op_mod (pe_op op_add (pe_op op_mul (pe_ix ix_list (pv 0) pe_int (fun _ _ => rfl)) pe_int) (pe_op op_mod (pv 1) pe_int)) pe_int) pe_int) (pg_sub (pv 0) pe_int set_list))
   (pss_cons (ps_expr (pe_call G_next (hr.mono (by decide)) rfl T.mg_next T.kp_next b_next .nil pass0 (pa_cons (pv 0) pa_nil se_Name) (he := se_Name) (hpl := np_nil)))
   (pss_one (ps_expr (pe_call G_next (hr.mono (by decide)) rfl T.mg_next T.kp_next b_next .nil pass0 (pa_cons (pv 0) pa_nil se_Name) (he := se_Name) (hpl := np_nil))))))))))), ?_⟩
  refine ⟨fun σ H1 => H = H1 ∧ ∃ z : Int, σ = [some (.ref a), some (.int z)], ?_, ?_⟩
  ·refine ⟨_, rfl, a, _, _, _, rfl, rfl, SqL.of ha, rfl, _, rfl, a, _, _, _, rfl, rfl, SqL.of ha, rfl, l, _, rfl, .inl (SqL.of hl), _, _, rfl, rfl, _, rfl, ?_⟩
   refine ite2 (fun hlt => ?_) (fun _ => ⟨rfl, _, rfl⟩)
   have hlt' : p < (ns.length : Int) := by simpa using hlt
   obtain ⟨z, hz⟩ := atI_ints hp hlt'
   exact ⟨_, rfl, a, _, _, _, rfl, rfl, SqL.of ha, rfl, _, rfl, a, _, _, _, rfl, rfl, SqL.of ha, rfl, l, _, _, _, rfl, rfl, SqL.of hl, hz, _, rfl, rfl, _, rfl⟩
  ·rintro σ H1 ⟨rfl, z, rfl⟩
   refine ⟨_, rfl, a, _, _, _, rfl, rfl, (by first | decide | (dsimp only; decide)), SqL.of ha, rfl, _, _, rfl, rfl, a, _, _, _, rfl, rfl, ha, rfl, ?_⟩
   refine ⟨fun σ H1 => σ = [some (.ref a), some (.int z)] ∧ Hd H1 a l ∧ Kp a H H1, ?_, ?_⟩
   ·refine ⟨_, rfl, _, _, rfl, rfl, ⟨by decide, by decide, by decide⟩, _, _, rfl, rfl, _, rfl, ?_⟩
    refine ite2 (fun _ => ?_) (fun _ => ?_)
    ·refine ⟨_, rfl, _, rfl, a, _, _, _, rfl, rfl, upd_same, rfl, rfl, ⟨ns, p + 1, _, _, _, _, by rw [upd_ne ne, upd_ne ne]; exact hl, by omega, upd_same⟩, fun b o e nb => by rw [upd_ne nb, upd_ne nb]; exact e⟩
    ·refine ⟨_, rfl, a, _, _, _, rfl, rfl, upd_same, rfl, rfl, ⟨ns, p + 1, _, _, _, _, by rw [upd_ne ne, upd_ne ne]; exact hl, by omega, upd_same⟩, fun b o e nb => by rw [upd_ne nb, upd_ne nb]; exact e⟩
   ·rintro σ H1 ⟨rfl, ⟨ns, p, b, c, u, v, hl, hp, ha⟩, k1⟩
    have ne := ne_hand hl ha
    refine ⟨_, rfl, a, _, _, _, rfl, rfl, SqL.of ha, rfl, _, rfl, _, _, rfl, rfl, (by first | decide | (dsimp only; decide)), _, _, rfl, rfl, _, _, rfl, rfl, (by first | decide | (dsimp only; decide)), _, _, rfl, rfl, _, rfl, a, _, _, _, rfl, rfl, ha, rfl, ?_⟩
    refine ⟨_, rfl, a, _, _, _, rfl, rfl, SqL.of upd_same, rfl, _, _, rfl, rfl, .inr ⟨by decide, by decide⟩, _, rfl, _, _, rfl, rfl, (by first | decide | (dsimp only; decide)), _, _, rfl, rfl, _, _, rfl, rfl, (by first | decide | (dsimp only; decide)), _, _, rfl, rfl, _, rfl, a, _, _, _, rfl, rfl, upd_same, rfl, ?_⟩
    refine ⟨_, rfl, a, l, rfl, ⟨ns, p, _, _, _, _, by rw [upd_ne ne, upd_ne ne]; exact hl, hp, upd_same⟩, fun r H2 h2 k2 => ?_⟩
    refine ⟨_, rfl, a, l, rfl, h2, fun r H3 h3 k3 => ?_⟩
    exact k H3 h3 (((k1.trans fun b o e nb => by rw [upd_ne nb, upd_ne nb]; exact e).trans k2).trans k3)
theorem ok_draw (T : Txt K mg) : FnOk P w K mg base CX0 3 T.a_draw T.d_draw ["_law_hand_here", "_law_many"] spDraw := by
 have G_next : FnOk P w K mg base CX0 1 T.a_next T.d_next ["_law_hand_here"] spNext := ok_next T
 have G_take : FnOk P w K mg base CX0 2 T.a_take T.d_take ["_law_hand_here"] spTake := ok_take T
 have b_next := bd_next T
 have b_take := bd_take T
 refine T.F_draw.ok sc_draw (fun vs H Q E h => ?_) (fun cdv A outer s H vs Q E hr h => ?_)
 ·obtain ⟨a, l, m, rfl, _⟩ := h
  rfl
 ·obtain ⟨a, l, m, rfl, hd, hm0, hm1, k⟩ := h
  refine ⟨_, (pss_cons (ps_mid (ps_if (PW.pt (pw_and (pt_cmpR op_eq (pe_ix ix_list (pv 0) pe_int (fun _ _ => rfl)) pe_int (nomark _)) (pw_and1 (pt_cmpR op_eq (pe_ix ix_list (pv 0) pe_int (fun _ _ => rfl)) pe_int (nomark _)))))
   (pss_one (ps_expr (pe_call G_take (hr.mono (by decide)) rfl T.mg_take T.kp_take b_take .nil pass0 (pa_cons (pv 0) pa_nil se_Name) (he := se_Name) (hpl := np_nil))))
   pss_nil))
   (pss_cons (ps_mid (ps_if (pt_cmpR op_gt (pe_ix ix_list (pv 0) pe_int (fun _ _ => rfl)) pe_int (nomark _))
   (pss_cons (ps_set (i := 2) sc_draw.nd rfl (Or.inl rfl) (pe_op op_mod (pe_ix ix_list (pv 0) pe_int (fun _ _ => rfl)) (pv 1)))
   (pss_cons (ps_asg (pe_op op_fdivB (pe_ix ix_list (pv 0) pe_int (fun _ _ => rfl)) (pv 1)) (pg_sub (pv 0) pe_int set_list))
   (pss_one (ps_ret (pv 2)))))
   pss_nil))
   (pss_cons (ps_augS (pv 0) pe_int get_list pe_int ip_sub set_list)
   (pss_cons (ps_set (i := 3) sc_draw.nd rfl (Or.inl rfl) (pe_call G_next (hr.mono (by decide)) rfl T.mg_next T.kp_next b_next .nil pass0 (pa_cons (pv 0) pa_nil se_Name) (he := se_Name) (hpl := np_nil)))
   (pss_cons (ps_set (i := 4) sc_draw.nd rfl (Or.inl rfl) pe_int)
   (pss_cons (ps_while PassesOwn.never (pt_cmpR op_lt (pv 4) (pv 1) (nomark _))
   (pss_cons (ps_set (i := 3) sc_draw.nd rfl (Or.inl rfl) (pe_op op_add (pe_op op_mul (pv 3) pe_int) (pe_call G_next (hr.mono (by decide)) rfl T.mg_next T.kp_next b_next .nil pass0 (pa_cons (pv 0) pa_nil se_Name) (he := se_Name) (hpl := np_nil))))
   (pss_one (ps_set (i := 4) sc_draw.nd rfl (Or.inl rfl) (pe_op op_mul (pv 4) pe_int)))))
   (pss_one (ps_ret (pe_op op_mod (pv 3) (pv 1)))))))))), ?_⟩
  refine ⟨fun σ H1 => σ = [some (.ref a), some (.int m), none, none, none] ∧ Hd H1 a l ∧ Kp a H H1, ?_, ?_⟩
  ·obtain ⟨ns, p, b, c, u, v, hl, hp, ha⟩ := id hd
   refine ⟨_, rfl, a, _, _, _, rfl, rfl, SqL.of ha, rfl, rfl, _, rfl, ?_⟩
   refine ite2 (fun _ => ?_) (fun _ => iteF ⟨rfl, hd, .refl a H⟩)
   refine ⟨_, rfl, a, _, _, _, rfl, rfl, SqL.of ha, rfl, rfl, _, rfl, ?_⟩
   refine ite2 (fun _ => ?_) (fun _ => ⟨rfl, hd, .refl a H⟩)
   exact ⟨_, rfl, a, l, rfl, hd, fun H1 h1 k1 => ⟨rfl, h1, k1⟩⟩
  ·rintro σ H1 ⟨rfl, ⟨ns, p, b, c, u, v, hl, hp, ha⟩, k1⟩
   have ne := ne_hand hl ha
   refine ⟨fun σ H2 => H1 = H2 ∧ σ = [some (.ref a), some (.int m), none, none, none], ?_, ?_⟩
   ·refine ⟨_, rfl, a, _, _, _, rfl, rfl, SqL.of ha, rfl, _, _, rfl, rfl, _, rfl, ?_⟩
    refine ite2 (fun _ => ?_) (fun _ => ⟨rfl, rfl⟩)
    refine ⟨_, rfl, a, _, _, _, rfl, rfl, SqL.of ha, rfl, _, rfl, _, _, rfl, rfl, hm0, ?_⟩
    refine ⟨_, rfl, a, _, _, _, rfl, rfl, SqL.of ha, rfl, _, rfl, _, _, rfl, rfl, ⟨hm0, hm1⟩, _, rfl, a, _, _, _, rfl, rfl, ha, rfl, ?_⟩
    refine ⟨_, rfl, ?_⟩
    exact k _ _ (Int.emod_nonneg _ (by omega)) (Int.emod_lt_of_pos _ hm0) ⟨ns, p, _, _, _, _, by rw [upd_ne ne]; exact hl, hp, upd_same⟩ (k1.trans fun b o e nb => by rw [upd_ne nb]; exact e)
   ·rintro σ H2 ⟨rfl, rfl⟩
    refine ⟨_, rfl, a, _, _, _, rfl, rfl, (by first | decide | (dsimp only; decide)), SqL.of ha, rfl, _, _, rfl, rfl, a, _, _, _, rfl, rfl, ha, rfl, ?_⟩
    refine ⟨_, rfl, a, l, rfl, ⟨ns, p, _, _, _, _, by rw [upd_ne ne]; exact hl, hp, upd_same⟩, fun r H3 h3 k3 => ?_⟩
    have k3' : Kp a H H3 := (k1.trans fun b o e nb => by rw [upd_ne nb]; exact e).trans k3
    refine while_by (fun σ H4 => ∃ (val sz : Int), σ = [some (.ref a), some (.int m), none, some (.int val), some (.int sz)] ∧ Hd H4 a l ∧ Kp a H H4 ∧ 0 < sz)
     (fun σ _ => match σ with | [_, _, _, _, some (.int sz)] => (m - sz).toNat | _ => 0) ⟨r, 4294967296, rfl, h3, k3', by decide⟩ ?_ (fun σ H Q Q' f ⟨v, e1, u, e2, i, j, e3, e4, c, e5, q⟩ => ⟨v, e1, u, e2, i, j, e3, e4, c, e5, f _ _ q⟩)
    rintro σ H4 ⟨val, sz, rfl, h4, k4, hsz⟩
    refine ⟨_, rfl, _, rfl, _, _, rfl, rfl, _, rfl, ?_⟩
    refine ite2 (fun hlt => ?_) (fun _ => ?_)
    ·have hlt' : sz < m := by simpa using hlt
     refine ⟨_, rfl, _, _, rfl, rfl, .inr ⟨by decide, by decide⟩, _, rfl, a, l, rfl, h4, fun r H5 h5 k5 => ⟨_, _, rfl, rfl, ?_⟩⟩
     refine ⟨_, rfl, _, _, rfl, rfl, .inr ⟨by decide, by decide⟩, ?_⟩
     refine ⟨⟨_, sz * 4294967296, rfl, h5, k4.trans k5, by omega⟩, ?_⟩
     show (m - sz * 4294967296).toNat < (m - sz).toNat
     omega
    ·refine ⟨_, rfl, _, rfl, _, _, rfl, rfl, hm0, ?_⟩
     exact k _ _ (Int.emod_nonneg _ (by omega)) (Int.emod_lt_of_pos _ hm0) h4 k4
end
local macro_rules | `(tactic| decreasing_tactic) => `(tactic| try dsimp only [dSeq, dSeqG, dSet, dOwn, dOp, dVar, dIfS, dT, dRet, dDrop, dCb, dCons, dNil, dC, dF, dLst, dTup, dNeg, dNot, dAnd, dOr, dAndV, dOrV, dNotV, dBV, dIf, dChain, dIx, dIxV, dLenV, dListV, dList, dSlV, dSl, dCat, dRep, dIsiV, dIsi, dCall, aNil, aV, aS, arsD, arD, isSl, slotD, bnd_some, ixD, lenD, listD, itemsD, gI, gI0, gAdd, gMns, gMul, gMod, gDiv, gPow, gLt, gLe, gGt, gGe, gEq, gIsN, isN, gLen, gMin, gMax, gI2, gAbs, gInt, gAll, gAny, dNext, dLrev, dApp, dSetI, dAsg, gN, gT2, gT3, gT5, gInS, strsD, gMaxP, dPopI, dLrng, dZip, dCompT2, dComp, dCompT3, dIndexV, gIn, gB2, oN, oS, startN, slOf, a1_0, a2_0, a2_1, a3_0, a3_1, a3_2, isiD, tyD, List.tail_cons, List.tail_nil, List.getElem?_cons_zero, List.getElem?_cons_succ, List.set_cons_zero, List.set_cons_succ, List.length_cons, List.length_nil, Option.bind_some, Option.map_some, List.cons_append, List.nil_append, iteTT, iteFF, iteTB, iteFB, iteTI, iteFI, Bool.not_true, Bool.not_false, dAppB, dDict0, dMNew, dMPut, dMGet, dMGet1, dMGet2, dMPop, dMIn, dMNe, dMItems, gMinM, keyD, intsD, oM, dForget, dForClr, dClrT, dLVar, lentD, dIxL, dFlat, flatD, dLenL, dIsiL, dIsNL, dListL, dLendE, dLendB, noBB, dNewT, flatM, dMutA, dMutN, dMutC, aW, dNinD, dCallS, arsS, arS, dVar2, dIx2, dSet2, dRet2, dOwn2F, dOwn2C, dExt, dRngD, pC, pV, pIx, slot2, gMinI, dAug])
local macro_rules | `(tactic| array_get_dec) => `(tactic| try dsimp only [dFor, dIl, dIv, dIt, dRng1, dRng2, dEnum, dIrev, dIL, dEnumL, dSeq, dSeqG, dSet, dOwn, dOp, dVar, dIfS, dT, dRet, dDrop, dCb, dCons, dNil, dC, dF, dLst, dTup, dNeg, dNot, dAnd, dOr, dAndV, dOrV, dNotV, dBV, dIf, dChain, dIx, dIxV, dLenV, dListV, dList, dSlV, dSl, dCat, dRep, dIsiV, dIsi, dCall, aNil, aV, aS, arsD, arD, isSl, slotD, bnd_some, ixD, lenD, listD, itemsD, gI, gI0, gAdd, gMns, gMul, gMod, gDiv, gPow, gLt, gLe, gGt, gGe, gEq, gIsN, isN, gLen, gMin, gMax, gI2, gAbs, gInt, gAll, gAny, dNext, dLrev, dApp, dSetI, dAsg, gN, gT2, gT3, gT5, gInS, strsD, gMaxP, dPopI, dLrng, dZip, dCompT2, dComp, dCompT3, dIndexV, gIn, gB2, oN, oS, startN, slOf, a1_0, a2_0, a2_1, a3_0, a3_1, a3_2, isiD, tyD, List.tail_cons, List.tail_nil, List.getElem?_cons_zero, List.getElem?_cons_succ, List.set_cons_zero, List.set_cons_succ, List.length_cons, List.length_nil, Option.bind_some, Option.map_some, List.cons_append, List.nil_append, iteTT, iteFF, iteTB, iteFB, iteTI, iteFI, Bool.not_true, Bool.not_false, dAppB, dDict0, dMNew, dMPut, dMGet, dMGet1, dMGet2, dMPop, dMIn, dMNe, dMItems, gMinM, keyD, intsD, oM, dForget, dForClr, dClrT, dLVar, lentD, dIxL, dFlat, flatD, dLenL, dIsiL, dIsNL, dListL, dLendE, dLendB, noBB, dNewT, flatM, dMutA, dMutN, dMutC, aW, dNinD, dCallS, arsS, arS, dVar2, dIx2, dSet2, dRet2, dOwn2F, dOwn2C, dExt, dRngD, pC, pV, pIx, slot2, gMinI, dAug])
local macro_rules | `(tactic| sizeOf_list_dec) => `(tactic| try dsimp only [Blk, dSeq, dSeqG, dSet, dOwn, dOp, dVar, dIfS, dT, dRet, dDrop, dCb, dCons, dNil, dC, dF, dLst, dTup, dNeg, dNot, dAnd, dOr, dAndV, dOrV, dNotV, dBV, dIf, dChain, dIx, dIxV, dLenV, dListV, dList, dSlV, dSl, dCat, dRep, dIsiV, dIsi, dCall, aNil, aV, aS, arsD, arD, isSl, slotD, bnd_some, ixD, lenD, listD, itemsD, gI, gI0, gAdd, gMns, gMul, gMod, gDiv, gPow, gLt, gLe, gGt, gGe, gEq, gIsN, isN, gLen, gMin, gMax, gI2, gAbs, gInt, gAll, gAny, dNext, dLrev, dApp, dSetI, dAsg, gN, gT2, gT3, gT5, gInS, strsD, gMaxP, dPopI, dLrng, dZip, dCompT2, dComp, dCompT3, dIndexV, gIn, gB2, oN, oS, startN, slOf, a1_0, a2_0, a2_1, a3_0, a3_1, a3_2, isiD, tyD, List.tail_cons, List.tail_nil, List.getElem?_cons_zero, List.getElem?_cons_succ, List.set_cons_zero, List.set_cons_succ, List.length_cons, List.length_nil, Option.bind_some, Option.map_some, List.cons_append, List.nil_append, iteTT, iteFF, iteTB, iteFB, iteTI, iteFI, Bool.not_true, Bool.not_false, dAppB, dDict0, dMNew, dMPut, dMGet, dMGet1, dMGet2, dMPop, dMIn, dMNe, dMItems, gMinM, keyD, intsD, oM, dForget, dForClr, dClrT, dLVar, lentD, dIxL, dFlat, flatD, dLenL, dIsiL, dIsNL, dListL, dLendE, dLendB, noBB, dNewT, flatM, dMutA, dMutN, dMutC, aW, dNinD, dCallS, arsS, arS, dVar2, dIx2, dSet2, dRet2, dOwn2F, dOwn2C, dExt, dRngD, pC, pV, pIx, slot2, gMinI, dAug])
theorem units_of {k : Nat} {A : Around} (hr : Room k A) : A.units + 64 < cLine := hr.units
def spDrawD : DSp := fun ds Q => ∃ m : Int, ds = [.none, .int m] ∧ 0 < m ∧ m < 100000000000000000000000000000000000000000000000000000000000000 ∧ ∀ r : Int, 0 ≤ r → r < m → Q (.int r)
theorem hd_args {F : Addr → Prop} {hand : Option (Addr × Addr)} {H : Hp} {vs : List V} {ds : List PyData} {ms : List Md} (a : ArgsR F hand H (.hd :: ms) vs ds) : ∃ q vs' d ds', hand = some q ∧ vs = .ref q.1 :: vs' ∧ ds = d :: ds' ∧ ArgsR F hand H ms vs' ds' := by
 cases a with
 | cons x t =>
  obtain ⟨q, e, rfl⟩ := x
  exact ⟨q, _, _, _, e, rfl, rfl, t⟩
section
variable {P : Program} {w : World} {K : PySem.W.Frag} {mg : Str → Option Value} {base : Heap}
theorem ok_drawD (T : Txt K mg) : FnOk P w K mg base CX0 3 T.a_draw T.d_draw ["_law_hand_here", "_law_many"] (spD [.hd, .sh] spDrawD) := (ok_draw T).imp fun vs H Q E h => by
 obtain ⟨F, hand, ds, Qd, h1, h2, h3, a, ⟨m, rfl, m0, m1, hr⟩, h5⟩ := h
 obtain ⟨q, vs', d, ds', e, rfl, e2, a⟩ := hd_args a
 cases e2
 subst e
 cases a with
 | cons x t =>
  cases t
  cases (show ThV F H _ (.int m) from x)
  exact ⟨q.1, q.2, m, rfl, h3 q rfl, m0, m1, fun r H' r0 r1 hd kp => h5 _ _ _ (hr r r0 r1) (.int r) (fun b o eb n => kp b o eb (n q rfl)) fun q' e' => by cases e'; exact hd⟩
end
def oD : Option Int → PyData
 | none => .none
 | some i => .int i
def tabL (t : List (Option Int)) : List PyData := t.map oD
def wayD (w : Wy) : PyData := .tuple [.int ((w.1 : Nat) : Int), .int ((w.2.1 : Nat) : Int), .int w.2.2]
def landD (m : Nat) (ws : List Wy) : PyData := .tuple [.int ((m : Nat) : Int), .list (ws.map wayD)]
def onD : Option Nat → PyData := fun _ => .none
def effD : Option Nat → PyData := fun _ => .none
def rowD : Option Nat → PyData := fun _ => .none
def partD : Option Nat → PyData := fun _ => .none
theorem len_tab {t : List (Option Int)} : (tabL t).length = t.length := by unfold tabL; rw [List.length_map]
theorem tab_at {t : List (Option Int)} {p : Nat} (h : p < t.length) : atI (tabL t) ((p : Nat) : Int) = some (oD (gt t p)) := atI_nat (by unfold tabL; rw [List.getElem?_map, gt_at h]; rfl)
theorem ixN_nat {n j : Nat} (h : j < n) : ixN n ((j : Nat) : Int) = some j := by
 unfold ixN
 rw [if_pos (by omega), if_pos (by omega)]; rfl
theorem rngD0 (n : Nat) : rngD 0 n = (List.range n).map fun k => PyData.int ((k : Nat) : Int) := by
 unfold rngD
 exact List.map_congr_left fun k _ => by rw [Int.zero_add]
theorem min0 (i j : Int) : min (PyData.depth (.int i)) (PyData.depth (.int j)) ≤ 64 := by show min 0 0 ≤ 64; decide
theorem eqv_int (i j : Int) : PyData.eqv (.int i) (.int j) = (i == j) := by rw [PyData.eqv]
def sptD (s : Spt) : PyData := .tuple [.int ((s.1 : Nat) : Int), .int ((s.2 : Nat) : Int)]
def mvD (x : PyData × Mv) : PyData := .tuple [x.1, sptD x.2.1, sptD x.2.2.1, .int x.2.2.2]
def rowsC (t : Ct) : List (List PyData) := t.map tabL
local macro_rules | `(tactic| decreasing_trivial) => `(tactic| try dsimp only [dSeq, dSeqG, dSet, dOwn, dOp, dVar, dIfS, dT, dRet, dDrop, dCb, dCons, dNil, dC, dF, dLst, dTup, dNeg, dNot, dAnd, dOr, dAndV, dOrV, dNotV, dBV, dIf, dChain, dIx, dIxV, dLenV, dListV, dList, dSlV, dSl, dCat, dRep, dIsiV, dIsi, dCall, aNil, aV, aS, arsD, arD, isSl, slotD, bnd_some, ixD, lenD, listD, itemsD, gI, gI0, gAdd, gMns, gMul, gMod, gDiv, gPow, gLt, gLe, gGt, gGe, gEq, gIsN, isN, gLen, gMin, gMax, gI2, gAbs, gInt, gAll, gAny, dNext, dLrev, dApp, dSetI, dAsg, gN, gT2, gT3, gT5, gInS, strsD, gMaxP, dPopI, dLrng, dZip, dCompT2, dComp, dCompT3, dIndexV, gIn, gB2, oN, oS, startN, slOf, a1_0, a2_0, a2_1, a3_0, a3_1, a3_2, isiD, tyD, List.tail_cons, List.tail_nil, List.getElem?_cons_zero, List.getElem?_cons_succ, List.set_cons_zero, List.set_cons_succ, List.length_cons, List.length_nil, Option.bind_some, Option.map_some, List.cons_append, List.nil_append, iteTT, iteFF, iteTB, iteFB, iteTI, iteFI, Bool.not_true, Bool.not_false, dAppB, dDict0, dMNew, dMPut, dMGet, dMGet1, dMGet2, dMPop, dMIn, dMNe, dMItems, gMinM, keyD, intsD, oM, dForget, dForClr, dClrT, dLVar, lentD, dIxL, dFlat, flatD, dLenL, dIsiL, dIsNL, dListL, dLendE, dLendB, noBB, dNewT, flatM, dMutA, dMutN, dMutC, aW, dNinD, dCallS, arsS, arS, dVar2, dIx2, dSet2, dRet2, dOwn2F, dOwn2C, dExt, dRngD, pC, pV, pIx, slot2, gMinI, dAug, oD, onD, effD, rowD, landD, wayD, partD, sptD, mvD])
local macro_rules | `(tactic| array_mem_dec) => `(tactic| try dsimp only [dFor, dIl, dIv, dIt, dRng1, dRng2, dEnum, dIrev, dIL, dEnumL, dSeq, dSeqG, dSet, dOwn, dOp, dVar, dIfS, dT, dRet, dDrop, dCb, dCons, dNil, dC, dF, dLst, dTup, dNeg, dNot, dAnd, dOr, dAndV, dOrV, dNotV, dBV, dIf, dChain, dIx, dIxV, dLenV, dListV, dList, dSlV, dSl, dCat, dRep, dIsiV, dIsi, dCall, aNil, aV, aS, arsD, arD, isSl, slotD, bnd_some, ixD, lenD, listD, itemsD, gI, gI0, gAdd, gMns, gMul, gMod, gDiv, gPow, gLt, gLe, gGt, gGe, gEq, gIsN, isN, gLen, gMin, gMax, gI2, gAbs, gInt, gAll, gAny, dNext, dLrev, dApp, dSetI, dAsg, gN, gT2, gT3, gT5, gInS, strsD, gMaxP, dPopI, dLrng, dZip, dCompT2, dComp, dCompT3, dIndexV, gIn, gB2, oN, oS, startN, slOf, a1_0, a2_0, a2_1, a3_0, a3_1, a3_2, isiD, tyD, List.tail_cons, List.tail_nil, List.getElem?_cons_zero, List.getElem?_cons_succ, List.set_cons_zero, List.set_cons_succ, List.length_cons, List.length_nil, Option.bind_some, Option.map_some, List.cons_append, List.nil_append, iteTT, iteFF, iteTB, iteFB, iteTI, iteFI, Bool.not_true, Bool.not_false, dAppB, dDict0, dMNew, dMPut, dMGet, dMGet1, dMGet2, dMPop, dMIn, dMNe, dMItems, gMinM, keyD, intsD, oM, dForget, dForClr, dClrT, dLVar, lentD, dIxL, dFlat, flatD, dLenL, dIsiL, dIsNL, dListL, dLendE, dLendB, noBB, dNewT, flatM, dMutA, dMutN, dMutC, aW, dNinD, dCallS, arsS, arS, dVar2, dIx2, dSet2, dRet2, dOwn2F, dOwn2C, dExt, dRngD, pC, pV, pIx, slot2, gMinI, dAug, oD, onD, effD, rowD, landD, wayD, partD, sptD, mvD])
local macro_rules | `(tactic| decreasing_trivial_pre_omega) => `(tactic| try dsimp only [Blk, dSeq, dSeqG, dSet, dOwn, dOp, dVar, dIfS, dT, dRet, dDrop, dCb, dCons, dNil, dC, dF, dLst, dTup, dNeg, dNot, dAnd, dOr, dAndV, dOrV, dNotV, dBV, dIf, dChain, dIx, dIxV, dLenV, dListV, dList, dSlV, dSl, dCat, dRep, dIsiV, dIsi, dCall, aNil, aV, aS, arsD, arD, isSl, slotD, bnd_some, ixD, lenD, listD, itemsD, gI, gI0, gAdd, gMns, gMul, gMod, gDiv, gPow, gLt, gLe, gGt, gGe, gEq, gIsN, isN, gLen, gMin, gMax, gI2, gAbs, gInt, gAll, gAny, dNext, dLrev, dApp, dSetI, dAsg, gN, gT2, gT3, gT5, gInS, strsD, gMaxP, dPopI, dLrng, dZip, dCompT2, dComp, dCompT3, dIndexV, gIn, gB2, oN, oS, startN, slOf, a1_0, a2_0, a2_1, a3_0, a3_1, a3_2, isiD, tyD, List.tail_cons, List.tail_nil, List.getElem?_cons_zero, List.getElem?_cons_succ, List.set_cons_zero, List.set_cons_succ, List.length_cons, List.length_nil, Option.bind_some, Option.map_some, List.cons_append, List.nil_append, iteTT, iteFF, iteTB, iteFB, iteTI, iteFI, Bool.not_true, Bool.not_false, dAppB, dDict0, dMNew, dMPut, dMGet, dMGet1, dMGet2, dMPop, dMIn, dMNe, dMItems, gMinM, keyD, intsD, oM, dForget, dForClr, dClrT, dLVar, lentD, dIxL, dFlat, flatD, dLenL, dIsiL, dIsNL, dListL, dLendE, dLendB, noBB, dNewT, flatM, dMutA, dMutN, dMutC, aW, dNinD, dCallS, arsS, arS, dVar2, dIx2, dSet2, dRet2, dOwn2F, dOwn2C, dExt, dRngD, pC, pV, pIx, slot2, gMinI, dAug, oD, onD, effD, rowD, landD, wayD, partD, sptD, mvD])
def spStepD : DSp := fun ds Q => ∃ st lv ch : Int, ds = [.int st, .int lv, .int ch] ∧ Q (oD (stepF st lv ch))
def spWiD : DSp := fun ds Q => ∃ a b : Option Int, ds = [oD a, oD b] ∧ Q (.bool (wiF a b))
def spCostAtD : DSp := fun ds Q => ∃ (m n : Nat) (t : Ct) (s : Spt), ds = [.list (lls (rowsC t)), sptD s] ∧ CtOk m n t ∧ s.1 < m ∧ s.2 < n ∧ Q (oD (ca t s))
def spCostByD : DSp := fun ds Q => ∃ (m n : Nat) (t : Ct) (v : PyData × Mv), ds = [.list (lls (rowsC t)), mvD v] ∧ CtOk m n t ∧ v.2.2.1.1 < m ∧ v.2.2.1.2 < n ∧ Q (oD (addO (ca t v.2.2.1) v.2.2.2))
theorem rows_at {m n : Nat} {t : Ct} {p : Nat} (h : CtOk m n t) (hp : p < m) : atI (rowsC t) ((p : Nat) : Int) = some (tabL (t.getD p [])) := atI_nat (by
 have hl : p < t.length := by rw [h.len]; exact hp
 unfold rowsC
 rw [List.getElem?_map, List.getElem?_eq_getElem hl, List.getD_eq_getElem?_getD, List.getElem?_eq_getElem hl]; rfl)
theorem row_len {m n : Nat} {t : Ct} {p : Nat} (h : CtOk m n t) (hp : p < m) : (t.getD p []).length = n := by
 have hl : p < t.length := by rw [h.len]; exact hp
 rw [List.getD_eq_getElem?_getD, List.getElem?_eq_getElem hl]
 exact h.row _ (List.getElem_mem hl)
theorem rowsD_lls (dss : List (List PyData)) : rowsD (.list (lls dss)) = some dss := rowsL_lls dss
section
variable {P : Program} {w : World} {K : PySem.W.Frag} {mg : Str → Option Value} {base : Heap}
theorem ok_stepped (T : Txt K mg) : FnOk P w K mg base CX0 1 T.a_stepped T.d_stepped ["store", "level", "change"] (spD [.sh, .sh, .sh] spStepD) := by
 refine fn_d T.F_stepped sc_stepped rfl (fun C cdv A outer s H E hr => ⟨_, (@dss_cons _ _ _ _ _ _ (ds_set (ps_set (i := 3) sc_stepped.nd rfl (Or.inl rfl) (pd_op op_add ok_add (pd_var (pv 1)) (pd_var (pv 2))))) (dss_cons (ds_if (pdt_cmp op_lt ok_lt (pd_var (pv 3)) pd_int (nomark _))
   (dss_one (ds_ret pd_non))
   dss_nil)
   (dss_one (ds_ret (pd_cb cb_min (pe_callB (call_min2 rfl) rfl T.n_min bt_min (dv_cons (pd_var (pv 3)) (dv_cons (pd_var (pv 0)) dv_nil se_Name) se_Name) (he := se_Name) (hpl := (np_cons se_Name np_nil)))))))), fun ds Q hl h => ?_⟩)
 obtain ⟨st, lv, ch, rfl, q⟩ := h
 decreasing_tactic
 unfold stepF at q
 by_cases c : lv + ch < 0
 ·rw [decide_eq_true c, if_pos rfl]
  rw [if_pos c] at q; exact q
 ·rw [decide_eq_false c, if_neg Bool.false_ne_true]
  rw [if_neg c] at q; exact q
theorem ok_is_within (T : Txt K mg) : FnOk P w K mg base CX0 1 T.a_is_within T.d_is_within ["level", "bound"] (spD [.sh, .sh] spWiD) := by
 refine fn_d T.F_is_within sc_is_within rfl (fun C cdv A outer s H E hr => ⟨_, (dss_one (ds_ret (pd_or (pd_cmp op_isN ok_isN (pd_var (pv 1)) pd_non (nomark _)) (pd_one (pd_and (pd_cmp op_notN ok_notN (pd_var (pv 0)) pd_non (nomark _)) (pd_one (pd_cmp op_le ok_le (pd_var (pv 0)) (pd_var (pv 1)) (nomark _)))))))), fun ds Q hl h => ?_⟩)
 obtain ⟨a, b, rfl, q⟩ := h
 cases b with
 | none =>
  decreasing_trivial
  exact q
 | some y =>
  cases a with
  | none =>
   decreasing_trivial
   exact q
  | some x =>
   decreasing_trivial
   exact q
theorem ok_cost_at (T : Txt K mg) : FnOk P w K mg base CX0 1 T.a_cost_at T.d_cost_at ["costs", "spot"] (spD [.b2, .sh] spCostAtD) := by
 refine fn_d T.F_cost_at sc_cost_at rfl (fun C cdv A outer s H E hr => ⟨_, (dss_one (ds_ret (pd_ix2 (pv 0) (pp_ix (pp_var (pv 1)) (pp_gi (pe_glob (v := V.int 0) rfl T.mg_PLACE ⟨_, rfl⟩)) (fun _ _ => rfl)) (pp_ix (pp_var (pv 1)) (pp_gi (pe_glob (v := V.int 1) rfl T.mg_LEVEL ⟨_, rfl⟩)) (fun _ _ => rfl)) (fun _ _ => rfl) (fun _ _ => rfl)))), fun ds Q hl h => ?_⟩)
 obtain ⟨m, n, t, s, rfl, ok, s1, s2, q⟩ := h
 decreasing_trivial
 rw [rowsD_lls]
 decreasing_trivial
 rw [rows_at ok s1]
 decreasing_trivial
 rw [tab_at (by rw [row_len ok s1]; exact s2)]
 exact q
theorem ok_cost_by (T : Txt K mg) : FnOk P w K mg base CX0 2 T.a_cost_by T.d_cost_by ["costs", "move"] (spD [.b2, .sh] spCostByD) := by
 have G_cost_at := @ok_cost_at P w K mg base T
 have b_cost_at := bd_cost_at T
 refine fn_d T.F_cost_by sc_cost_by rfl (fun C cdv A outer s H E hr => ⟨_, (@dss_cons _ _ _ _ _ _ (ds_set (ps_set (i := 2) sc_cost_by.nd rfl (Or.inl rfl) (pd_call (pe_call G_cost_at (hr.mono (by decide)) rfl T.mg_cost_at T.kp_cost_at b_cost_at .nil pass0 (da_s (pv 0) (da_v (pd_ixv (pv 1) (pd_gi (pe_glob (v := V.int 2) rfl T.mg_BEHIND ⟨_, rfl⟩)) (fun _ _ => rfl)) da_nil se_Subscript) se_Name) (he := se_Name) (hpl := (np_cons se_Subscript np_nil)))))) (dss_one (ds_ret (pd_if (pdt_cmp op_isN ok_isN (pd_var (pv 2)) pd_non (nomark _)) pd_non (pd_op op_add ok_add (pd_var (pv 2)) (pd_ixv (pv 1) (pd_gi (pe_glob (v := V.int 3) rfl T.mg_COST ⟨_, rfl⟩)) (fun _ _ => rfl))))))), fun ds Q hl h => ?_⟩)
 obtain ⟨m, n, t, v, rfl, ok, s1, s2, q⟩ := h
 decreasing_trivial
 rw [rowsD_lls]
 decreasing_trivial
 refine ⟨rfl, m, n, t, v.2.2.1, rfl, ok, s1, s2, ?_⟩
 cases e : ca t v.2.2.1 with
 | none =>
  rw [e] at q
  decreasing_trivial
  exact q
 | some y =>
  rw [e] at q
  decreasing_trivial
  exact q
end
theorem flat_ways : ∀ ws : List Wy, flatL (ws.map wayD) = true
 | [] => rfl
 | w :: ws => by
  show (flatD (wayD w) && flatL (ws.map wayD)) = true
  rw [flat_ways ws]; rfl
theorem flat_tabs : ∀ t : List (Option Int), flatL (tabL t) = true
 | [] => rfl
 | o :: t => by
  show (flatD (oD o) && flatL (tabL t)) = true
  rw [flat_tabs t]
  cases o <;> rfl
def mvW (st : Int) (n k : Nat) (w : Wy) : List (PyData × Mv) := ((List.range n).filter fun (l : Nat) => (stepF st (l : Int) w.2.2).isSome).map fun l => (.tuple [.str "way", .int ((k : Nat) : Int)], ((w.1, l), (w.2.1, ((stepF st ((l : Nat) : Int) w.2.2).getD 0).toNat), 0))
def mvP (n p : Nat) (c : Int) : List (PyData × Mv) := (List.range (n - 1)).map fun i => (.tuple [.str "buy", .int 1], ((p, n - 2 - i), (p, n - 2 - i + 1), c))
def spMvWD : DSp := fun ds Q => ∃ (n k : Nat) (w : Wy), ds = [.int (((n : Nat) : Int) - 1), .int ((k : Nat) : Int), wayD w] ∧ 1 ≤ n ∧ n ≤ 900 ∧ Q (.list ((mvW (((n : Nat) : Int) - 1) n k w).map mvD))
def spMvPD : DSp := fun ds Q => ∃ (n p : Nat) (c : Int), ds = [.int (((n : Nat) : Int) - 1), .int ((p : Nat) : Int), .int c] ∧ 1 ≤ n ∧ n ≤ 900 ∧ Q (.list ((mvP n p c).map mvD))
section
variable {P : Program} {w : World} {K : PySem.W.Frag} {mg : Str → Option Value} {base : Heap}
theorem ok_moves_by_way (T : Txt K mg) : FnOk P w K mg base CX0 2 T.a_moves_by_way T.d_moves_by_way ["store", "number", "way"] (spD [.sh, .sh, .sh] spMvWD) := by
 have G_stepped := @ok_stepped P w K mg base T
 have b_stepped := bd_stepped T
 refine fn_d T.F_moves_by_way sc_moves_by_way rfl (fun C cdv A outer s H E hr => ⟨_, (@dss_consG _ _ _ _ _ _ (@ds_set _ _ _ _ _ (@ps_set _ _ 3 _ _ _ _ sc_moves_by_way.nd rfl (Or.inr rfl) (@pd_f _ _ _ _ (@pf_comp _ _ _ _ _ _ _ _ rfl (@pe_comp _ _ _ _ _ _ _ _ _ _ _ _ _ _ _ (CompSc.new (N := ["store", "number", "way", "behind"]) (osc := defScope s_moves_by_way) (by decide +kernel)) rfl (di_rng1 (pi_range1 rfl T.n_range (dv_cons (pd_op op_add ok_add (pd_var (pv 0)) pd_int) dv_nil se_BinOp))) (fun _ => dts_nil) (fun _ => (pd_call (pe_call G_stepped (hr.mono (by decide)) rfl T.mg_stepped T.kp_stepped b_stepped .nil pass0 (da_v (pd_var (pv 0)) (da_v (pd_var (pv 4)) (da_v (pd_ixv (pv 2) (pd_gi (pe_glob (v := V.int 2) rfl T.mg_CHANGE ⟨_, rfl⟩)) (fun _ _ => rfl)) da_nil se_Subscript) se_Name) se_Name) (he := se_Name) (hpl := (np_cons se_Name (np_cons se_Subscript np_nil)))))) (by rfl) (by rfl) (by intro _; rfl)))) (by rfl) (by first | exact .inl rfl | exact .inr rfl | assumption))) (@dss_one _ _ _ _ (@ds_ret _ _ _ _ _ (@pd_f _ _ _ _ (@pf_comp _ _ _ _ _ _ _ _ rfl (@pe_comp _ _ _ _ _ _ _ _ _ _ _ _ _ _ _ (CompSc.new (N := ["store", "number", "way", "behind"]) (osc := defScope s_moves_by_way) (by decide +kernel)) rfl (di_rng1 (pi_range1 rfl T.n_range (dv_cons (pd_op op_add ok_add (pd_var (pv 0)) pd_int) dv_nil se_BinOp))) (fun _ => (pts_one (pdt_cmp op_notN ok_notN (pd_ixv (pv 3) (pd_var (pv 4)) (fun _ _ => rfl)) pd_non (nomark _)))) (fun _ => (@pd_tup _ _ _ _ _ _ (@dv_cons _ _ _ _ _ _ (pd_tup (dv_cons (pd_gs (pe_glob (v := V.str "way") rfl T.mg_WAY ⟨_, rfl⟩)) (dv_cons (pd_var (pv 1)) dv_nil se_Name) se_Name)) (@dv_cons _ _ _ _ _ _ (pd_tup (dv_cons (pd_ixv (pv 2) (pd_gi (pe_glob (v := V.int 0) rfl T.mg_START ⟨_, rfl⟩)) (fun _ _ => rfl)) (dv_cons (pd_var (pv 4)) dv_nil se_Name) se_Subscript)) (dv_cons (pd_tup (dv_cons (pd_ixv (pv 2) (pd_gi (pe_glob (v := V.int 1) rfl T.mg_END ⟨_, rfl⟩)) (fun _ _ => rfl)) (dv_cons (pd_ixv (pv 3) (pd_var (pv 4)) (fun _ _ => rfl)) dv_nil se_Subscript) se_Subscript)) (dv_cons pd_int dv_nil se_Constant) se_Tuple) se_Tuple) se_Tuple))) (by rfl) (by rfl) (by intro _; rfl))))))), fun ds Q hl h => ?_⟩)
 obtain ⟨n, k, w, rfl, n1, n2, q⟩ := h
 have en : ((n : Nat) : Int) - 1 + 1 = ((n : Nat) : Int) := by omega
 have et : ((n : Nat) : Int).toNat = n := by simp
 array_mem_dec
 rw [en, et, rngD0]
 refine ⟨⟨by omega, by omega⟩, ⟨rfl, by rw [List.length_map, List.length_range]; omega⟩, ?_⟩
 refine compM (f := fun l => oD (stepF (((n : Nat) : Int) - 1) ((l : Nat) : Int) w.2.2)) (fun l hl Q' q' => ?_) ?_
 ·decreasing_tactic
  exact ⟨_, _, _, rfl, q'⟩
 rw [List.nil_append]
 refine go ?_
 array_get_dec
 rw [en, et, rngD0]
 refine ⟨⟨by omega, by omega⟩, ⟨rfl, by rw [List.length_map, List.length_range]; omega⟩, ?_⟩
 have hat : ∀ l ∈ List.range n, atI ((List.range n).map fun l => oD (stepF (((n : Nat) : Int) - 1) ((l : Nat) : Int) w.2.2)) ((l : Nat) : Int) = some (oD (stepF (((n : Nat) : Int) - 1) ((l : Nat) : Int) w.2.2)) := fun l hl => atI_nat (by rw [List.getElem?_map, List.getElem?_range (List.mem_range.mp hl)]; rfl)
 refine compF (p := fun l => (stepF (((n : Nat) : Int) - 1) ((l : Nat) : Int) w.2.2).isSome) (f := fun l => mvD (.tuple [.str "way", .int ((k : Nat) : Int)], ((w.1, l), (w.2.1, ((stepF (((n : Nat) : Int) - 1) ((l : Nat) : Int) w.2.2).getD 0).toNat), 0))) (fun l hl Q' q' => ?_) (fun l hl hp Q' q' => ?_) ?_
 ·decreasing_tactic
  rw [hat l hl]
  cases e : stepF (((n : Nat) : Int) - 1) ((l : Nat) : Int) w.2.2 with
  | none =>
   rw [e] at q'
   decreasing_trivial
   exact q'
  | some x =>
   rw [e] at q'
   decreasing_trivial
   exact q'
 ·decreasing_tactic
  rw [hat l hl]
  cases e : stepF (((n : Nat) : Int) - 1) ((l : Nat) : Int) w.2.2 with
  | none => rw [e] at hp; cases hp
  | some x =>
   rw [e] at q'
   obtain ⟨x0, x1⟩ := step_bd (by omega) e
   have ex : ((((some x).getD 0).toNat : Nat) : Int) = x := by show ((x.toNat : Nat) : Int) = x; omega
   unfold mvD sptD at q'
   have q2 := q'
   dsimp only at q2
   rw [ex] at q2
   decreasing_trivial
   exact ⟨by decide, by decide, by decide, by decide, q2⟩
 ·rw [List.nil_append]
  unfold mvW at q
  rw [List.map_map] at q
  exact q
theorem ok_moves_by_price (T : Txt K mg) : FnOk P w K mg base CX0 1 T.a_moves_by_price T.d_moves_by_price ["store", "place", "price"] (spD [.sh, .sh, .sh] spMvPD) := by
 refine fn_d T.F_moves_by_price sc_moves_by_price rfl (fun C cdv A outer s H E hr => ⟨_, (@dss_one _ _ _ _ (@ds_ret _ _ _ _ _ (@pd_f _ _ _ _ (@pf_comp _ _ _ _ _ _ _ _ rfl (@pe_comp _ _ _ _ _ _ _ _ _ _ _ _ _ _ _ (CompSc.new (N := ["store", "place", "price"]) (osc := defScope s_moves_by_price) (by decide +kernel)) rfl (di_rngD (pi_rangeD rfl T.n_range (dv_cons (pd_op op_sub ok_sub (pd_var (pv 0)) pd_int) (dv_cons (pd_neg pd_int) (dv_cons (pd_neg pd_int) dv_nil se_UnaryOp) se_UnaryOp) se_BinOp))) (fun _ => dts_nil) (fun _ => (@pd_tup _ _ _ _ _ _ (@dv_cons _ _ _ _ _ _ (pd_tup (dv_cons (pd_gs (pe_glob (v := V.str "buy") rfl T.mg_BUY ⟨_, rfl⟩)) (dv_cons pd_int dv_nil se_Constant) se_Name)) (dv_cons (pd_tup (dv_cons (pd_var (pv 1)) (dv_cons (pd_var (pv 3)) dv_nil se_Name) se_Name)) (dv_cons (pd_tup (dv_cons (pd_var (pv 1)) (dv_cons (pd_op op_add ok_add (pd_var (pv 3)) pd_int) dv_nil se_BinOp) se_Name)) (dv_cons (pd_var (pv 2)) dv_nil se_Name) se_Tuple) se_Tuple) se_Tuple))) (by rfl) (by rfl) (by intro _; rfl)))))), fun ds Q hl h => ?_⟩)
 obtain ⟨n, p, c, rfl, n1, n2, q⟩ := h
 array_mem_dec
 rw [show (((n : Nat) : Int) - 1 - 1 - -1).toNat = n - 1 by omega, show downD (((n : Nat) : Int) - 1 - 1) (n - 1) = (List.range (n - 1)).map fun i => PyData.int ((((n - 2 - i : Nat)) : Nat) : Int) from List.map_congr_left fun i hi => by have := List.mem_range.mp hi; rw [show ((n : Nat) : Int) - 1 - 1 - ((i : Nat) : Int) = ((n - 2 - i : Nat) : Int) by omega]]
 refine ⟨rfl, ⟨by omega, by omega, by omega, by omega⟩, ⟨rfl, by rw [List.length_map, List.length_range]; omega⟩, ?_⟩
 refine compM (f := fun i => mvD (.tuple [.str "buy", .int 1], ((p, n - 2 - i), (p, n - 2 - i + 1), c))) (fun i hi Q' q' => ?_) ?_
 ·decreasing_trivial
  exact ⟨by decide, by decide, by decide, by decide, q'⟩
 ·rw [List.nil_append]
  unfold mvP at q
  rw [List.map_map] at q
  exact q
end
theorem enum_ways {ws : List Wy} : enumD (ws.map wayD) = ws.zipIdx.map fun p => .tuple [.int ((p.2 : Nat) : Int), wayD p.1] := by
 unfold enumD
 rw [List.zipIdx_map, List.map_map]
 rfl
theorem enum_tab {t : List (Option Int)} : enumD (tabL t) = t.zipIdx.map fun p => .tuple [.int ((p.2 : Nat) : Int), oD p.1] := by
 unfold enumD tabL
 rw [List.zipIdx_map, List.map_map]
 rfl
def mvPs (n : Nat) (x : Option Int × Nat) : List (PyData × Mv) := match x.1 with
 | none => []
 | some c => mvP n x.2 c
def mvAll (n : Nat) (ws : List Wy) (pr : List (Option Int)) : List (PyData × Mv) := (ws.zipIdx.flatMap fun p => mvW (((n : Nat) : Int) - 1) n p.2 p.1) ++ pr.zipIdx.flatMap (mvPs n)
theorem mvW_len {st : Int} {n k : Nat} {w : Wy} : (mvW st n k w).length ≤ n := by
 unfold mvW
 rw [List.length_map]
 exact Nat.le_trans (List.length_filter_le _ _) (by rw [List.length_range]; omega)
theorem mvP_len {n p : Nat} {c : Int} : (mvP n p c).length ≤ n := by unfold mvP; rw [List.length_map, List.length_range]; omega
def spMvsD : DSp := fun ds Q => ∃ (m n : Nat) (ws : List Wy) (pr : List (Option Int)), ds = [landD m ws, .int (((n : Nat) : Int) - 1), .list (tabL pr)] ∧ 1 ≤ n ∧ n ≤ 100 ∧ ws.length ≤ 60 ∧ pr.length ≤ 60 ∧ Q (.list ((mvAll n ws pr).map mvD))
section
variable {P : Program} {w : World} {K : PySem.W.Frag} {mg : Str → Option Value} {base : Heap}
theorem ok_all_moves (T : Txt K mg) : FnOk P w K mg base CX0 3 T.a_all_moves T.d_all_moves ["land", "store", "prices"] (spD [.bd, .sh, .bd] spMvsD) := by
 have G_moves_by_way := @ok_moves_by_way P w K mg base T
 have b_moves_by_way := bd_moves_by_way T
 have G_moves_by_price := @ok_moves_by_price P w K mg base T
 have b_moves_by_price := bd_moves_by_price T
 refine fn_d T.F_all_moves sc_all_moves rfl (fun C cdv A outer s H E hr => ⟨_, (@dss_consG _ _ _ _ _ _ (ds_own (ps_set (i := 3) sc_all_moves.nd rfl (Or.inl rfl) (pf_lst dv_nil))) (@dss_consG _ _ _ _ _ _ (@ds_for _ _ _ _ _ _ (@ps_for _ _ _ _ _ _ _ _ PassesOwn.never rfl (di_enumL (pi_enum rfl T.n_enumerate (pa_cons (pl_ix (pl_var (pv 0)) (pd_gi (pe_glob (v := V.int 1) rfl T.mg_WAYS ⟨_, rfl⟩)) (fun _ _ => rfl)) pa_nil se_Subscript))) (dg_t2 (pg_tup (n := 2) rfl (pgs_cons (pg_name (i := 4) sc_all_moves.nd rfl (Or.inl rfl)) (pgs_cons (pg_name (i := 5) sc_all_moves.nd rfl (Or.inl rfl)) pgs_nil)))) (@dss_one _ _ _ _ (@ds_ext _ _ _ _ _ _ (@ps_expr _ _ _ _ (@pe_bm _ _ _ _ _ _ _ _ _ _ _ _ PySem.F.plainAttrs_list PySem.F.slot_list_extend PySem.F.type_list_extend mt_extend (pv 3) (pa_cons (pd_call (pe_call G_moves_by_way (hr.mono (by decide)) rfl T.mg_moves_by_way T.kp_moves_by_way b_moves_by_way .nil pass0 (da_v (pd_var (pv 1)) (da_v (pd_var (pv 4)) (da_v (pd_var (pv 5)) da_nil se_Name) se_Name) se_Name) (he := se_Name) (hpl := (np_cons se_Name (np_cons se_Name np_nil))))) pa_nil se_Call) (by rfl) (by rfl) (by rfl) (by rfl) (by rfl)) (by rfl)))) (by intro _; rfl))) (@dss_consG _ _ _ _ _ _ (@ds_for _ _ _ _ _ _ (@ps_for _ _ _ _ _ _ _ _ PassesOwn.never rfl (di_enumL (pi_enum rfl T.n_enumerate (pa_cons (pl_var (pv 2)) pa_nil se_Name))) (dg_t2 (pg_tup (n := 2) rfl (pgs_cons (pg_name (i := 6) sc_all_moves.nd rfl (Or.inl rfl)) (pgs_cons (pg_name (i := 7) sc_all_moves.nd rfl (Or.inl rfl)) pgs_nil)))) (@dss_one _ _ _ _ (@ds_if _ _ _ _ _ _ _ _ _ (pdt_cmp op_notN ok_notN (pd_var (pv 7)) pd_non (nomark _)) (@dss_one _ _ _ _ (@ds_ext _ _ _ _ _ _ (@ps_expr _ _ _ _ (@pe_bm _ _ _ _ _ _ _ _ _ _ _ _ PySem.F.plainAttrs_list PySem.F.slot_list_extend PySem.F.type_list_extend mt_extend (pv 3) (pa_cons (pd_call (pe_call G_moves_by_price (hr.mono (by decide)) rfl T.mg_moves_by_price T.kp_moves_by_price b_moves_by_price .nil pass0 (da_v (pd_var (pv 1)) (da_v (pd_var (pv 6)) (da_v (pd_var (pv 7)) da_nil se_Name) se_Name) se_Name) (he := se_Name) (hpl := (np_cons se_Name (np_cons se_Name np_nil))))) pa_nil se_Call) (by rfl) (by rfl) (by rfl) (by rfl) (by rfl)) (by rfl)))) dss_nil)) (by intro _; rfl))) (dss_one (ds_ret (pd_var (pv 3))))))), fun ds Q hl h => ?_⟩)
 obtain ⟨m, n, ws, pr, rfl, n1, n2, w2, p2, q⟩ := h
 decreasing_tactic
 refine ⟨by decide, ?_⟩
 refine go ?_
 array_get_dec
 unfold landD
 array_get_dec
 rw [enum_ways]
 refine ⟨flat_ways ws, ?_⟩
 refine ⟨fun r ρ => ∃ (R : List (Wy × Nat)) (acc : List (PyData × Mv)) (z4 z5 : Sl), r = R.map (fun p => .tuple [.int ((p.2 : Nat) : Int), wayD p.1]) ∧ ρ = [Sl.bd (.tuple [.int ((m : Nat) : Int), .list (ws.map wayD)]), Sl.sh (.int (((n : Nat) : Int) - 1)), Sl.bd (.list (tabL pr)), Sl.ow (acc.map mvD), z4, z5, .no, .no] ∧ acc ++ (R.flatMap fun p => mvW (((n : Nat) : Int) - 1) n p.2 p.1) = (ws.zipIdx.flatMap fun p => mvW (((n : Nat) : Int) - 1) n p.2 p.1) ∧ acc.length + R.length * 100 ≤ 6000, ⟨ws.zipIdx, [], _, _, rfl, rfl, rfl, by rw [List.length_zipIdx]; simp; omega⟩, ?_, ?_⟩
 ·rintro x r ρ ⟨R, acc, z4, z5, h1, rfl, hA, hL⟩
  cases R with
  | nil => cases h1
  | cons y R =>
   cases (show x :: r = PyData.tuple [.int ((y.2 : Nat) : Int), wayD y.1] :: R.map (fun p => .tuple [.int ((p.2 : Nat) : Int), wayD p.1]) from h1)
   rw [List.length_cons] at hL
   have hl1 := @mvW_len (((n : Nat) : Int) - 1) n y.2 y.1
   sizeOf_list_dec
   refine ⟨n, y.2, y.1, rfl, n1, by omega, ?_⟩
   decreasing_tactic
   refine ⟨by rw [List.length_map, List.length_map]; omega, R, acc ++ mvW (((n : Nat) : Int) - 1) n y.2 y.1, _, _, rfl, by rw [List.map_append], by rw [List.append_assoc, ← hA, List.flatMap_cons], by rw [List.length_append]; omega⟩
 rintro ρ ⟨R, acc, z4, z5, h1, rfl, hA, hL⟩
 cases R with
 | cons y R => cases h1
 | nil =>
  have hA' : acc = ws.zipIdx.flatMap fun p => mvW (((n : Nat) : Int) - 1) n p.2 p.1 := by rw [← hA]; simp
  refine go ?_
  array_get_dec
  rw [enum_tab]
  refine ⟨flat_tabs pr, ?_⟩
  refine ⟨fun r ρ => ∃ (R : List (Option Int × Nat)) (bcc : List (PyData × Mv)) (z6 z7 : Sl), r = R.map (fun p => .tuple [.int ((p.2 : Nat) : Int), oD p.1]) ∧ ρ = [Sl.bd (.tuple [.int ((m : Nat) : Int), .list (ws.map wayD)]), Sl.sh (.int (((n : Nat) : Int) - 1)), Sl.bd (.list (tabL pr)), Sl.ow ((acc ++ bcc).map mvD), z4, z5, z6, z7] ∧ bcc ++ R.flatMap (mvPs n) = pr.zipIdx.flatMap (mvPs n) ∧ bcc.length + R.length * 100 ≤ 6000, ⟨pr.zipIdx, [], _, _, rfl, by rw [List.append_nil], rfl, by rw [List.length_zipIdx]; simp; omega⟩, ?_, ?_⟩
  ·rintro x r ρ ⟨R, bcc, z6, z7, h1, rfl, hB, hM⟩
   cases R with
   | nil => cases h1
   | cons y R =>
    cases (show x :: r = PyData.tuple [.int ((y.2 : Nat) : Int), oD y.1] :: R.map (fun p => .tuple [.int ((p.2 : Nat) : Int), oD p.1]) from h1)
    obtain ⟨o, k⟩ := y
    rw [List.length_cons] at hM
    cases o with
    | none =>
     sizeOf_list_dec
     decreasing_trivial
     exact ⟨R, bcc, _, _, rfl, rfl, by rw [← hB, List.flatMap_cons]; rfl, by omega⟩
    | some c =>
     have hl1 := @mvP_len n k c
     sizeOf_list_dec
     decreasing_trivial
     refine ⟨n, k, c, rfl, n1, by omega, ?_⟩
     decreasing_trivial
     rw [← List.map_append, List.append_assoc]
     refine ⟨by rw [List.length_map, List.length_map, List.length_append]; rw [List.length_nil] at hL; omega, R, bcc ++ mvP n k c, _, _, rfl, rfl, by rw [List.append_assoc, ← hB, List.flatMap_cons]; rfl, by rw [List.length_append]; omega⟩
  ·rintro ρ ⟨R, bcc, z6, z7, h1, rfl, hB, hM⟩
   cases R with
   | cons y R => cases h1
   | nil =>
    have hB' : bcc = pr.zipIdx.flatMap (mvPs n) := by rw [← hB]; simp
    refine go ?_
    decreasing_tactic
    rw [hA', hB']
    exact q
end
theorem compO {α : Type} {tf : DF} {ρ : List Sl} {Q : List (List PyData) → Prop} {g : α → PyData} {f : α → List PyData} : ∀ {xs : List α} {acc : List (List PyData)}, (∀ x ∈ xs, ∀ Q' : List PyData → List Sl → Prop, Q' (f x) (ρ ++ [.sh (g x)]) → tf (ρ ++ [.sh (g x)]) Q') → Q (acc ++ xs.map f) → dCompLO tf ρ Q (xs.map g) acc
 | [], acc, _, q => by
  have q' : Q (acc ++ []) := q
  rw [List.append_nil] at q'
  exact q'
 | x :: r, acc, h, q => by
  refine h x List.mem_cons_self _ ⟨rfl, compO (fun y hy => h y (List.mem_cons_of_mem _ hy)) ?_⟩
  rw [List.append_assoc]
  exact q
theorem rep_one (x : PyData) : ∀ n : Nat, repD [x] n = List.replicate n x
 | 0 => rfl
 | n + 1 => by
  show [x] ++ repD [x] n = _
  rw [rep_one x n]; rfl
def Goal (m n k : Nat) (g : Spt) (t : Ct) : Prop := ∀ s : Spt, s.1 < m → s.2 < n → ca t s = if s.1 = g.1 ∧ g.2 ≤ s.2 ∧ s.2 < k then some 0 else none
def spGoalO : DSpO := fun ds Q => ∃ (m n : Nat) (ws : List Wy) (g : Spt), ds = [landD m ws, .int (((n : Nat) : Int) - 1), sptD g] ∧ 1 ≤ n ∧ n ≤ 100 ∧ m ≤ 60 ∧ g.1 < m ∧ g.2 < n ∧ ∀ t, CtOk m n t → Goal m n n g t → Q (rowsC t)
theorem rows_put {m n : Nat} {t : Ct} {s : Spt} {o : Option Int} (h : CtOk m n t) (h1 : s.1 < m) : (rowsC t).set s.1 ((tabL (t.getD s.1 [])).set s.2 (oD o)) = rowsC (putC t s o) := by
 unfold rowsC putC tabL
 rw [List.map_set, List.map_set]
theorem rows_get {m n : Nat} {t : Ct} {p : Nat} (h : CtOk m n t) (hp : p < m) : (rowsC t)[p]? = some (tabL (t.getD p [])) := by
 have hl : p < t.length := by rw [h.len]; exact hp
 unfold rowsC
 rw [List.getElem?_map, List.getElem?_eq_getElem hl, List.getD_eq_getElem?_getD, List.getElem?_eq_getElem hl]; rfl
theorem rows_len {m n : Nat} {t : Ct} (h : CtOk m n t) : (rowsC t).length = m := by unfold rowsC; rw [List.length_map]; exact h.len
theorem rng_cons' {lo : Int} {N k : Nat} {x : PyData} {r : List PyData} (h : x :: r = (rngD lo N).drop k) : x = .int (lo + ((k : Nat) : Int)) ∧ r = (rngD lo N).drop (k + 1) ∧ k < N := by
 have hk : k < (rngD lo N).length := by
  rcases Nat.lt_or_ge k (rngD lo N).length with c | c
  ·exact c
  ·rw [List.drop_of_length_le c] at h; cases h
 rw [List.drop_eq_getElem_cons hk] at h
 injection h with h1 h2
 obtain ⟨hk', e⟩ := rngD_get (List.getElem?_eq_getElem hk)
 exact ⟨by rw [h1, e], h2, hk'⟩
theorem rng_nil' {lo : Int} {N k : Nat} (h : [] = (rngD lo N).drop k) : N ≤ k := by
 have := congrArg List.length h
 unfold rngD at this
 simp at this
 omega
theorem none_ca {m n : Nat} (s : Spt) : ca (tabC m n fun _ => none) s = none := by
 by_cases c : s.1 < m ∧ s.2 < n
 ·exact tabC_ca c.1 c.2
 ·exact ca_out (tabC_ok (m := m) (n := n) fun _ _ _ _ e => by cases e) c
section
variable {P : Program} {w : World} {K : PySem.W.Frag} {mg : Str → Option Value} {base : Heap}
theorem ok_costs_at_goal (T : Txt K mg) : FnOk P w K mg base CX0 1 T.a_costs_at_goal T.d_costs_at_goal ["land", "store", "goal"] (spDO [.bd, .sh, .sh] spGoalO) := by
 refine fn_dO T.F_costs_at_goal sc_costs_at_goal rfl (fun C cdv A outer s H E hr => ⟨_, (@dss_consG _ _ _ _ _ _ (@ds_own2C _ _ _ _ _ _ _ _ rfl (@ps_setC _ _ _ _ _ _ _ _ _ _ _ _ _ 3 _ _ _ _ _ sc_costs_at_goal.nd rfl (Or.inl rfl) (CompSc.new (N := ["land", "store", "goal", "costs", "level"]) (osc := defScope s_costs_at_goal) (by decide +kernel)) rfl (di_rng1 (pi_range1 rfl T.n_range (dv_cons (pd_flat (pl_ix (pl_var (pv 0)) (pd_gi (pe_glob (v := V.int 0) rfl T.mg_MANY ⟨_, rfl⟩)) (fun _ _ => rfl))) dv_nil se_Subscript))) (fun _ => dts_nil) (fun _ => (pf_rep (pd_f (pf_lst (dv_cons pd_non dv_nil se_Constant))) (pd_op op_add ok_add (pd_var (pv 1)) pd_int))) (by rfl) (by first | exact .inl rfl | exact .inr rfl | assumption) (by rfl) (by rfl) (by intro _; rfl))) (@dss_consG _ _ _ _ _ _ (@ds_for _ _ _ _ _ _ (@ps_for _ _ _ _ _ _ _ _ PassesOwn.never rfl (di_rng2 (pi_range2 rfl T.n_range (dv_cons (pd_ixv (pv 2) (pd_gi (pe_glob (v := V.int 1) rfl T.mg_LEVEL ⟨_, rfl⟩)) (fun _ _ => rfl)) (dv_cons (pd_op op_add ok_add (pd_var (pv 1)) pd_int) dv_nil se_BinOp) se_Subscript))) (dg_name (pg_name (i := 4) sc_costs_at_goal.nd rfl (Or.inl rfl))) (dss_one (ds_set2 (ps_asg pd_int (pg_sub (pe_ix ix_seq (pv 3) (pp_ix (pp_var (pv 2)) (pp_gi (pe_glob (v := V.int 0) rfl T.mg_PLACE ⟨_, rfl⟩)) (fun _ _ => rfl)) (fun _ _ => rfl)) (pp_var (pv 4)) set_list)))) (by intro _; rfl))) (dss_one (ds_ret2 (pv 3))))), fun ds Q hl h => ?_⟩)
 obtain ⟨m, n, ws, g, rfl, n1, n2, m2, g1, g2, q⟩ := h
 array_mem_dec
 rw [show ((m : Nat) : Int).toNat = m by simp, rngD0]
 refine ⟨rfl, ⟨by omega, by omega⟩, ⟨rfl, by rw [List.length_map, List.length_range]; omega⟩, ?_⟩
 refine compO (f := fun _ => List.replicate n PyData.none) (fun p hp Q' q' => ?_) ?_
 ·decreasing_tactic
  rw [show (((n : Nat) : Int) - 1 + 1).toNat = n by omega, rep_one]
  exact ⟨by decide, ⟨by omega, by omega, by decide⟩, q'⟩
 rw [List.nil_append, show List.map (fun _ => List.replicate n PyData.none) (List.range m) = rowsC (tabC m n fun _ => none) from by
  unfold rowsC tabC tabL
  rw [List.map_map]
  refine List.map_congr_left fun p _ => ?_
  show List.replicate n PyData.none = List.map oD ((List.range n).map fun _ => none)
  rw [List.map_map]
  show _ = List.map (fun _ => PyData.none) (List.range n)
  rw [List.map_const', List.length_range]]
 refine go ?_; array_mem_dec
 rw [show (((n : Nat) : Int) - 1 + 1 - ((g.2 : Nat) : Int)).toNat = n - g.2 by omega]
 refine ⟨⟨by omega, by omega, by omega, by omega⟩, ?_⟩
 refine ⟨fun r ρ => ∃ (k : Nat) (t : Ct) (z4 : Sl), r = (rngD ((g.2 : Nat) : Int) (n - g.2)).drop k ∧ ρ = [Sl.bd (.tuple [.int ((m : Nat) : Int), .list (ws.map wayD)]), Sl.sh (.int (((n : Nat) : Int) - 1)), Sl.sh (.tuple [.int ((g.1 : Nat) : Int), .int ((g.2 : Nat) : Int)]), Sl.o2 (rowsC t), z4] ∧ k ≤ n - g.2 ∧ CtOk m n t ∧ Goal m n (g.2 + k) g t, ⟨0, _, _, rfl, rfl, Nat.zero_le _, tabC_ok (fun _ _ _ _ e => by cases e), fun s s1 s2 => ?_⟩, ?_, ?_⟩
 ·rw [none_ca, if_neg (by omega)]
 ·rintro x r ρ ⟨k, t, z4, h1, rfl, hk0, ok, hG⟩
  obtain ⟨rfl, rfl, hk⟩ := rng_cons' h1
  rw [show ((g.2 : Nat) : Int) + ((k : Nat) : Int) = ((g.2 + k : Nat) : Int) by omega]
  have hl2 : g.2 + k < n := by omega
  sizeOf_list_dec
  rw [rows_len ok, ixN_nat g1]
  decreasing_tactic
  rw [rows_get ok g1]
  decreasing_tactic
  rw [len_tab, row_len ok g1, ixN_nat hl2]
  decreasing_tactic
  rw [show PyData.int 0 = oD (some 0) from rfl, rows_put (s := (g.1, g.2 + k)) ok g1]
  refine ⟨k + 1, _, _, rfl, rfl, by omega, put_ok (s := (g.1, g.2 + k)) ok g1 hl2 (Int.le_refl 0), fun s s1 s2 => ?_⟩
  rw [put_ca (s := (g.1, g.2 + k)) ok g1 hl2, hG s s1 s2]
  by_cases c : (g.1, g.2 + k) = s
  ·rw [if_pos c, ← c, if_pos ⟨rfl, by show g.2 ≤ g.2 + k; omega, by show g.2 + k < g.2 + (k + 1); omega⟩]
  ·rw [if_neg c]
   have nc : ¬ (s.1 = g.1 ∧ s.2 = g.2 + k) := fun z => c (Prod.ext z.1.symm z.2.symm)
   by_cases d : s.1 = g.1 ∧ g.2 ≤ s.2 ∧ s.2 < g.2 + k
   ·rw [if_pos d, if_pos ⟨d.1, d.2.1, by omega⟩]
   ·rw [if_neg d, if_neg (fun z => d ⟨z.1, z.2.1, by have := z.1; omega⟩)]
 ·rintro ρ ⟨k, t, z4, h1, rfl, hk0, ok, hG⟩
  have := rng_nil' h1
  have e : g.2 + k = n := by omega
  rw [e] at hG
  refine go ?_
  decreasing_tactic
  exact q t ok hG
end
theorem mvW_mem {st : Int} {n k : Nat} {w : Wy} {x : PyData × Mv} (h : x ∈ mvW st n k w) : ∃ (l : Nat) (y : Int), l < n ∧ stepF st ((l : Nat) : Int) w.2.2 = some y ∧ x.2 = ((w.1, l), (w.2.1, y.toNat), 0) := by
 obtain ⟨l, hl, rfl⟩ := List.mem_map.mp h
 obtain ⟨h1, h2⟩ := List.mem_filter.mp hl
 cases e : stepF st ((l : Nat) : Int) w.2.2 with
 | none => rw [e] at h2; cases h2
 | some y => exact ⟨l, y, List.mem_range.mp h1, e, rfl⟩
theorem mvP_mem {n p : Nat} {c : Int} {x : PyData × Mv} (h : x ∈ mvP n p c) : ∃ l : Nat, l + 1 < n ∧ x.2 = ((p, l), (p, l + 1), c) := by
 obtain ⟨i, hi, rfl⟩ := List.mem_map.mp h
 have := List.mem_range.mp hi
 exact ⟨n - 2 - i, by omega, rfl⟩
theorem zip_mem {α : Type} {xs : List α} {x : α} (h : x ∈ xs) : ∃ k, (x, k) ∈ xs.zipIdx := by
 obtain ⟨k, hk, e⟩ := List.mem_iff_getElem.mp h
 exact ⟨k, by rw [List.mem_zipIdx_iff_getElem?]; show xs[k]? = some x; rw [List.getElem?_eq_getElem hk, e]⟩
theorem mvs_all (n : Nat) (ws : List Wy) (pr : List (Option Int)) : Mvs n ws pr ((mvAll n ws pr).map fun x => x.2) where
 only := fun v hv => by
  obtain ⟨x, hx, rfl⟩ := List.mem_map.mp hv
  rcases List.mem_append.mp hx with z | z
  ·obtain ⟨⟨w, k⟩, hw, hx⟩ := List.mem_flatMap.mp z
   obtain ⟨l, y, h1, h2, h3⟩ := mvW_mem hx
   have hm : w ∈ ws := by
    rw [List.mem_zipIdx_iff_getElem?] at hw
    exact List.mem_of_getElem? hw
   exact .inl ⟨w, hm, l, y, h1, h2, h3⟩
  ·obtain ⟨⟨o, k⟩, ho, hx⟩ := List.mem_flatMap.mp z
   rw [List.mem_zipIdx_iff_getElem?] at ho
   have ho' : pr[k]? = some o := ho
   cases o with
   | none => cases hx
   | some c =>
    obtain ⟨l, h1, h2⟩ := mvP_mem (show x ∈ mvP n k c from hx)
    exact .inr ⟨k, l, c, by unfold gt; rw [ho']; rfl, h1, h2⟩
 way := fun w hw l x hl hx => by
  obtain ⟨k, hk⟩ := zip_mem hw
  refine List.mem_map.mpr ⟨(.tuple [.str "way", .int ((k : Nat) : Int)], ((w.1, l), (w.2.1, ((stepF (((n : Nat) : Int) - 1) ((l : Nat) : Int) w.2.2).getD 0).toNat), 0)), List.mem_append_left _ (List.mem_flatMap.mpr ⟨(w, k), hk, List.mem_map.mpr ⟨l, List.mem_filter.mpr ⟨List.mem_range.mpr hl, by rw [hx]; rfl⟩, rfl⟩⟩), ?_⟩
  dsimp only
  rw [hx]; rfl
 buy := fun p l c hc hl => by
  have hp : pr[p]? = some (some c) := by
   unfold gt at hc
   cases q : pr[p]? with
   | none => rw [q] at hc; cases hc
   | some o => rw [q] at hc; exact congrArg some hc
  have hk : (some c, p) ∈ pr.zipIdx := by rw [List.mem_zipIdx_iff_getElem?]; exact hp
  refine List.mem_map.mpr ⟨(.tuple [.str "buy", .int 1], ((p, n - 2 - (n - 2 - l)), (p, n - 2 - (n - 2 - l) + 1), c)), List.mem_append_right _ (List.mem_flatMap.mpr ⟨(some c, p), hk, List.mem_map.mpr ⟨n - 2 - l, List.mem_range.mpr (by omega), rfl⟩⟩), ?_⟩
  dsimp only
  rw [show n - 2 - (n - 2 - l) = l by omega]
structure Mkt (m n P : Nat) (ws : List Wy) (pr : List (Option Int)) (g : Spt) : Prop where
 n1 : 1 ≤ n
 n2 : n ≤ 100
 m2 : m ≤ 60
 w2 : ws.length ≤ 60
 p2 : pr.length ≤ 60
 way : ∀ w ∈ ws, w.1 < m ∧ w.2.1 < m
 pri : ∀ p c, gt pr p = some c → p < m ∧ 0 ≤ c ∧ c ≤ ((P : Nat) : Int)
 g1 : g.1 < m
 g2 : g.2 < n
theorem Mkt.inn {m n P : Nat} {ws : List Wy} {pr : List (Option Int)} {g : Spt} (M : Mkt m n P ws pr g) {v : Mv} (hv : v ∈ (mvAll n ws pr).map fun x => x.2) : v.1.1 < m ∧ v.1.2 < n ∧ v.2.1.1 < m ∧ v.2.1.2 < n ∧ 0 ≤ v.2.2 ∧ v.2.2 ≤ ((P : Nat) : Int) := by
 have n1 := M.n1
 rcases (mvs_all n ws pr).only v hv with ⟨w, hw, l, x, hl, hx, rfl⟩ | ⟨p, l, c, hc, hl, rfl⟩
 ·obtain ⟨b0, b1⟩ := step_bd (st := (n : Int) - 1) (by omega) hx
  obtain ⟨a1, a2⟩ := M.way w hw
  exact ⟨a1, hl, a2, show x.toNat < n by omega, Int.le_refl 0, by show (0 : Int) ≤ _; omega⟩
 ·obtain ⟨a1, a2, a3⟩ := M.pri p c hc
  exact ⟨a1, show l < n by omega, a1, hl, a2, a3⟩
structure Ci (m n : Nat) (mv : List Mv) (g : Spt) (t : Ct) : Prop where
 ok : CtOk m n t
 at0 : ∀ l, g.2 ≤ l → l < n → ca t (g.1, l) = some 0
 top : ∀ u, CtOk m n u → Flr n mv g u → ∀ s, leX (ca u s) (ca t s)
theorem ci_start {m n : Nat} {mv : List Mv} {g : Spt} {t : Ct} (g1 : g.1 < m) (ok : CtOk m n t) (hG : Goal m n n g t) : Ci m n mv g t := by
 refine ⟨ok, fun l h1 h2 => ?_, fun u hu hf s => ?_⟩
 ·rw [hG (g.1, l) g1 h2, if_pos ⟨rfl, h1, h2⟩]
 ·by_cases c : s.1 < m ∧ s.2 < n
  ·rw [hG s c.1 c.2]
   split
   ·rename_i d
    have := hf.at0 s.2 d.2.1 d.2.2
    rw [← d.1] at this
    rw [show ca u s = some 0 from this]
    exact leX_refl _
   ·exact .inl rfl
  ·exact .inl (ca_out ok c)
theorem ci_put {m n P : Nat} {ws : List Wy} {pr : List (Option Int)} {g : Spt} {t : Ct} {v : Mv} {y : Int} (M : Mkt m n P ws pr g) (hv : v ∈ (mvAll n ws pr).map fun x => x.2) (I : Ci m n ((mvAll n ws pr).map fun x => x.2) g t) (hy : ca t v.2.1 = some y) (hn : ¬ leX (ca t v.1) (addO (ca t v.2.1) v.2.2)) : Ci m n ((mvAll n ws pr).map fun x => x.2) g (putC t v.1 (some (y + v.2.2))) ∧ mC P (putC t v.1 (some (y + v.2.2))) < mC P t := by
 obtain ⟨a1, a2, a3, a4, c0, cP⟩ := M.inn hv
 have y0 := I.ok.low _ y hy
 have ea : addO (ca t v.2.1) v.2.2 = some (y + v.2.2) := by rw [hy]; rfl
 rw [ea] at hn
 refine ⟨⟨put_ok I.ok a1 a2 (by omega), fun l h1 h2 => ?_, fun u hu hf s => ?_⟩, mC_fall I.ok a1 a2 a3 a4 hy c0 cP hn⟩
 ·rw [put_ca I.ok a1 a2]
  by_cases c : v.1 = (g.1, l)
  ·rw [c, I.at0 l h1 h2] at hn
   exact absurd (.inr ⟨0, y + v.2.2, rfl, rfl, by omega⟩) hn
  ·rw [if_neg c]; exact I.at0 l h1 h2
 ·have := below_put I.ok a1 a2 hv hf (I.top u hu hf) s
  rw [ea] at this; exact this
theorem ci_best {m n : Nat} {mv : List Mv} {g : Spt} {t : Ct} (I : Ci m n mv g t) (h : ∀ v ∈ mv, leX (ca t v.1) (addO (ca t v.2.1) v.2.2)) : Best m n mv g t := ⟨I.ok, ⟨I.at0, h⟩, I.top⟩
abbrev MvX := PyData × Mv
abbrev OnT := List (List (Option MvX))
def oa (oo : OnT) (s : Spt) : Option MvX := gt (oo.getD s.1 []) s.2
def onX : Option MvX → PyData
 | none => .none
 | some x => mvD x
def onsR (oo : OnT) : List (List PyData) := oo.map fun r => r.map onX
def putO (oo : OnT) (s : Spt) (x : MvX) : OnT := oo.set s.1 ((oo.getD s.1 []).set s.2 (some x))
structure OnSh (m n : Nat) (oo : OnT) : Prop where
 len : oo.length = m
 row : ∀ r ∈ oo, r.length = n
theorem OnSh.at {m n : Nat} {oo : OnT} (h : OnSh m n oo) {p : Nat} (hp : p < m) : oo[p]? = some (oo.getD p []) ∧ (oo.getD p []).length = n := by
 have hl : p < oo.length := by rw [h.len]; exact hp
 have e : oo.getD p [] = oo[p] := by rw [List.getD_eq_getElem?_getD, List.getElem?_eq_getElem hl]; rfl
 exact ⟨by rw [e]; exact List.getElem?_eq_getElem hl, by rw [e]; exact h.row _ (List.getElem_mem hl)⟩
theorem OnSh.put {m n : Nat} {oo : OnT} (h : OnSh m n oo) {s : Spt} {x : MvX} (h1 : s.1 < m) : OnSh m n (putO oo s x) := by
 refine ⟨by unfold putO; rw [List.length_set]; exact h.len, fun r hr => ?_⟩
 rcases List.mem_or_eq_of_mem_set hr with z | z
 ·exact h.row r z
 ·rw [z, List.length_set]; exact (h.at h1).2
theorem oa_put {m n : Nat} {oo : OnT} (h : OnSh m n oo) {s : Spt} {x : MvX} (h1 : s.1 < m) (h2 : s.2 < n) (q : Spt) : oa (putO oo s x) q = if s = q then some x else oa oo q := by
 have hl : s.1 < oo.length := by rw [h.len]; exact h1
 unfold oa putO
 by_cases c : s.1 = q.1
 ·have e : (oo.set s.1 ((oo.getD s.1 []).set s.2 (some x))).getD q.1 [] = (oo.getD s.1 []).set s.2 (some x) := by
   rw [List.getD_eq_getElem?_getD, ← c, List.getElem?_set, if_pos rfl, if_pos hl]; rfl
  rw [e, gt_set (by rw [(h.at h1).2]; exact h2)]
  by_cases d : s.2 = q.2
  ·rw [if_pos d, if_pos (Prod.ext c d)]
  ·rw [if_neg d, if_neg (fun z => d (by rw [z])), c]
 ·have e : (oo.set s.1 ((oo.getD s.1 []).set s.2 (some x))).getD q.1 [] = oo.getD q.1 [] := by
   rw [List.getD_eq_getElem?_getD, List.getElem?_set_ne c, ← List.getD_eq_getElem?_getD]
  rw [e, if_neg (fun z => c (by rw [z]))]
theorem onsR_put {m n : Nat} {oo : OnT} (h : OnSh m n oo) {s : Spt} {x : MvX} (h1 : s.1 < m) : (onsR oo).set s.1 (((oo.getD s.1 []).map onX).set s.2 (mvD x)) = onsR (putO oo s x) := by
 unfold onsR putO
 rw [List.map_set, List.map_set]; rfl
theorem onsR_at {m n : Nat} {oo : OnT} (h : OnSh m n oo) {p : Nat} (hp : p < m) : (onsR oo)[p]? = some ((oo.getD p []).map onX) := by
 unfold onsR
 rw [List.getElem?_map, (h.at hp).1]; rfl
structure OI (m n : Nat) (mx : List MvX) (g : Spt) (t : Ct) (oo : OnT) (τ : Spt → Nat) (N : Nat) : Prop where
 sh : OnSh m n oo
 top : ∀ s, τ s ≤ N
 no : ∀ s, s.1 < m → s.2 < n → oa oo s = none → ∀ z, ca t s = some z → s.1 = g.1 ∧ g.2 ≤ s.2 ∧ z = 0
 yes : ∀ s x, s.1 < m → s.2 < n → oa oo s = some x → x ∈ mx ∧ x.2.1 = s ∧ ∃ y z, ca t x.2.2.1 = some y ∧ ca t s = some z ∧ y + x.2.2.2 ≤ z ∧ (y + x.2.2.2 = z → τ x.2.2.1 < τ s)
theorem OI.put {m n : Nat} {mx : List MvX} {g : Spt} {t : Ct} {oo : OnT} {τ : Spt → Nat} {N : Nat} (I : OI m n mx g t oo τ N) (ok : CtOk m n t) {v : MvX} {y : Int} (hv : v ∈ mx) (a1 : v.2.1.1 < m) (a2 : v.2.1.2 < n) (c0 : 0 ≤ v.2.2.2) (hy : ca t v.2.2.1 = some y) (hn : ¬ leX (ca t v.2.1) (some (y + v.2.2.2))) :
  OI m n mx g (putC t v.2.1 (some (y + v.2.2.2))) (putO oo v.2.1 v) (fun s => if v.2.1 = s then N + 1 else τ s) (N + 1) := by
 have hne : v.2.1 ≠ v.2.2.1 := fun e => by
  rw [e, hy] at hn
  exact hn (.inr ⟨y, y + v.2.2.2, rfl, rfl, by omega⟩)
 have old : ∀ z, ca t v.2.1 = some z → y + v.2.2.2 < z := fun z e => by
  by_cases c : y + v.2.2.2 < z
  ·exact c
  ·rw [e] at hn; exact absurd (.inr ⟨z, y + v.2.2.2, rfl, rfl, by omega⟩) hn
 refine ⟨I.sh.put a1, fun s => ?_, fun s h1 h2 e z ez => ?_, fun s x h1 h2 e => ?_⟩
 ·show (if v.2.1 = s then N + 1 else τ s) ≤ N + 1
  have := I.top s
  split <;> omega
 ·rw [oa_put I.sh a1 a2] at e
  split at e
  ·cases e
  ·rename_i c
   rw [put_ca ok a1 a2, if_neg c] at ez
   exact I.no s h1 h2 e z ez
 ·rw [oa_put I.sh a1 a2] at e
  by_cases c : v.2.1 = s
  ·rw [if_pos c] at e
   cases e
   refine ⟨hv, c, y, y + v.2.2.2, by rw [put_ca ok a1 a2, if_neg hne]; exact hy, by rw [put_ca ok a1 a2, if_pos c], Int.le_refl _, fun _ => ?_⟩
   show (if v.2.1 = v.2.2.1 then N + 1 else τ v.2.2.1) < (if v.2.1 = s then N + 1 else τ s)
   rw [if_neg hne, if_pos c]
   have := I.top v.2.2.1
   omega
  ·rw [if_neg c] at e
   obtain ⟨b1, b2, y', z', e1, e2, l, eq⟩ := I.yes s x h1 h2 e
   refine ⟨b1, b2, ?_⟩
   rw [put_ca ok a1 a2 s, if_neg c, put_ca ok a1 a2]
   by_cases d : v.2.1 = x.2.2.1
   ·have := old y' (by rw [d]; exact e1)
    exact ⟨y + v.2.2.2, z', by rw [if_pos d], e2, by omega, fun q => by omega⟩
   ·refine ⟨y', z', by rw [if_neg d]; exact e1, e2, l, fun q => ?_⟩
    show (if v.2.1 = x.2.2.1 then N + 1 else τ x.2.2.1) < (if v.2.1 = s then N + 1 else τ s)
    rw [if_neg d, if_neg c]
    exact eq q
structure OnOk (m n : Nat) (mx : List MvX) (g : Spt) (t : Ct) (oo : OnT) (rk : Spt → Nat) : Prop where
 sh : OnSh m n oo
 hi : ∀ s, rk s ≤ m * n
 is : ∀ s z, s.1 < m → s.2 < n → ca t s = some z → (oa oo s = none ∧ s.1 = g.1 ∧ g.2 ≤ s.2 ∧ z = 0) ∨ ∃ x ∈ mx, oa oo s = some x ∧ x.2.1 = s ∧ ∃ y, ca t x.2.2.1 = some y ∧ z = y + x.2.2.2 ∧ rk x.2.2.1 < rk s
def allS (m n : Nat) : List Spt := (List.range m).flatMap fun p => (List.range n).map fun l => (p, l)
theorem sum_same (n : Nat) : ∀ xs : List Nat, (xs.map fun _ => n).sum = xs.length * n
 | [] => (Nat.zero_mul n).symm
 | _ :: xs => by
  show n + (xs.map fun _ => n).sum = (xs.length + 1) * n
  rw [sum_same n xs, Nat.succ_mul, Nat.add_comm]
theorem allS_len (m n : Nat) : (allS m n).length = m * n := by
 unfold allS
 rw [List.length_flatMap]
 simp only [List.length_map, List.length_range]
 rw [sum_same, List.length_range]
theorem allS_mem {m n : Nat} {s : Spt} (h1 : s.1 < m) (h2 : s.2 < n) : s ∈ allS m n := List.mem_flatMap.mpr ⟨s.1, List.mem_range.mpr h1, List.mem_map.mpr ⟨s.2, List.mem_range.mpr h2, rfl⟩⟩
theorem count_lt {α : Type} {p q : α → Bool} : ∀ {xs : List α} {x : α}, (∀ a, p a = true → q a = true) → x ∈ xs → p x = false → q x = true → xs.countP p < xs.countP q
 | a :: xs, x, h, hx, hp, hq => by
  have mono : xs.countP p ≤ xs.countP q := List.countP_mono_left fun b _ hb => h b hb
  rcases List.mem_cons.mp hx with e | hx
  ·subst e
   rw [List.countP_cons, List.countP_cons, hp, hq]
   simp; omega
  ·have := count_lt h hx hp hq
   rw [List.countP_cons, List.countP_cons]
   cases hpa : p a with
   | true => rw [h a hpa]; omega
   | false => cases q a <;> simp <;> omega
theorem OI.end {m n : Nat} {mx : List MvX} {g : Spt} {t : Ct} {oo : OnT} {τ : Spt → Nat} {N : Nat} (I : OI m n mx g t oo τ N) (hin : ∀ x ∈ mx, x.2.2.1.1 < m ∧ x.2.2.1.2 < n) (hm : ∀ v ∈ mx.map fun x => x.2, leX (ca t v.1) (addO (ca t v.2.1) v.2.2)) : OnOk m n mx g t oo fun s => (allS m n).countP fun q => decide (τ q < τ s) := by
 refine ⟨I.sh, fun s => by rw [← allS_len m n]; exact List.countP_le_length, fun s z h1 h2 e => ?_⟩
 cases eo : oa oo s with
 | none =>
  obtain ⟨a, b, c⟩ := I.no s h1 h2 eo z e
  exact .inl ⟨rfl, a, b, c⟩
 | some x =>
  obtain ⟨b1, b2, y, z', e1, e2, l, eq⟩ := I.yes s x h1 h2 eo
  rw [e] at e2
  cases e2
  have hle := hm x.2 (List.mem_map.mpr ⟨x, b1, rfl⟩)
  rw [b2, e, e1] at hle
  have hz : z = y + x.2.2.2 := by
   rcases hle with q | ⟨u, w, q1, q2, q3⟩
   ·cases q
   ·have := Option.some.inj q1
    have : y + x.2.2.2 = w := Option.some.inj q2
    omega
  have hlt := eq hz.symm
  refine .inr ⟨x, b1, rfl, b2, y, e1, hz, ?_⟩
  obtain ⟨c1, c2⟩ := hin x b1
  exact count_lt (x := x.2.2.1) (fun a ha => decide_eq_true (by have := of_decide_eq_true ha; omega)) (allS_mem c1 c2) (decide_eq_false (by omega)) (decide_eq_true hlt)
def ons0 (m n : Nat) : OnT := (List.range m).map fun _ => List.replicate n none
theorem ons0_sh (m n : Nat) : OnSh m n (ons0 m n) := ⟨by unfold ons0; rw [List.length_map, List.length_range], fun r hr => by
 obtain ⟨_, _, rfl⟩ := List.mem_map.mp hr
 rw [List.length_replicate]⟩
theorem ons0_R (m n : Nat) : (List.range m).map (fun _ => List.replicate n PyData.none) = onsR (ons0 m n) := by
 unfold onsR ons0
 rw [List.map_map]
 refine List.map_congr_left fun p _ => ?_
 show _ = List.map onX (List.replicate n none)
 rw [List.map_replicate]; rfl
theorem ons0_oa {m n : Nat} (s : Spt) : oa (ons0 m n) s = none := by
 unfold oa
 by_cases c : s.1 < m
 ·have e : (ons0 m n).getD s.1 [] = List.replicate n none := by
   unfold ons0
   rw [List.getD_eq_getElem?_getD, List.getElem?_map, List.getElem?_range c]; rfl
  rw [e, gt_rep]
 ·have e : (ons0 m n).getD s.1 [] = [] := by
   rw [List.getD_eq_getElem?_getD, List.getElem?_eq_none (by rw [(ons0_sh m n).len]; omega)]; rfl
  rw [e]; exact gt_out (Nat.zero_le _)
theorem oi_start {m n : Nat} {mx : List MvX} {g : Spt} {t : Ct} (hG : Goal m n n g t) : OI m n mx g t (ons0 m n) (fun _ => 0) 0 := by
 refine ⟨ons0_sh m n, fun _ => Nat.le_refl _, fun s h1 h2 _ z e => ?_, fun s x h1 h2 e => by rw [ons0_oa] at e; cases e⟩
 rw [hG s h1 h2] at e
 split at e
 ·rename_i d
  exact ⟨d.1, d.2.1, (Option.some.inj e).symm⟩
 ·cases e
theorem onsR_len {m n : Nat} {oo : OnT} (h : OnSh m n oo) : (onsR oo).length = m := by unfold onsR; rw [List.length_map]; exact h.len
def stepM (s : Ct × OnT) (v : MvX) : Ct × OnT := if wiF (ca s.1 v.2.1) (addO (ca s.1 v.2.2.1) v.2.2.2) = true then s else (putC s.1 v.2.1 (addO (ca s.1 v.2.2.1) v.2.2.2), putO s.2 v.2.1 v)
def passM (mx : List MvX) (s : Ct × OnT) : Ct × OnT := mx.foldl stepM s
def itM (mx : List MvX) : Nat → Ct × OnT → Ct × OnT
 | 0, s => s
 | k + 1, s => passM mx (itM mx k s)
def SetR (mx : List MvX) (s0 s : Ct × OnT) : Prop := (∃ k, s = itM mx k s0) ∧ passM mx s = s
theorem it_stay {mx : List MvX} {s0 s : Ct × OnT} {k : Nat} (h : s = itM mx k s0) (f : passM mx s = s) : ∀ j, itM mx (k + j) s0 = s
 | 0 => h.symm
 | j + 1 => by
  show passM mx (itM mx (k + j) s0) = s
  rw [it_stay h f j, f]
theorem SetR.uniq {mx : List MvX} {s0 s u : Ct × OnT} (h : SetR mx s0 s) (h' : SetR mx s0 u) : s = u := by
 obtain ⟨⟨k, e⟩, f⟩ := h
 obtain ⟨⟨k', e'⟩, f'⟩ := h'
 have a := it_stay e f k'
 have b := it_stay e' f' k
 rw [Nat.add_comm] at b
 exact a.symm.trans b
def goalT (m n : Nat) (g : Spt) : Ct := tabC m n fun s => if s.1 = g.1 ∧ g.2 ≤ s.2 ∧ s.2 < n then some 0 else none
theorem goal_is {m n : Nat} {g : Spt} {t : Ct} (ok : CtOk m n t) (h : Goal m n n g t) : t = goalT m n g := by
 refine ct_ext ok (tabC_ok fun s x _ _ e => ?_) fun s => ?_
 ·split at e
  ·cases e; exact Int.le_refl _
  ·cases e
 ·by_cases c : s.1 < m ∧ s.2 < n
  ·rw [h s c.1 c.2]
   unfold goalT
   rw [tabC_ca c.1 c.2]
  ·rw [ca_out ok c]
   unfold goalT
   rw [ca_out (tabC_ok fun s x _ _ e => ?_) c]
   split at e
   ·cases e; exact Int.le_refl _
   ·cases e
def spSetC : DSp := fun ds Q => ∃ (m n P : Nat) (ws : List Wy) (pr : List (Option Int)) (g : Spt), ds = [landD m ws, .int (((n : Nat) : Int) - 1), .list (tabL pr), sptD g] ∧ Mkt m n P ws pr g ∧ ∀ t oo rk, Best m n ((mvAll n ws pr).map fun x => x.2) g t → OnOk m n (mvAll n ws pr) g t oo rk → SetR (mvAll n ws pr) (goalT m n g, ons0 m n) (t, oo) → Q (.tuple [.list (lls (rowsC t)), .list (lls (onsR oo))])
def spCostsD : DSp := fun ds Q => ∃ (m n P : Nat) (ws : List Wy) (pr : List (Option Int)) (g : Spt), ds = [landD m ws, .int (((n : Nat) : Int) - 1), .list (tabL pr), sptD g] ∧ Mkt m n P ws pr g ∧ ∀ t, Best m n ((mvAll n ws pr).map fun x => x.2) g t → Q (.list (lls (rowsC t)))
theorem a4_1 {α : Type} {a b c d : α} : atI [a, b, c, d] 1 = some b := rfl
section
variable {P : Program} {w : World} {K : PySem.W.Frag} {mg : Str → Option Value} {base : Heap}
theorem ok_settled_costs (T : Txt K mg) : FnOk P w K mg base CX0 4 T.a_settled_costs T.d_settled_costs ["land", "store", "prices", "goal"] (spD [.bd, .sh, .bd, .sh] spSetC) := by
 have G_is_within := @ok_is_within P w K mg base T
 have b_is_within := bd_is_within T
 have G_cost_at := @ok_cost_at P w K mg base T
 have b_cost_at := bd_cost_at T
 have G_cost_by := @ok_cost_by P w K mg base T
 have b_cost_by := bd_cost_by T
 have G_costs_at_goal := @ok_costs_at_goal P w K mg base T
 have b_costs_at_goal := bd_costs_at_goal T
 have G_all_moves := @ok_all_moves P w K mg base T
 have b_all_moves := bd_all_moves T
 refine fn_d T.F_settled_costs sc_settled_costs rfl (fun C cdv A outer s H E hr => ⟨_, (@dss_consG _ _ _ _ _ _ (ds_own2f (ps_set (i := 4) sc_settled_costs.nd rfl (Or.inl rfl) (pe_call G_costs_at_goal (hr.mono (by decide)) rfl T.mg_costs_at_goal T.kp_costs_at_goal b_costs_at_goal .nil pass0 (da_s (pv 0) (da_v (pd_var (pv 1)) (da_v (pd_var (pv 3)) da_nil se_Name) se_Name) se_Name) (he := se_Name) (hpl := (np_cons se_Name (np_cons se_Name np_nil)))))) (@dss_consG _ _ _ _ _ _ (@ds_own2C _ _ _ _ _ _ _ _ rfl (@ps_setC _ _ _ _ _ _ _ _ _ _ _ _ _ 5 _ _ _ _ _ sc_settled_costs.nd rfl (Or.inl rfl) (CompSc.new (N := ["land", "store", "prices", "goal", "costs", "ons", "moves", "falls", "move"]) (osc := defScope s_settled_costs) (by decide +kernel)) rfl (di_rng1 (pi_range1 rfl T.n_range (dv_cons (pd_flat (pl_ix (pl_var (pv 0)) (pd_gi (pe_glob (v := V.int 0) rfl T.mg_MANY ⟨_, rfl⟩)) (fun _ _ => rfl))) dv_nil se_Subscript))) (fun _ => dts_nil) (fun _ => (pf_rep (pd_f (pf_lst (dv_cons pd_non dv_nil se_Constant))) (pd_op op_add ok_add (pd_var (pv 1)) pd_int))) (by rfl) (by first | exact .inl rfl | exact .inr rfl | assumption) (by rfl) (by rfl) (by intro _; rfl))) (@dss_consG _ _ _ _ _ _ (ds_set (ps_set (i := 6) sc_settled_costs.nd rfl (Or.inl rfl) (pd_call (pe_call G_all_moves (hr.mono (by decide)) rfl T.mg_all_moves T.kp_all_moves b_all_moves .nil pass0 (da_s (pv 0) (da_v (pd_var (pv 1)) (da_s (pv 2) da_nil se_Name) se_Name) se_Name) (he := se_Name) (hpl := (np_cons se_Name (np_cons se_Name np_nil))))))) (@dss_consG _ _ _ _ _ _ (ds_set (ps_set (i := 7) sc_settled_costs.nd rfl (Or.inl rfl) pd_bl)) (@dss_consG _ _ _ _ _ _ (@ds_mid _ _ _ _ (@ds_while _ _ _ _ _ (@ps_while _ _ _ _ _ _ PassesOwn.never (pdt_val (pd_var (pv 7))) (@dss_consG _ _ _ _ _ _ (ds_set (ps_set (i := 7) sc_settled_costs.nd rfl (Or.inl rfl) pd_bl)) (@dss_one _ _ _ _ (@ds_for _ _ _ _ _ _ (@ps_for _ _ _ _ _ _ _ _ PassesOwn.never rfl (di_var (pv 6)) (dg_name (pg_name (i := 8) sc_settled_costs.nd rfl (Or.inl rfl))) (@dss_one _ _ _ _ (@ds_if _ _ _ _ _ _ _ _ _ (@pdt_not _ _ _ _ _ (@pdt_val _ _ _ _ (@pd_call _ _ _ _ _ _ _ (@pe_call _ _ _ _ _ _ _ _ _ _ _ _ _ _ _ _ G_is_within (hr.mono (by decide)) rfl T.mg_is_within T.kp_is_within b_is_within .nil pass0 (@da_v _ _ _ _ _ _ (pd_call (pe_call G_cost_at (hr.mono (by decide)) rfl T.mg_cost_at T.kp_cost_at b_cost_at .nil pass0 (da_s (pv 4) (da_v (pd_ixv (pv 8) (pd_gi (pe_glob (v := V.int 1) rfl T.mg_AHEAD ⟨_, rfl⟩)) (fun _ _ => rfl)) da_nil se_Subscript) se_Name) (he := se_Name) (hpl := (np_cons se_Subscript np_nil)))) (da_v (pd_call (pe_call G_cost_by (hr.mono (by decide)) rfl T.mg_cost_by T.kp_cost_by b_cost_by .nil pass0 (da_s (pv 4) (da_v (pd_var (pv 8)) da_nil se_Name) se_Name) (he := se_Name) (hpl := (np_cons se_Name np_nil)))) da_nil se_Call) se_Call) (by decide) se_Call ((np_cons se_Call np_nil)))) (by intro _; rfl))) (@dss_consG _ _ _ _ _ _ (@ds_set2 _ _ _ _ _ _ _ _ (@ps_asg _ _ _ _ _ _ (pd_call (pe_call G_cost_by (hr.mono (by decide)) rfl T.mg_cost_by T.kp_cost_by b_cost_by .nil pass0 (da_s (pv 4) (da_v (pd_var (pv 8)) da_nil se_Name) se_Name) (he := se_Name) (hpl := (np_cons se_Name np_nil)))) (@pg_sub _ _ _ _ _ _ _ (pe_ix ix_seq (pv 4) (pp_ix (pp_ix (pp_var (pv 8)) (pp_gi (pe_glob (v := V.int 1) rfl T.mg_AHEAD ⟨_, rfl⟩)) (fun _ _ => rfl)) (pp_gi (pe_glob (v := V.int 0) rfl T.mg_PLACE ⟨_, rfl⟩)) (fun _ _ => rfl)) (fun _ _ => rfl)) (pp_ix (pp_ix (pp_var (pv 8)) (pp_gi (pe_glob (v := V.int 1) rfl T.mg_AHEAD ⟨_, rfl⟩)) (fun _ _ => rfl)) (pp_gi (pe_glob (v := V.int 1) rfl T.mg_LEVEL ⟨_, rfl⟩)) (fun _ _ => rfl)) set_list (by intro _; rfl)) (by rfl) (by rfl) (by rfl))) (@dss_consG _ _ _ _ _ _ (@ds_set2 _ _ _ _ _ _ _ _ (@ps_asg _ _ _ _ _ _ (pd_var (pv 8)) (@pg_sub _ _ _ _ _ _ _ (pe_ix ix_seq (pv 5) (pp_ix (pp_ix (pp_var (pv 8)) (pp_gi (pe_glob (v := V.int 1) rfl T.mg_AHEAD ⟨_, rfl⟩)) (fun _ _ => rfl)) (pp_gi (pe_glob (v := V.int 0) rfl T.mg_PLACE ⟨_, rfl⟩)) (fun _ _ => rfl)) (fun _ _ => rfl)) (pp_ix (pp_ix (pp_var (pv 8)) (pp_gi (pe_glob (v := V.int 1) rfl T.mg_AHEAD ⟨_, rfl⟩)) (fun _ _ => rfl)) (pp_gi (pe_glob (v := V.int 1) rfl T.mg_LEVEL ⟨_, rfl⟩)) (fun _ _ => rfl)) set_list (by intro _; rfl)) (by rfl) (by rfl) (by rfl))) (dss_one (ds_set (ps_set (i := 7) sc_settled_costs.nd rfl (Or.inl rfl) pd_bl))))) dss_nil)) (by intro _; rfl)))))))) (dss_one (ds_ret (pd_tup (dv_cons (pd_var2 (pv 4)) (dv_cons (pd_var2 (pv 5)) dv_nil se_Name) se_Name))))))))), fun ds Q hl h => ?_⟩)
 obtain ⟨m, n, P, ws, pr, g, rfl, M, q⟩ := h
 have n1 := M.n1
 have n2 := M.n2
 have m2 := M.m2
 decreasing_tactic
 refine ⟨rfl, m, n, ws, g, rfl, n1, n2, m2, M.g1, M.g2, fun t0 ok0 hG0 => ?_⟩
 refine go ?_
 array_get_dec
 unfold landD
 array_get_dec
 rw [show ((m : Nat) : Int).toNat = m by simp, rngD0]
 refine ⟨rfl, ⟨by omega, by omega⟩, ⟨rfl, by rw [List.length_map, List.length_range]; omega⟩, ?_⟩
 refine compO (f := fun _ => List.replicate n PyData.none) (fun p hp Q' q' => ?_) ?_
 ·decreasing_tactic
  rw [show (((n : Nat) : Int) - 1 + 1).toNat = n by omega, rep_one]
  exact ⟨by decide, ⟨by omega, by omega, by decide⟩, q'⟩
 rw [List.nil_append]
 rw [ons0_R]
 refine go ?_; decreasing_tactic
 refine ⟨rfl, rfl, m, n, ws, pr, rfl, n1, n2, M.w2, M.p2, ?_⟩
 refine go ?_; decreasing_tactic
 refine go ?_
 (try unfold dSeqG); (try unfold dMid)
 refine ⟨fun ρ' => ∃ (t : Ct) (oo : OnT) (z8 : Sl), ρ' = [Sl.bd (.tuple [.int ((m : Nat) : Int), .list (ws.map wayD)]), Sl.sh (.int (((n : Nat) : Int) - 1)), Sl.bd (.list (tabL pr)), Sl.sh (sptD g), Sl.o2 (rowsC t), Sl.o2 (onsR oo), Sl.sh (.list ((mvAll n ws pr).map mvD)), Sl.sh (.bool false), z8] ∧ Best m n ((mvAll n ws pr).map fun x => x.2) g t ∧ (∃ rk, OnOk m n (mvAll n ws pr) g t oo rk) ∧ SetR (mvAll n ws pr) (goalT m n g, ons0 m n) (t, oo), ?_, ?_⟩
 ·unfold dWhile
  refine ⟨fun μ ρ => ∃ (t : Ct) (oo : OnT) (fb : Bool) (z8 : Sl), ρ = [Sl.bd (.tuple [.int ((m : Nat) : Int), .list (ws.map wayD)]), Sl.sh (.int (((n : Nat) : Int) - 1)), Sl.bd (.list (tabL pr)), Sl.sh (sptD g), Sl.o2 (rowsC t), Sl.o2 (onsR oo), Sl.sh (.list ((mvAll n ws pr).map mvD)), Sl.sh (.bool fb), z8] ∧ Ci m n ((mvAll n ws pr).map fun x => x.2) g t ∧ (∃ τ N, OI m n (mvAll n ws pr) g t oo τ N) ∧ (∃ k, (t, oo) = itM (mvAll n ws pr) k (t0, ons0 m n)) ∧ (fb = false → passM (mvAll n ws pr) (t, oo) = (t, oo)) ∧ (fb = false → ∀ v ∈ (mvAll n ws pr).map (fun x => x.2), leX (ca t v.1) (addO (ca t v.2.1) v.2.2)) ∧ μ = 2 * mC P t + (if fb = true then 1 else 0), ⟨_, t0, ons0 m n, true, _, rfl, ci_start M.g1 ok0 hG0, ⟨_, _, oi_start hG0⟩, ⟨0, rfl⟩, (fun z => by cases z), (fun z => by cases z), rfl⟩, ?_⟩
  rintro μ ρ ⟨t, oo, fb, z8, rfl, I, hO, ⟨kk, hkk⟩, hps, hF, rfl⟩
  cases fb with
  | false =>
   decreasing_tactic
   obtain ⟨τ, N, hO⟩ := hO
   exact ⟨t, oo, z8, rfl, ci_best I (hF rfl), ⟨_, hO.end (fun x hx => by obtain ⟨_, _, a3, a4, _, _⟩ := M.inn (List.mem_map.mpr ⟨x, hx, rfl⟩); exact ⟨a3, a4⟩) (hF rfl)⟩, ⟨kk, by rw [← goal_is ok0 hG0]; exact hkk⟩, hps rfl⟩
  | true =>
   decreasing_tactic
   try dsimp only [Blk]
   array_get_dec
   refine go ?_
   array_get_dec
   refine ⟨fun r ρ => ∃ (dn R : List (PyData × Mv)) (t' : Ct) (oo' : OnT) (fb : Bool) (z8 : Sl), (mvAll n ws pr = dn ++ R ∧ (t', oo') = dn.foldl stepM (t, oo) ∧ (fb = false → oo' = oo)) ∧ r = R.map mvD ∧ ρ = [Sl.bd (.tuple [.int ((m : Nat) : Int), .list (ws.map wayD)]), Sl.sh (.int (((n : Nat) : Int) - 1)), Sl.bd (.list (tabL pr)), Sl.sh (sptD g), Sl.o2 (rowsC t'), Sl.o2 (onsR oo'), Sl.sh (.list ((mvAll n ws pr).map mvD)), Sl.sh (.bool fb), z8] ∧ (∀ x ∈ R, x ∈ mvAll n ws pr) ∧ Ci m n ((mvAll n ws pr).map fun x => x.2) g t' ∧ (∃ τ N, OI m n (mvAll n ws pr) g t' oo' τ N) ∧ (fb = true → mC P t' < mC P t) ∧ (fb = false → t' = t ∧ ∀ x ∈ mvAll n ws pr, x ∈ R ∨ leX (ca t x.2.1) (addO (ca t x.2.2.1) x.2.2.2)), ⟨[], mvAll n ws pr, t, oo, false, _, ⟨rfl, rfl, fun _ => rfl⟩, rfl, rfl, fun x hx => hx, I, hO, (fun z => by cases z), fun _ => ⟨rfl, fun x hx => .inl hx⟩⟩, ?_, ?_⟩
   ·rintro x r ρ ⟨dn, R, t', oo', fb, z8, ⟨hdn, hfo, hoo⟩, h1, rfl, hR, I', hO', hT, hN⟩
    cases R with
    | nil => cases h1
    | cons v R =>
     cases (show x :: r = mvD v :: R.map mvD from h1)
     have hv := hR v List.mem_cons_self
     have hv' : v.2 ∈ (mvAll n ws pr).map (fun x => x.2) := List.mem_map.mpr ⟨v, hv, rfl⟩
     obtain ⟨a1, a2, a3, a4, c0, cP⟩ := M.inn hv'
     have keep : ∀ z : wiF (ca t' v.2.1) (addO (ca t' v.2.2.1) v.2.2.2) = true, fb = false → t' = t ∧ ∀ x ∈ mvAll n ws pr, x ∈ R ∨ leX (ca t x.2.1) (addO (ca t x.2.2.1) x.2.2.2) := fun z e => by
      obtain ⟨rfl, hn⟩ := hN e
      refine ⟨rfl, fun x hx => ?_⟩
      rcases hn x hx with q | q
      ·rcases List.mem_cons.mp q with rfl | q
       ·exact .inr (wi_le.mp z)
       ·exact .inl q
      ·exact .inr q
     have hle : mC P t' ≤ mC P t := by
      cases fb with
      | true => exact Nat.le_of_lt (hT rfl)
      | false => rw [(hN rfl).1]; exact Nat.le_refl _
     sizeOf_list_dec
     refine ⟨rfl, m, n, t', v.2.1, rfl, I'.ok, a1, a2, ?_⟩
     refine ⟨rfl, m, n, t', v, rfl, I'.ok, a3, a4, ?_⟩
     refine ⟨_, _, rfl, ?_⟩
     cases hw : wiF (ca t' v.2.1) (addO (ca t' v.2.2.1) v.2.2.2) with
     | true =>
      decreasing_tactic
      exact ⟨dn ++ [v], R, t', oo', fb, _, ⟨by rw [hdn, List.append_assoc]; rfl, by rw [List.foldl_append, ← hfo]; show _ = stepM (t', oo') v; unfold stepM; rw [if_pos hw], hoo⟩, rfl, rfl, fun x hx => hR x (List.mem_cons_of_mem _ hx), I', hO', hT, keep hw⟩
     | false =>
      have hn : ¬ leX (ca t' v.2.1) (addO (ca t' v.2.2.1) v.2.2.2) := fun z => by rw [wi_le.mpr z] at hw; cases hw
      obtain ⟨y, hy⟩ : ∃ y, ca t' v.2.2.1 = some y := by
       cases e : ca t' v.2.2.1 with
       | none => rw [e] at hn; exact absurd (.inl rfl) hn
       | some y => exact ⟨y, rfl⟩
      obtain ⟨I2, hlt⟩ := ci_put M hv' I' hy hn
      obtain ⟨τ, N, hO'⟩ := hO'
      have hO2 := hO'.put I'.ok hv a1 a2 c0 hy (by rw [hy] at hn; exact hn)
      decreasing_tactic
      refine ⟨rfl, m, n, t', v, rfl, I'.ok, a3, a4, ?_⟩
      rw [show addO (ca t' v.2.2.1) v.2.2.2 = some (y + v.2.2.2) by rw [hy]; rfl]
      decreasing_trivial
      rw [a4_1]
      decreasing_trivial
      rw [rows_len I'.ok, ixN_nat a1]
      decreasing_trivial
      rw [rows_get I'.ok a1]
      decreasing_trivial
      rw [len_tab, row_len I'.ok a1, ixN_nat a2]
      decreasing_trivial
      refine go ?_
      decreasing_trivial
      rw [a4_1]
      decreasing_trivial
      rw [onsR_len hO'.sh, ixN_nat a1]
      decreasing_trivial
      rw [onsR_at hO'.sh a1]
      decreasing_trivial
      rw [List.length_map, (hO'.sh.at a1).2, ixN_nat a2]
      decreasing_trivial
      refine go ?_
      decreasing_trivial
      rw [show PyData.int (y + v.2.2.2) = oD (some (y + v.2.2.2)) from rfl, rows_put I'.ok a1]
      have eo := onsR_put (x := v) hO'.sh a1
      unfold mvD sptD at eo
      try dsimp only at eo
      rw [eo]
      exact ⟨dn ++ [v], R, putC t' v.2.1 (some (y + v.2.2.2)), _, true, _, ⟨by rw [hdn, List.append_assoc]; rfl, by rw [List.foldl_append, ← hfo]; show _ = stepM (t', oo') v; unfold stepM; rw [if_neg (by rw [hw]; decide), hy]; rfl, fun z => by cases z⟩, rfl, rfl, fun x hx => hR x (List.mem_cons_of_mem _ hx), I2, ⟨_, _, hO2⟩, fun _ => Nat.lt_of_lt_of_le hlt hle, fun z => by cases z⟩
   ·rintro ρ ⟨dn, R, t', oo', fb, z8, ⟨hdn, hfo, hoo⟩, h1, rfl, hR, I', hO', hT, hN⟩
    cases R with
    | cons v R => cases h1
    | nil =>
     rw [List.append_nil] at hdn
     have hpa : (t', oo') = passM (mvAll n ws pr) (t, oo) := by unfold passM; rw [hdn]; exact hfo
     have hk1 : (t', oo') = itM (mvAll n ws pr) (kk + 1) (t0, ons0 m n) := by show _ = passM (mvAll n ws pr) (itM (mvAll n ws pr) kk (t0, ons0 m n)); rw [← hkk]; exact hpa
     cases fb with
     | true => exact ⟨2 * mC P t' + 1, by have := hT rfl; show 2 * mC P t' + 1 < 2 * mC P t + 1; omega, t', oo', true, z8, rfl, I', hO', ⟨_, hk1⟩, (fun z => by cases z), (fun z => by cases z), rfl⟩
     | false =>
      obtain ⟨rfl, hn⟩ := hN rfl
      cases hoo rfl
      refine ⟨2 * mC P t' + 0, by show 2 * mC P t' + 0 < 2 * mC P t' + 1; omega, t', oo, false, z8, rfl, I', hO', ⟨_, hk1⟩, fun _ => hpa.symm, fun _ v hv => ?_, rfl⟩
      obtain ⟨x, hx, rfl⟩ := List.mem_map.mp hv
      rcases hn x hx with z | z
      ·cases z
      ·exact z
 rintro ρ ⟨t, oo, z8, rfl, hB, ⟨rk, hK⟩, hSet⟩
 refine go ?_; decreasing_tactic
 exact ⟨by show 2 ≤ 1000; decide, q t oo rk hB hK hSet⟩
end
abbrev Pst := Bool × Nat
def pstD : Pst → PyData
 | (false, k) => .tuple [.str "way", .int ((k : Nat) : Int)]
 | (true, k) => .tuple [.str "buy", .int ((k : Nat) : Int)]
abbrev Had := Spt × Int
def One (n : Nat) (ws : List Wy) (pr : List (Option Int)) (a : Had) : Pst → Had → Prop
 | (false, k), b => ∃ w y, ws[k]? = some w ∧ a.1.1 = w.1 ∧ stepF (((n : Nat) : Int) - 1) ((a.1.2 : Nat) : Int) w.2.2 = some y ∧ b = ((w.2.1, y.toNat), a.2)
 | (true, k), b => ∃ d, gt pr a.1.1 = some d ∧ 1 ≤ k ∧ a.1.2 + k < n ∧ b = ((a.1.1, a.1.2 + k), a.2 + ((k : Nat) : Int) * d)
def Run (n : Nat) (ws : List Wy) (pr : List (Option Int)) : List Pst → Had → Had → Prop
 | [], a, b => a = b
 | s :: ss, a, b => ∃ c, One n ws pr a s c ∧ Run n ws pr ss c b
theorem run_snoc {n : Nat} {ws : List Wy} {pr : List (Option Int)} {s : Pst} {b : Had} : ∀ {ss : List Pst} {a : Had}, Run n ws pr (ss ++ [s]) a b ↔ ∃ c, Run n ws pr ss a c ∧ One n ws pr c s b
 | [], a => ⟨fun ⟨c, h, e⟩ => ⟨a, rfl, by cases (show c = b from e); exact h⟩, fun ⟨c, e, h⟩ => by cases (show a = c from e); exact ⟨b, h, rfl⟩⟩
 | x :: ss, a => ⟨fun ⟨c, h, r⟩ => by
   obtain ⟨d, r1, o⟩ := run_snoc.mp r
   exact ⟨d, ⟨c, h, r1⟩, o⟩, fun ⟨d, ⟨c, h, r1⟩, o⟩ => ⟨c, h, run_snoc.mpr ⟨d, r1, o⟩⟩⟩
theorem one_buy {n : Nat} {ws : List Wy} {pr : List (Option Int)} {i j : Nat} {a b c : Had} (h1 : One n ws pr a (true, i) b) (h2 : One n ws pr b (true, j) c) : One n ws pr a (true, i + j) c := by
 obtain ⟨d, p1, k1, l1, rfl⟩ := h1
 obtain ⟨e, p2, k2, l2, rfl⟩ := h2
 have z : d = e := Option.some.inj (p1.symm.trans p2)
 subst z
 refine ⟨d, p1, by omega, by have : a.1.2 + i + j < n := l2; omega, ?_⟩
 show ((a.1.1, a.1.2 + i + j), a.2 + ((i : Nat) : Int) * d + ((j : Nat) : Int) * d) = _
 rw [Nat.add_assoc, Int.add_assoc, ← Int.add_mul]; rfl
theorem mv_is {n : Nat} {ws : List Wy} {pr : List (Option Int)} {x : MvX} (h : x ∈ mvAll n ws pr) : ∃ s : Pst, x.1 = pstD s ∧ ∀ c : Int, One n ws pr (x.2.1, c) s (x.2.2.1, c + x.2.2.2) := by
 rcases List.mem_append.mp h with z | z
 ·obtain ⟨⟨w, k⟩, hw, hx⟩ := List.mem_flatMap.mp z
  rw [List.mem_zipIdx_iff_getElem?] at hw
  obtain ⟨l, hl, rfl⟩ := List.mem_map.mp hx
  obtain ⟨h1, h2⟩ := List.mem_filter.mp hl
  cases e : stepF (((n : Nat) : Int) - 1) ((l : Nat) : Int) w.2.2 with
  | none => dsimp only at h2; rw [e] at h2; cases h2
  | some y =>
   refine ⟨(false, k), rfl, fun c => ⟨w, y, hw, rfl, e, ?_⟩⟩
   dsimp only
   rw [Int.add_zero]; rfl
 ·obtain ⟨⟨o, k⟩, ho, hx⟩ := List.mem_flatMap.mp z
  rw [List.mem_zipIdx_iff_getElem?] at ho
  have ho' : pr[k]? = some o := ho
  cases o with
  | none => cases hx
  | some d =>
   obtain ⟨i, hi, rfl⟩ := List.mem_map.mp (show x ∈ mvP n k d from hx)
   have := List.mem_range.mp hi
   refine ⟨(true, 1), rfl, fun c => ⟨d, by unfold gt; show (pr[k]?).join = _; rw [ho']; rfl, Nat.le_refl 1, by show n - 2 - i + 1 < n; omega, ?_⟩⟩
   show ((k, n - 2 - i + 1), c + d) = ((k, n - 2 - i + 1), c + ((1 : Nat) : Int) * d)
   rw [show ((1 : Nat) : Int) = 1 from rfl, Int.one_mul]
def withF (ss : List Pst) (s : Pst) : List Pst := match s, ss.getLast? with
 | (true, k), some (true, k2) => ss.dropLast ++ [(true, k2 + k)]
 | _, _ => ss ++ [s]
theorem pstD_inj {a b : Pst} (h : pstD a = pstD b) : a = b := by
 obtain ⟨f, k⟩ := a
 obtain ⟨f', k'⟩ := b
 cases f <;> cases f' <;> unfold pstD at h
 ·injection h with h; injection h with _ h; injection h with h _; injection h with h; rw [Int.ofNat.inj h]
 ·injection h with h; injection h with h _; exact absurd (PyData.str.inj h) (by decide +kernel)
 ·injection h with h; injection h with h _; exact absurd (PyData.str.inj h) (by decide +kernel)
 ·injection h with h; injection h with _ h; injection h with h _; injection h with h; rw [Int.ofNat.inj h]
inductive PlanR (oo : OnT) : Spt → List Pst → List Pst → Prop
 | stop {s ss} : oa oo s = none → PlanR oo s ss ss
 | go {s ss x st fin} : oa oo s = some x → x.1 = pstD st → PlanR oo x.2.2.1 (withF ss st) fin → PlanR oo s ss fin
theorem PlanR.uniq {oo : OnT} {s : Spt} {ss a b : List Pst} (h : PlanR oo s ss a) : PlanR oo s ss b → a = b := by
 induction h with
 | stop e =>
  intro h'
  cases h' with
  | stop _ => rfl
  | go e' _ _ => rw [e] at e'; cases e'
 | go e es _ ih =>
  intro h'
  cases h' with
  | stop e' => rw [e] at e'; cases e'
  | go e' es' h' =>
   rw [e] at e'
   cases e'
   have := pstD_inj (es.symm.trans es')
   subst this
   exact ih h'
def ChR (m n : Nat) (ws : List Wy) (pr : List (Option Int)) (b g : Spt) (ss : List Pst) : Prop := ∃ t oo, SetR (mvAll n ws pr) (goalT m n g, ons0 m n) (t, oo) ∧ PlanR oo b [] ss
theorem ChR.uniq {m n : Nat} {ws : List Wy} {pr : List (Option Int)} {b g : Spt} {ss ss' : List Pst} (h : ChR m n ws pr b g ss) (h' : ChR m n ws pr b g ss') : ss = ss' := by
 obtain ⟨t, oo, h1, h2⟩ := h
 obtain ⟨t', oo', h1', h2'⟩ := h'
 cases h1.uniq h1'
 exact h2.uniq h2'
def spAtS : DSp := fun ds Q => ∃ (rows : List (List PyData)) (s : Spt) (r : List PyData) (d : PyData), ds = [.list (lls rows), sptD s] ∧ rows[s.1]? = some r ∧ r[s.2]? = some d ∧ Q d
def spWithD : DSp := fun ds Q => ∃ (n : Nat) (ws : List Wy) (pr : List (Option Int)) (ss : List Pst) (s : Pst), ds = [.list (ss.map pstD), pstD s] ∧ ss.length ≤ 1000 ∧ ∀ ss', ss' = withF ss s → ss'.length ≤ ss.length + 1 → (∀ a b c, Run n ws pr ss a b → One n ws pr b s c → Run n ws pr ss' a c) → Q (.list (ss'.map pstD))
def spPlanD : DSp := fun ds Q => ∃ (m n : Nat) (ws : List Wy) (pr : List (Option Int)) (g : Spt) (t : Ct) (oo : OnT) (rk : Spt → Nat) (b : Spt) (z : Int), ds = [.list (lls (onsR oo)), sptD b] ∧ OnOk m n (mvAll n ws pr) g t oo rk ∧ (∀ x ∈ mvAll n ws pr, x.2.2.1.1 < m ∧ x.2.2.1.2 < n) ∧ m * n ≤ 900 ∧ b.1 < m ∧ b.2 < n ∧ ca t b = some z ∧ ∀ ss l, Run n ws pr ss (b, 0) ((g.1, l), z) → g.2 ≤ l → ss.length ≤ 900 → PlanR oo b [] ss → Q (.list (ss.map pstD))
def spCheapD : DSp := fun ds Q => ∃ (m n P : Nat) (ws : List Wy) (pr : List (Option Int)) (b g : Spt), ds = [landD m ws, .int (((n : Nat) : Int) - 1), .list (tabL pr), sptD b, sptD g] ∧ Mkt m n P ws pr g ∧ m * n ≤ 900 ∧ b.1 < m ∧ b.2 < n ∧ ∀ t, Best m n ((mvAll n ws pr).map fun x => x.2) g t → (ca t b = none → Q .none) ∧ (∀ z ss l, ca t b = some z → Run n ws pr ss (b, 0) ((g.1, l), z) → g.2 ≤ l → ss.length ≤ 900 → ChR m n ws pr b g ss → Q (.tuple [.int z, .list (ss.map pstD)]))
theorem lls_atD {rows : List (List PyData)} {p : Nat} {r : List PyData} (h : rows[p]? = some r) : atI (lls rows) ((p : Nat) : Int) = some (.list r) := atI_nat (by unfold lls; rw [List.getElem?_map, h]; rfl)
theorem on_at {m n : Nat} {oo : OnT} (h : OnSh m n oo) {s : Spt} (h1 : s.1 < m) (h2 : s.2 < n) : ((oo.getD s.1 []).map onX)[s.2]? = some (onX (oa oo s)) := by
 have hl : s.2 < (oo.getD s.1 []).length := by rw [(h.at h1).2]; exact h2
 rw [List.getElem?_map, List.getElem?_eq_getElem hl]
 unfold oa
 rw [show gt (oo.getD s.1 []) s.2 = (oo.getD s.1 [])[s.2] by unfold gt; rw [List.getElem?_eq_getElem hl]; rfl]
 rfl
theorem ct_row {m n : Nat} {t : Ct} (ok : CtOk m n t) {s : Spt} (h1 : s.1 < m) (h2 : s.2 < n) : (rowsC t)[s.1]? = some (tabL (t.getD s.1 [])) ∧ (tabL (t.getD s.1 []))[s.2]? = some (oD (ca t s)) := by
 refine ⟨rows_get ok h1, ?_⟩
 unfold tabL
 rw [List.getElem?_map, gt_at (by rw [row_len ok h1]; exact h2)]; rfl
theorem eqv_str (a b : Str) : PyData.eqv (.str a) (.str b) = (a == b) := by rw [PyData.eqv]
theorem minS (a b : Str) : min (PyData.depth (.str a)) (PyData.depth (.str b)) ≤ 64 := by show min 0 0 ≤ 64; decide
theorem pstD_w (k : Nat) : pstD (false, k) = .tuple [.str "way", .int ((k : Nat) : Int)] := rfl
theorem pstD_b (k : Nat) : pstD (true, k) = .tuple [.str "buy", .int ((k : Nat) : Int)] := rfl
theorem eqWB : PyData.eqv (.str "way") (.str "buy") = false := by rw [PyData.eqv]; decide +kernel
theorem eqBB : PyData.eqv (.str "buy") (.str "buy") = true := by rw [PyData.eqv]; decide +kernel
theorem layW : PyData.canLay0 (.str "way") = true := by decide +kernel
theorem layB : PyData.canLay0 (.str "buy") = true := by decide +kernel
theorem last_pst {ss : List Pst} {s : Pst} : atI ((ss ++ [s]).map pstD) (-1) = some (pstD s) := by
 rw [List.map_append]
 exact atI_last _ _
theorem cut_pst {ss : List Pst} {s : Pst} : cutD ((ss ++ [s]).map pstD) none (some (-1)) = ss.map pstD := by
 rw [List.map_append]
 exact cut_neg1
section
variable {P : Program} {w : World} {K : PySem.W.Frag} {mg : Str → Option Value} {base : Heap}
theorem ok_cost_at__s (T : Txt K mg) : FnOk P w K mg base CX0 1 T.a_cost_at T.d_cost_at ["costs", "spot"] (spD [.sh, .sh] spAtS) := by
 refine fn_d T.F_cost_at sc_cost_at rfl (fun C cdv A outer s H E hr => ⟨_, (dss_one (ds_ret (pd_ix (pd_ixv (pv 0) (pd_ixv (pv 1) (pd_gi (pe_glob (v := V.int 0) rfl T.mg_PLACE ⟨_, rfl⟩)) (fun _ _ => rfl)) (fun _ _ => rfl)) (pd_ixv (pv 1) (pd_gi (pe_glob (v := V.int 1) rfl T.mg_LEVEL ⟨_, rfl⟩)) (fun _ _ => rfl)) (fun _ _ => rfl)))), fun ds Q hl h => ?_⟩)
 obtain ⟨rows, s, r, d, rfl, h1, h2, q⟩ := h
 decreasing_trivial
 rw [lls_atD h1]
 decreasing_trivial
 rw [atI_nat h2]
 exact q
theorem ok_with_step (T : Txt K mg) : FnOk P w K mg base CX0 1 T.a_with_step T.d_with_step ["plan", "step"] (spD [.sh, .sh] spWithD) := by
 refine fn_d T.F_with_step sc_with_step rfl (fun C cdv A outer s H E hr => ⟨_, (@dss_consG _ _ _ _ _ _ (@ds_if _ _ _ _ _ _ _ _ _ (PW.pt (@pwd_and _ _ _ _ _ _ _ _ (pdt_cmp (op_eqD (units_of hr)) ok_eq (pd_ixv (pv 1) pd_int (fun _ _ => rfl)) (pd_gs (pe_glob (v := V.str "buy") rfl T.mg_BUY ⟨_, rfl⟩)) (nomark _)) (pwd_and (pdt_cmp op_gt ok_gt (pd_lenv (pe_callB call_len_seq rfl T.n_len bt_len (pa_cons (pv 0) pa_nil se_Name) (he := se_Name) (hpl := np_nil))) pd_int (nomark _)) (pwd_and1 (pdt_cmp (op_eqD (units_of hr)) ok_eq (pd_ix (pd_ixv (pv 0) (pd_neg pd_int) (fun _ _ => rfl)) pd_int (fun _ _ => rfl)) (pd_gs (pe_glob (v := V.str "buy") rfl T.mg_BUY ⟨_, rfl⟩)) (nomark _)))))) (dss_one (ds_ret (pd_f (pf_cat (pd_f (pf_slv (pv 0) do_n (do_s (pd_neg pd_int)))) (pd_f (pf_lst (dv_cons (pd_tup (dv_cons (pd_gs (pe_glob (v := V.str "buy") rfl T.mg_BUY ⟨_, rfl⟩)) (dv_cons (pd_op op_add ok_add (pd_ix (pd_ixv (pv 0) (pd_neg pd_int) (fun _ _ => rfl)) pd_int (fun _ _ => rfl)) (pd_ixv (pv 1) pd_int (fun _ _ => rfl))) dv_nil se_BinOp) se_Name)) dv_nil se_Tuple))))))) dss_nil) (dss_one (ds_ret (pd_f (pf_cat (pd_var (pv 0)) (pd_f (pf_lst (dv_cons (pd_var (pv 1)) dv_nil se_Name)))))))), fun ds Q hl h => ?_⟩)
 obtain ⟨n, ws, pr, ss, s, rfl, hl0, q⟩ := h
 have q0 : withF ss s = ss ++ [s] → Q (.list (ss.map pstD ++ [s].map pstD)) := fun e => by
  have q0 := q (ss ++ [s]) e.symm (by rw [List.length_append]; exact Nat.le_refl _) fun a b c h1 h2 => run_snoc.mpr ⟨b, h1, h2⟩
  rw [List.map_append] at q0
  exact q0
 rcases s with ⟨f, k⟩
 cases f with
 | false =>
  rw [pstD_w]
  decreasing_tactic
  refine ⟨layW, layB, minS _ _, ?_⟩
  rw [eqWB]
  decreasing_tactic
  refine go ?_; decreasing_tactic
  exact ⟨by decide, by rw [List.length_map]; omega, q0 rfl⟩
 | true =>
  rw [pstD_b]
  decreasing_tactic
  refine ⟨layB, layB, minS _ _, ?_⟩
  rw [eqBB]
  decreasing_tactic
  rcases List.eq_nil_or_concat ss with rfl | ⟨ts, l, el⟩
  ·rw [decide_eq_false (by show ¬ (0 : Int) < ((0 : Nat) : Int); omega)]
   decreasing_tactic
   refine go ?_; decreasing_tactic
   exact ⟨by decide, by show 0 + (0 + 1) ≤ 100000; omega, q0 rfl⟩
  ·rw [List.concat_eq_append] at el
   subst el
   rw [decide_eq_true (by rw [List.length_map, List.length_append, List.length_singleton]; omega)]
   decreasing_tactic
   rw [last_pst]
   decreasing_tactic
   rcases l with ⟨f, k2⟩
   cases f with
   | false =>
    rw [pstD_w]
    decreasing_tactic
    refine ⟨layW, layB, minS _ _, ?_⟩
    rw [eqWB]
    decreasing_tactic
    refine go ?_; decreasing_tactic
    exact ⟨by decide, by rw [List.length_map]; omega, q0 (by unfold withF; rw [List.getLast?_append]; rfl)⟩
   | true =>
    rw [pstD_b]
    decreasing_tactic
    refine ⟨layB, layB, minS _ _, ?_⟩
    rw [eqBB]
    decreasing_tactic
    rw [cut_pst]
    rw [List.length_append] at hl0
    refine ⟨by decide, by decide, by rw [List.length_map]; omega, ?_⟩
    have q1 := q (ts ++ [(true, k2 + k)]) (by unfold withF; rw [List.getLast?_append, List.dropLast_concat]; rfl) (by rw [List.length_append, List.length_append]; show ts.length + 1 ≤ ts.length + 1 + 1; omega) fun a b c h1 h2 => by
     obtain ⟨e, r1, o1⟩ := run_snoc.mp h1
     exact run_snoc.mpr ⟨e, r1, one_buy o1 h2⟩
    rw [List.map_append] at q1
    exact q1
theorem ok_plan_by (T : Txt K mg) : FnOk P w K mg base CX0 2 T.a_plan_by T.d_plan_by ["ons", "begin"] (spD [.sh, .sh] spPlanD) := by
 have G_with_step := @ok_with_step P w K mg base T
 have b_with_step := bd_with_step T
 have G_cost_at := @ok_cost_at__s P w K mg base T
 have b_cost_at := bd_cost_at T
 refine fn_d T.F_plan_by sc_plan_by rfl (fun C cdv A outer s H E hr => ⟨_, (@dss_consG _ _ _ _ _ _ (ds_set (ps_set (i := 2) sc_plan_by.nd rfl (Or.inl rfl) (pd_f (pf_lst dv_nil)))) (@dss_consG _ _ _ _ _ _ (ds_set (ps_set (i := 3) sc_plan_by.nd rfl (Or.inl rfl) (pd_call (pe_call G_cost_at (hr.mono (by decide)) rfl T.mg_cost_at T.kp_cost_at b_cost_at .nil pass0 (da_v (pd_var (pv 0)) (da_v (pd_var (pv 1)) da_nil se_Name) se_Name) (he := se_Name) (hpl := (np_cons se_Name np_nil)))))) (@dss_consG _ _ _ _ _ _ (@ds_mid _ _ _ _ (@ds_while _ _ _ _ _ (@ps_while _ _ _ _ _ _ PassesOwn.never (pdt_cmp op_notN ok_notN (pd_var (pv 3)) pd_non (nomark _)) (@dss_consG _ _ _ _ _ _ (ds_set (ps_set (i := 2) sc_plan_by.nd rfl (Or.inl rfl) (pd_call (pe_call G_with_step (hr.mono (by decide)) rfl T.mg_with_step T.kp_with_step b_with_step .nil pass0 (da_v (pd_var (pv 2)) (da_v (pd_ixv (pv 3) (pd_gi (pe_glob (v := V.int 0) rfl T.mg_STEP ⟨_, rfl⟩)) (fun _ _ => rfl)) da_nil se_Subscript) se_Name) (he := se_Name) (hpl := (np_cons se_Subscript np_nil)))))) (dss_one (ds_set (ps_set (i := 3) sc_plan_by.nd rfl (Or.inl rfl) (pd_call (pe_call G_cost_at (hr.mono (by decide)) rfl T.mg_cost_at T.kp_cost_at b_cost_at .nil pass0 (da_v (pd_var (pv 0)) (da_v (pd_ixv (pv 3) (pd_gi (pe_glob (v := V.int 2) rfl T.mg_BEHIND ⟨_, rfl⟩)) (fun _ _ => rfl)) da_nil se_Subscript) se_Name) (he := se_Name) (hpl := (np_cons se_Subscript np_nil))))))))))) (dss_one (ds_ret (pd_var (pv 2))))))), fun ds Q hl h => ?_⟩)
 obtain ⟨m, n, ws, pr, g, t, oo, rk, b, z, rfl, hK, hin, mn, b1, b2, hb, q⟩ := h
 decreasing_tactic
 refine ⟨by decide, ?_⟩
 refine go ?_; decreasing_tactic
 refine ⟨onsR oo, b, _, _, rfl, onsR_at hK.sh b1, on_at hK.sh b1 b2, ?_⟩
 refine go ?_
 (try unfold dSeqG); (try unfold dMid)
 refine ⟨fun ρ' => ∃ (ss : List Pst) (l : Nat), ρ' = [Sl.sh (.list (lls (onsR oo))), Sl.sh (sptD b), Sl.sh (.list (ss.map pstD)), Sl.sh .none] ∧ Run n ws pr ss (b, 0) ((g.1, l), z) ∧ g.2 ≤ l ∧ ss.length ≤ 900 ∧ PlanR oo b [] ss, ?_, ?_⟩
 ·unfold dWhile
  refine ⟨fun μ ρ => ∃ (ss : List Pst) (s : Spt) (p y : Int), ρ = [Sl.sh (.list (lls (onsR oo))), Sl.sh (sptD b), Sl.sh (.list (ss.map pstD)), Sl.sh (onX (oa oo s))] ∧ s.1 < m ∧ s.2 < n ∧ ca t s = some y ∧ Run n ws pr ss (b, 0) (s, p) ∧ p + y = z ∧ ss.length + rk s ≤ rk b ∧ (∀ fin, PlanR oo s ss fin → PlanR oo b [] fin) ∧ μ = rk s, ⟨_, [], b, 0, z, rfl, b1, b2, hb, rfl, Int.zero_add z, by show 0 + rk b ≤ rk b; omega, (fun _ h => h), rfl⟩, ?_⟩
  rintro μ ρ ⟨ss, s, p, y, rfl, s1, s2, hy, hR, hp, hl, hfin, rfl⟩
  have hh := hK.hi b
  rcases hK.is s y s1 s2 hy with ⟨e, g1, g2, rfl⟩ | ⟨x, hx, e, x1, y', e1, e2, hlt⟩
  ·rw [e]
   dsimp only [onX]
   decreasing_tactic
   rw [Int.add_zero] at hp
   subst hp
   refine ⟨ss, s.2, rfl, ?_, g2, by omega, hfin ss (.stop e)⟩
   rw [← g1]; exact hR
  ·rw [e]
   obtain ⟨st, hst, hone⟩ := mv_is hx
   obtain ⟨c1, c2⟩ := hin x hx
   dsimp only [onX]
   unfold mvD
   decreasing_tactic
   try dsimp only [Blk]
   decreasing_tactic
   rw [hst]
   refine ⟨n, ws, pr, ss, st, rfl, by omega, fun ss' hw' hl' hrun => ?_⟩
   refine go ?_; decreasing_tactic
   refine ⟨onsR oo, x.2.2.1, _, _, rfl, onsR_at hK.sh c1, on_at hK.sh c1 c2, ?_⟩
   try refine go ?_
   decreasing_tactic
   have ho := hone p
   rw [x1] at ho
   exact ⟨rk x.2.2.1, hlt, ss', x.2.2.1, p + x.2.2.2, y', rfl, c1, c2, e1, hrun _ _ _ hR ho, by omega, by omega, fun fin hf => hfin fin (.go e hst (by rw [← hw']; exact hf)), rfl⟩
 rintro ρ ⟨ss, l, rfl, hR, h1, h2, h3⟩
 refine go ?_; decreasing_tactic
 exact q ss l hR h1 h2 h3
theorem ok_cheapest (T : Txt K mg) : FnOk P w K mg base CX0 5 T.a_cheapest T.d_cheapest ["land", "store", "prices", "begin", "goal"] (spD [.bd, .sh, .bd, .sh, .sh] spCheapD) := by
 have G_settled_costs := @ok_settled_costs P w K mg base T
 have b_settled_costs := bd_settled_costs T
 have G_cost_at := @ok_cost_at__s P w K mg base T
 have b_cost_at := bd_cost_at T
 have G_plan_by := @ok_plan_by P w K mg base T
 have b_plan_by := bd_plan_by T
 refine fn_d T.F_cheapest sc_cheapest rfl (fun C cdv A outer s H E hr => ⟨_, (@dss_consG _ _ _ _ _ _ (ds_set (ps_set (i := 5) sc_cheapest.nd rfl (Or.inl rfl) (pd_call (pe_call G_settled_costs (hr.mono (by decide)) rfl T.mg_settled_costs T.kp_settled_costs b_settled_costs .nil pass0 (da_s (pv 0) (da_v (pd_var (pv 1)) (da_s (pv 2) (da_v (pd_var (pv 4)) da_nil se_Name) se_Name) se_Name) se_Name) (he := se_Name) (hpl := (np_cons se_Name (np_cons se_Name (np_cons se_Name np_nil)))))))) (@dss_consG _ _ _ _ _ _ (ds_set (ps_set (i := 6) sc_cheapest.nd rfl (Or.inl rfl) (pd_call (pe_call G_cost_at (hr.mono (by decide)) rfl T.mg_cost_at T.kp_cost_at b_cost_at .nil pass0 (da_v (pd_ixv (pv 5) pd_int (fun _ _ => rfl)) (da_v (pd_var (pv 3)) da_nil se_Name) se_Subscript) (he := se_Subscript) (hpl := (np_cons se_Name np_nil)))))) (@dss_consG _ _ _ _ _ _ (ds_if (pdt_cmp op_isN ok_isN (pd_var (pv 6)) pd_non (nomark _))
   (dss_one (ds_ret pd_non))
   dss_nil) (dss_one (ds_ret (pd_tup (dv_cons (pd_var (pv 6)) (dv_cons (pd_call (pe_call G_plan_by (hr.mono (by decide)) rfl T.mg_plan_by T.kp_plan_by b_plan_by .nil pass0 (da_v (pd_ixv (pv 5) pd_int (fun _ _ => rfl)) (da_v (pd_var (pv 3)) da_nil se_Name) se_Subscript) (he := se_Subscript) (hpl := (np_cons se_Name np_nil)))) dv_nil se_Call) se_Name))))))), fun ds Q hl h => ?_⟩)
 obtain ⟨m, n, P, ws, pr, b, g, rfl, M, mn, b1, b2, q⟩ := h
 decreasing_tactic
 refine ⟨rfl, rfl, m, n, P, ws, pr, g, rfl, M, fun t oo rk hB hK hSet => ?_⟩
 obtain ⟨q1, q2⟩ := q t hB
 refine go ?_; decreasing_tactic
 obtain ⟨r1, r2⟩ := ct_row hB.ok b1 b2
 refine ⟨rowsC t, b, _, _, rfl, r1, r2, ?_⟩
 refine go ?_
 cases e : ca t b with
 | none =>
  decreasing_trivial
  exact q1 e
 | some z =>
  decreasing_trivial
  refine go ?_; decreasing_tactic
  refine ⟨m, n, ws, pr, g, t, oo, rk, b, z, rfl, hK, fun x hx => ?_, mn, b1, b2, e, fun ss l hr h1 h2 h3 => ?_⟩
  ·obtain ⟨_, _, a3, a4, _, _⟩ := M.inn (List.mem_map.mpr ⟨x, hx, rfl⟩)
   exact ⟨a3, a4⟩
  ·decreasing_tactic
   exact ⟨by show 2 ≤ 1000; decide, q2 z ss l e hr h1 h2 ⟨t, oo, hSet, h3⟩⟩
end
def sptK (s : Spt) : List Int := [((s.1 : Nat) : Int), ((s.2 : Nat) : Int)]
theorem sptK_inj {s q : Spt} : sptK s = sptK q ↔ s = q := by
 constructor
 ·intro h
  unfold sptK at h
  injection h with h1 h2
  injection h2 with h2 _
  exact Prod.ext (Int.ofNat.inj h1) (Int.ofNat.inj h2)
 ·intro h; rw [h]
def kvJ (L : List (Spt × Int)) : List (List Int × Int) := L.map fun p => (sptK p.1, p.2)
def lkJ (L : List (Spt × Int)) (s : Spt) : Option Int := (L.find? fun p => decide (p.1 = s)).map (·.2)
def putJ (L : List (Spt × Int)) (s : Spt) (c : Int) : List (Spt × Int) := if (L.any fun p => decide (p.1 = s)) = true then L.map (fun p => if p.1 = s then (p.1, c) else p) else L ++ [(s, c)]
def delJ (L : List (Spt × Int)) (s : Spt) : List (Spt × Int) := L.filter fun p => decide (p.1 ≠ s)
theorem dec_K (p s : Spt) : decide (sptK p = sptK s) = decide (p = s) := by
 by_cases h : p = s
 ·rw [decide_eq_true h, decide_eq_true (sptK_inj.mpr h)]
 ·rw [decide_eq_false h, decide_eq_false (fun z => h (sptK_inj.mp z))]
theorem lk_kv (s : Spt) : ∀ L, lkM (kvJ L) (sptK s) = lkJ L s
 | [] => rfl
 | p :: L => by
  have ih := lk_kv s L
  unfold lkM lkJ at *
  show (((sptK p.1, p.2) :: kvJ L).find? fun q => decide (q.1 = sptK s)).map (·.2) = _
  by_cases h : p.1 = s
  ·rw [List.find?_cons_of_pos (by simpa using sptK_inj.mpr h), List.find?_cons_of_pos (by simpa using h)]; rfl
  ·rw [List.find?_cons_of_neg (by simpa using fun z => h (sptK_inj.mp z)), List.find?_cons_of_neg (by simpa using h)]
   exact ih
theorem any_kv (s : Spt) : ∀ L, ((kvJ L).any fun p => decide (p.1 = sptK s)) = L.any fun p => decide (p.1 = s)
 | [] => rfl
 | p :: L => by
  show (decide (sptK p.1 = sptK s) || (kvJ L).any fun p => decide (p.1 = sptK s)) = (decide (p.1 = s) || L.any fun p => decide (p.1 = s))
  rw [any_kv s L, dec_K]
theorem put_kv (s : Spt) (c : Int) (L : List (Spt × Int)) : putM (kvJ L) (sptK s) c = kvJ (putJ L s c) := by
 unfold putM putJ
 rw [any_kv]
 split
 ·unfold kvJ
  rw [List.map_map, List.map_map]
  refine List.map_congr_left fun p _ => ?_
  show (if sptK p.1 = sptK s then (sptK p.1, c) else (sptK p.1, p.2)) = (sptK (if p.1 = s then (p.1, c) else p).1, (if p.1 = s then (p.1, c) else p).2)
  by_cases h : p.1 = s
  ·rw [if_pos h, if_pos (sptK_inj.mpr h)]
  ·rw [if_neg h, if_neg (fun z => h (sptK_inj.mp z))]
 ·unfold kvJ
  rw [List.map_append]; rfl
theorem del_kv (s : Spt) : ∀ L, delM (kvJ L) (sptK s) = kvJ (delJ L s)
 | [] => rfl
 | p :: L => by
  have ih := del_kv s L
  unfold delM delJ at *
  show ((sptK p.1, p.2) :: kvJ L).filter (fun q => decide (q.1 ≠ sptK s)) = _
  by_cases h : p.1 = s
  ·rw [List.filter_cons_of_neg (by simpa using sptK_inj.mpr h), List.filter_cons_of_neg (by simpa using h)]
   exact ih
  ·rw [List.filter_cons_of_pos (by simpa using fun z => h (sptK_inj.mp z)), List.filter_cons_of_pos (by simpa using h), ih]
   rfl
theorem keys_kv {L : List (Spt × Int)} (h : (L.map (·.1)).Nodup) : ((kvJ L).map (·.1)).Nodup := by
 unfold kvJ
 rw [List.map_map]
 rw [show ((fun x : List Int × Int => x.1) ∘ fun p : Spt × Int => (sptK p.1, p.2)) = sptK ∘ (fun p : Spt × Int => p.1) from rfl, ← List.map_map]
 exact List.pairwise_map.mpr (h.imp fun hne e => hne (sptK_inj.mp e))
theorem lkJ_mem {s : Spt} {c : Int} : ∀ {L : List (Spt × Int)}, lkJ L s = some c → (s, c) ∈ L := fun {L} h => by
 unfold lkJ at h
 obtain ⟨p, hp, rfl⟩ := Option.map_eq_some_iff.mp h
 have := List.find?_some hp
 have e : p.1 = s := of_decide_eq_true this
 rw [← e]
 exact List.mem_of_find?_eq_some hp
theorem lkJ_of {s : Spt} {c : Int} : ∀ {L : List (Spt × Int)}, (L.map (·.1)).Nodup → (s, c) ∈ L → lkJ L s = some c
 | [], _, h => nomatch h
 | p :: L, nd, h => by
  rw [List.map_cons, List.nodup_cons] at nd
  unfold lkJ
  rcases List.mem_cons.mp h with e | h
  ·subst e
   rw [List.find?_cons_of_pos (by simp)]; rfl
  ·rw [List.find?_cons_of_neg (by simpa using fun e : p.1 = s => nd.1 (by rw [e]; exact List.mem_map_of_mem (f := fun p : Spt × Int => p.1) h))]
   exact lkJ_of nd.2 h
theorem any_lk {s : Spt} : ∀ {L : List (Spt × Int)}, (L.any fun p => decide (p.1 = s)) = (lkJ L s).isSome
 | [] => rfl
 | p :: L => by
  rw [List.any_cons]
  unfold lkJ
  by_cases h : p.1 = s
  ·rw [List.find?_cons_of_pos (by simpa using h), decide_eq_true h]; rfl
  ·rw [List.find?_cons_of_neg (by simpa using h), decide_eq_false h, Bool.false_or]
   exact any_lk
theorem lkJ_pos {p : Spt × Int} {L : List (Spt × Int)} {q : Spt} (h : p.1 = q) : lkJ (p :: L) q = some p.2 := by
 unfold lkJ
 rw [List.find?_cons_of_pos (by simpa using h)]; rfl
theorem lkJ_neg {p : Spt × Int} {L : List (Spt × Int)} {q : Spt} (h : p.1 ≠ q) : lkJ (p :: L) q = lkJ L q := by
 unfold lkJ
 rw [List.find?_cons_of_neg (by simpa using h)]
theorem lkJ_app {s q : Spt} {c : Int} : ∀ {L : List (Spt × Int)}, lkJ L s = none → lkJ (L ++ [(s, c)]) q = setJ (lkJ L) s (some c) q
 | [], _ => by
  by_cases e : q = s
  ·rw [e, setJ_same]; exact lkJ_pos rfl
  ·rw [setJ_ne e]; exact lkJ_neg (fun z => e z.symm)
 | p :: L, h => by
  have ne : p.1 ≠ s := fun z => by rw [lkJ_pos z] at h; cases h
  rw [lkJ_neg ne] at h
  have ih := lkJ_app (q := q) (c := c) h
  show lkJ (p :: (L ++ [(s, c)])) q = _
  by_cases e1 : p.1 = q
  ·rw [lkJ_pos e1, setJ_ne (by rw [← e1]; exact ne), lkJ_pos e1]
  ·rw [lkJ_neg e1, ih]
   by_cases e : q = s
   ·rw [e, setJ_same, setJ_same]
   ·rw [setJ_ne e, setJ_ne e, lkJ_neg e1]
theorem lkJ_rep {s q : Spt} {c : Int} : ∀ {L : List (Spt × Int)}, (lkJ L s).isSome = true → lkJ (L.map fun p => if p.1 = s then (p.1, c) else p) q = setJ (lkJ L) s (some c) q
 | [], h => by cases h
 | p :: L, h => by
  rw [List.map_cons]
  have hk : ∀ z, ((if p.1 = s then (p.1, c) else p).1 = z) ↔ p.1 = z := fun z => by split <;> rfl
  have same : ¬ (lkJ L s).isSome = true → (L.map fun p => if p.1 = s then (p.1, c) else p) = L := fun hn => by
   rw [List.map_congr_left (g := id) (fun p' hp' => by
    have : ¬ p'.1 = s := fun z => hn (by rw [← any_lk]; exact List.any_eq_true.mpr ⟨p', hp', decide_eq_true z⟩)
    rw [if_neg this]; rfl), List.map_id]
  by_cases e1 : p.1 = q
  ·rw [lkJ_pos ((hk q).mpr e1)]
   by_cases e2 : p.1 = s
   ·rw [if_pos e2, ← e1, e2, setJ_same]
   ·rw [if_neg e2, setJ_ne (by rw [← e1]; exact e2), lkJ_pos e1]
  ·rw [lkJ_neg (fun z => e1 ((hk q).mp z))]
   by_cases e3 : (lkJ L s).isSome = true
   ·rw [lkJ_rep e3]
    by_cases e : q = s
    ·rw [e, setJ_same, setJ_same]
    ·rw [setJ_ne e, setJ_ne e, lkJ_neg e1]
   ·rw [same e3]
    have e5 : p.1 = s := by
     by_cases z : p.1 = s
     ·exact z
     ·rw [lkJ_neg z] at h; exact absurd h e3
    rw [setJ_ne (fun z => e1 (by rw [e5, z])), lkJ_neg e1]
theorem lk_put (L : List (Spt × Int)) (s : Spt) (c : Int) : lkJ (putJ L s c) = setJ (lkJ L) s (some c) := by
 funext q
 unfold putJ
 rw [any_lk]
 split
 ·rename_i h; exact lkJ_rep h
 ·rename_i h
  refine lkJ_app ?_
  cases e : lkJ L s with
  | none => rfl
  | some x => rw [e] at h; exact absurd rfl h
theorem lk_del (L : List (Spt × Int)) (s : Spt) : lkJ (delJ L s) = setJ (lkJ L) s none := by
 funext q
 unfold delJ
 induction L with
 | nil => unfold setJ; split <;> rfl
 | cons p L ih =>
  by_cases e2 : p.1 = s
  ·rw [List.filter_cons_of_neg (by simpa using e2), ih]
   by_cases e : q = s
   ·rw [e, setJ_same, setJ_same]
   ·rw [setJ_ne e, setJ_ne e]
    unfold lkJ
    rw [List.find?_cons_of_neg (by simpa using fun z => e (by rw [← z, e2]))]
  ·rw [List.filter_cons_of_pos (by simpa using e2)]
   by_cases e1 : p.1 = q
   ·rw [setJ_ne (by rw [← e1]; exact e2)]
    unfold lkJ
    rw [List.find?_cons_of_pos (by simpa using e1), List.find?_cons_of_pos (by simpa using e1)]
   ·have e3 : lkJ (p :: L.filter fun p => decide (p.1 ≠ s)) q = lkJ (L.filter fun p => decide (p.1 ≠ s)) q := by
     unfold lkJ
     rw [List.find?_cons_of_neg (by simpa using e1)]
    rw [e3, ih]
    by_cases e : q = s
    ·rw [e, setJ_same, setJ_same]
    ·rw [setJ_ne e, setJ_ne e]
     unfold lkJ
     rw [List.find?_cons_of_neg (by simpa using e1)]
theorem nd_put {L : List (Spt × Int)} {s : Spt} {c : Int} (h : (L.map (·.1)).Nodup) : ((putJ L s c).map (·.1)).Nodup := by
 unfold putJ
 split
 ·rw [List.map_map, show L.map ((fun x : Spt × Int => x.1) ∘ fun p => if p.1 = s then (p.1, c) else p) = L.map (·.1) from List.map_congr_left fun p _ => by show (if p.1 = s then (p.1, c) else p).1 = p.1; split <;> rfl]
  exact h
 ·rename_i k
  rw [List.map_append, List.nodup_append]
  refine ⟨h, by simp, fun a ha b hb e => k ?_⟩
  obtain ⟨p, hp, rfl⟩ := List.mem_map.mp ha
  have : b = s := by simpa using hb
  exact List.any_eq_true.mpr ⟨p, hp, decide_eq_true (by rw [e, this])⟩
theorem nd_del {L : List (Spt × Int)} {s : Spt} (h : (L.map (·.1)).Nodup) : ((delJ L s).map (·.1)).Nodup := h.sublist (List.Sublist.map _ List.filter_sublist)
theorem len_put {L : List (Spt × Int)} {s : Spt} {c : Int} (h : lkJ L s = none) : (putJ L s c).length = L.length + 1 := by
 unfold putJ
 rw [any_lk, h, if_neg (by decide), List.length_append]; rfl
def aD (p : Spt × Int) : PyData := .tuple [.int ((p.1.1 : Nat) : Int), .int ((p.1.2 : Nat) : Int), .int p.2]
structure Ahd (n : Nat) (mv : List Mv) (s : Spt) (c : Int) (dw : List Wy) (A : List (Spt × Int)) : Prop where
 has : ∀ w ∈ dw, ∀ (l : Nat) (x : Int), l < n → stepF (((n : Nat) : Int) - 1) ((l : Nat) : Int) w.2.2 = some x → w.2.1 = s.1 → x.toNat = s.2 → ((w.1, l), c) ∈ A
 only : ∀ p ∈ A, ∃ v ∈ mv, v.2.1 = s ∧ v.1 = p.1 ∧ p.2 = c + v.2.2
 len : A.length ≤ 100 * dw.length
structure AhF (mv : List Mv) (s : Spt) (c : Int) (A : List (Spt × Int)) : Prop where
 has : ∀ v ∈ mv, v.2.1 = s → (v.1, c + v.2.2) ∈ A
 only : ∀ p ∈ A, ∃ v ∈ mv, v.2.1 = s ∧ v.1 = p.1 ∧ p.2 = c + v.2.2
theorem ah_more {s : Spt} {c : Int} {dn : List (Spt × Int)} {p : Spt × Int} {v w : Mv} (e1 : v.1 = p.1) (e2 : p.2 = c + v.2.2) (ho : ¬ (w.2.1 = s ∧ (w.1, c + w.2.2) ∉ dn ++ [p])) : ¬ (w.2.1 = s ∧ (w.1, c + w.2.2) ∉ dn) ∨ (w.1 = v.1 ∧ w.2.1 = s ∧ w.2.2 = v.2.2) := by
 by_cases h1 : w.2.1 = s
 ·by_cases h2 : (w.1, c + w.2.2) ∈ dn ++ [p]
  ·rcases List.mem_append.mp h2 with z | z
   ·exact .inl fun k => k.2 z
   ·have z := List.mem_singleton.mp z
    refine .inr ⟨by rw [e1, ← z], h1, ?_⟩
    have : c + w.2.2 = p.2 := by rw [← z]
    omega
  ·exact absurd ⟨h1, h2⟩ ho
 ·exact .inl fun k => h1 k.1
theorem compFS {α : Type} {tt : DT} {te : DE} {ρ : List Sl} {Q : List PyData → Prop} {j : Nat} {g f : α → PyData} {p : α → Bool} : ∀ {xs : List α} {acc : List PyData}, (∀ x ∈ xs, ∀ Q' : Bool → List Sl → Prop, Q' (p x) (ρ.set j (.sh (g x))) → tt (ρ.set j (.sh (g x))) Q') → (∀ x ∈ xs, p x = true → ∀ Q' : PyData → List Sl → Prop, Q' (f x) (ρ.set j (.sh (g x))) → te (ρ.set j (.sh (g x))) Q') →
  Q (acc ++ (xs.filter p).map f) → dCompLS j tt te ρ Q (xs.map g) acc
 | [], acc, _, _, q => by
  have q' : Q (acc ++ []) := q
  rw [List.append_nil] at q'
  exact q'
 | x :: r, acc, h1, h2, q => by
  refine h1 x List.mem_cons_self _ ⟨rfl, ?_⟩
  cases e : p x with
  | true =>
   rw [if_pos rfl]
   refine h2 x List.mem_cons_self e _ ⟨rfl, compFS (fun y hy => h1 y (List.mem_cons_of_mem _ hy)) (fun y hy => h2 y (List.mem_cons_of_mem _ hy)) ?_⟩
   rw [List.filter_cons_of_pos e] at q
   rw [List.append_assoc]
   exact q
  | false =>
   rw [if_neg Bool.false_ne_true]
   refine compFS (fun y hy => h1 y (List.mem_cons_of_mem _ hy)) (fun y hy => h2 y (List.mem_cons_of_mem _ hy)) ?_
   rw [List.filter_cons_of_neg (by rw [e]; exact Bool.false_ne_true)] at q
   exact q
theorem ahd_none {n : Nat} {ws : List Wy} {pr : List (Option Int)} {mv : List Mv} {s : Spt} {c : Int} {A : List (Spt × Int)} (M : Mvs n ws pr mv) (h : Ahd n mv s c ws A) (hn : ∀ pc, gt pr s.1 = some pc → s.2 = 0) : AhF mv s c A := by
 refine ⟨fun v hv e => ?_, h.only⟩
 rcases M.only v hv with ⟨w, hw, l, x, hl, hx, rfl⟩ | ⟨p, l, pc, hc, hl, rfl⟩
 ·have := h.has w hw l x hl hx (congrArg Prod.fst e) (congrArg Prod.snd e)
  show ((w.1, l), c + 0) ∈ A
  rw [Int.add_zero]; exact this
 ·have e1 : p = s.1 := congrArg Prod.fst e
  have e2 : l + 1 = s.2 := congrArg Prod.snd e
  have := hn pc (by rw [← e1]; exact hc)
  omega
theorem ahd_some {n : Nat} {ws : List Wy} {pr : List (Option Int)} {mv : List Mv} {s : Spt} {c pc : Int} {A : List (Spt × Int)} (M : Mvs n ws pr mv) (h : Ahd n mv s c ws A) (e : gt pr s.1 = some pc) (h0 : 0 < s.2) (hs : s.2 < n) : AhF mv s c (A ++ [((s.1, s.2 - 1), c + pc)]) := by
 refine ⟨fun v hv e3 => ?_, fun p hp => ?_⟩
 ·rcases M.only v hv with ⟨w, hw, l, x, hl, hx, rfl⟩ | ⟨p, l, pc', hc, hl, rfl⟩
  ·have := h.has w hw l x hl hx (congrArg Prod.fst e3) (congrArg Prod.snd e3)
   refine List.mem_append_left _ ?_
   show ((w.1, l), c + 0) ∈ A
   rw [Int.add_zero]; exact this
  ·have e1 : p = s.1 := congrArg Prod.fst e3
   have e2 : l + 1 = s.2 := congrArg Prod.snd e3
   subst e1
   rw [e] at hc
   cases hc
   refine List.mem_append_right _ (List.mem_singleton.mpr ?_)
   show ((s.1, l), c + pc) = ((s.1, s.2 - 1), c + pc)
   rw [show l = s.2 - 1 by omega]
 ·rcases List.mem_append.mp hp with z | z
  ·exact h.only p z
  ·rw [List.mem_singleton.mp z]
   refine ⟨((s.1, s.2 - 1), (s.1, s.2 - 1 + 1), pc), M.buy s.1 (s.2 - 1) pc e (by omega), ?_, rfl, rfl⟩
   show (s.1, s.2 - 1 + 1) = s
   rw [show s.2 - 1 + 1 = s.2 by omega]
theorem ahd_on {n : Nat} {ws : List Wy} {pr : List (Option Int)} {mv : List Mv} {s : Spt} {c : Int} {dw : List Wy} {w : Wy} {A : List (Spt × Int)} (M : Mvs n ws pr mv) (hw : w ∈ ws) (h : Ahd n mv s c dw A) (c1 : w.2.1 = s.1) (hn : n ≤ 100) :
  Ahd n mv s c (dw ++ [w]) (A ++ ((List.range n).filter fun l => decide (stepF (((n : Nat) : Int) - 1) ((l : Nat) : Int) w.2.2 = some ((s.2 : Nat) : Int))).map fun l => ((w.1, l), c)) := by
 refine ⟨fun w' hw' l x hl hx e1 e2 => ?_, fun p hp => ?_, ?_⟩
 ·rcases List.mem_append.mp hw' with z | z
  ·exact List.mem_append_left _ (h.has w' z l x hl hx e1 e2)
  ·have z := List.mem_singleton.mp z
   subst z
   refine List.mem_append_right _ (List.mem_map.mpr ⟨l, List.mem_filter.mpr ⟨List.mem_range.mpr hl, decide_eq_true ?_⟩, rfl⟩)
   have := (step_bd (st := ((n : Nat) : Int) - 1) (by omega) hx).1
   rw [hx]
   congr 1
   omega
 ·rcases List.mem_append.mp hp with z | z
  ·exact h.only p z
  ·obtain ⟨l, hl, rfl⟩ := List.mem_map.mp z
   obtain ⟨h1, h2⟩ := List.mem_filter.mp hl
   have h2 := of_decide_eq_true h2
   refine ⟨((w.1, l), (w.2.1, (((s.2 : Nat) : Int)).toNat), 0), M.way w hw l _ (List.mem_range.mp h1) h2, ?_, rfl, (Int.add_zero _).symm⟩
   show (w.2.1, (((s.2 : Nat) : Int)).toNat) = s
   rw [c1]; rfl
 ·rw [List.length_append, List.length_map, List.length_append]
  have := List.length_filter_le (fun l => decide (stepF (((n : Nat) : Int) - 1) ((l : Nat) : Int) w.2.2 = some ((s.2 : Nat) : Int))) (List.range n)
  rw [List.length_range] at this
  have := h.len
  show _ ≤ 100 * (dw.length + 1)
  omega
theorem ahd_off {n : Nat} {mv : List Mv} {s : Spt} {c : Int} {dw : List Wy} {w : Wy} {A : List (Spt × Int)} (h : Ahd n mv s c dw A) (c1 : w.2.1 ≠ s.1) : Ahd n mv s c (dw ++ [w]) A := by
 refine ⟨fun w' hw' l x hl hx e1 e2 => ?_, h.only, by rw [List.length_append]; have := h.len; show _ ≤ 100 * (dw.length + 1); omega⟩
 rcases List.mem_append.mp hw' with z | z
 ·exact h.has w' z l x hl hx e1 e2
 ·rw [List.mem_singleton.mp z] at e1; exact absurd e1 c1
def spLStC : DSp := fun ds Q => ∃ (st : Int) (l : Option Int) (c : Int), ds = [.int st, oD l, .int c] ∧ Q (oD (l.bind fun x => stepF st x c))
def spCostsL : DSp := fun ds Q => ∃ (m n P : Nat) (ws : List Wy) (pr : List (Option Int)) (g : Spt), ds = [landD m ws, .int (((n : Nat) : Int) - 1), .list (tabL pr), sptD g] ∧ Mkt m n P ws pr g ∧ m * n ≤ 900 ∧ pr.length = m ∧ ∀ t, Best m n ((mvAll n ws pr).map fun x => x.2) g t → Q (.list (lls (rowsC t)))
section
variable {P : Program} {w : World} {K : PySem.W.Frag} {mg : Str → Option Value} {base : Heap}
theorem ok_step (T : Txt K mg) : FnOk P w K mg base CX0 1 T.a_step T.d_step ["_law_store", "_law_level", "_law_change_here"] (spD [.sh, .sh, .sh] spLStC) := by
 refine fn_d T.F_step sc_step rfl (fun C cdv A outer s H E hr => ⟨_, (@dss_cons _ _ _ _ _ _ (ds_if (PW.pt (pwd_or (pdt_cmp op_isN ok_isN (pd_var (pv 1)) pd_non (nomark _)) (pwd_or1 (pdt_cmp op_lt ok_lt (pd_op op_add ok_add (pd_var (pv 1)) (pd_var (pv 2))) pd_int (nomark _)))))
   (dss_one (ds_ret pd_non))
   dss_nil) (dss_one (ds_ret (pd_cb cb_min (pe_callB (call_min2 rfl) rfl T.n_min bt_min (dv_cons (pd_var (pv 0)) (dv_cons (pd_op op_add ok_add (pd_var (pv 1)) (pd_var (pv 2))) dv_nil se_BinOp) se_Name) (he := se_Name) (hpl := (np_cons se_BinOp np_nil))))))), fun ds Q hl h => ?_⟩)
 obtain ⟨st, l, c, rfl, q⟩ := h
 cases l with
 | none =>
  decreasing_trivial
  exact q
 | some x =>
  have e : oD ((some x).bind fun y => stepF st y c) = if x + c < 0 then .none else .int (if x + c < st then x + c else st) := by
   show oD (stepF st x c) = _
   unfold stepF
   by_cases h : x + c < 0
   ·rw [if_pos h, if_pos h]; rfl
   ·rw [if_neg h, if_neg h]
    show PyData.int _ = PyData.int _
    congr 1
    split <;> split <;> omega
  rw [e] at q
  decreasing_trivial
  by_cases c1 : x + c < 0
  ·rw [if_pos c1] at q
   rw [decide_eq_true c1]
   decreasing_trivial
   exact q
  ·rw [if_neg c1] at q
   rw [decide_eq_false c1]
   decreasing_trivial
   exact q
theorem ok_costs (T : Txt K mg) : FnOk P w K mg base CX0 2 T.a_costs T.d_costs ["_law_land_here", "_law_store", "_law_prices_here", "_law_goal"] (spD [.sh, .sh, .sh, .sh] spCostsL) := by
 have G_step := @ok_step P w K mg base T
 have b_step := bd_step T
 refine fn_d T.F_costs sc_costs rfl (fun C cdv A outer s H E hr => ⟨_, (@dss_consG _ _ _ _ _ _ (ds_mnew (ps_set (i := 4) sc_costs.nd rfl (Or.inr rfl) pe_dnewT)) (@dss_consG _ _ _ _ _ _ (ds_mnew (ps_set (i := 5) sc_costs.nd rfl (Or.inr rfl) pe_dnewT)) (@dss_consG _ _ _ _ _ _ (@ds_mid _ _ _ _ (@ds_for _ _ _ _ _ _ (@ps_for _ _ _ _ _ _ _ _ PassesOwn.never rfl (di_rng2 (pi_range2 rfl T.n_range (dv_cons (pd_ixv (pv 3) pd_int (fun _ _ => rfl)) (dv_cons (pd_op op_add ok_add (pd_var (pv 1)) pd_int) dv_nil se_BinOp) se_Subscript))) (dg_name (pg_name (i := 6) sc_costs.nd rfl (Or.inr rfl))) (dss_one (ds_mput (ps_dput (u1 (units_of hr)) (pv 5) (pd_tup (dv_cons (pd_ixv (pv 3) pd_int (fun _ _ => rfl)) (dv_cons (pd_var (pv 6)) dv_nil se_Name) se_Subscript)) pd_int (by rfl)))) (by intro _; rfl)))) (@dss_consG _ _ _ _ _ _ (@ds_mid _ _ _ _ (@ds_while _ _ _ _ _ (@ps_while _ _ _ _ _ _ PassesOwn.never (pdt_mne (units_of hr) (pv 5) pe_dnewT (nomark _)) (@dss_consG _ _ _ _ _ _ (@ds_asg _ _ _ _ _ (@ps_asg _ _ _ _ _ _ (@pd_cb _ _ _ _ _ _ cb_minM (@pe_callB _ _ _ _ _ _ _ _ _ (call_minJ rfl (units160 hr)) rfl T.n_min bt_min (@dv_cons _ _ _ _ _ _ (@pd_f _ _ _ _ (@pf_mitems _ _ _ 5 16 (by decide) (@pe_thaw _ _ _ (@pe_comp _ _ _ _ _ _ _ _ _ _ _ _ _ _ _ (CompSc.new (N := ["_law_land_here", "_law_store", "_law_prices_here", "_law_goal", "_law_settled", "_law_waiting", "_law_level", "_law_cost", "_law_spot", "_law_place", "_law_ahead", "_law_start", "_law_end", "_law_change_here", "_law_x", "_law_more"]) (osc := defScope s_costs) (by decide +kernel)) rfl (pi_dictT (pv 5)) (fun _ => pts_nil) (fun _ => (pe_tup (pa_cons (pe_dget (u1 (units_of hr)) (pv 5) (pv 16) (fun _ _ => rfl)) (pa_cons (pv 16) pa_nil se_Name) se_Subscript))) (by rfl) (by rfl) (by intro _; rfl))))) dv_nil se_ListComp) (by decide) (by decide) se_ListComp np_nil)) (dg_t2 (pg_tup (n := 2) rfl (pgs_cons (pg_name (i := 7) sc_costs.nd rfl (Or.inr rfl)) (pgs_cons (pg_name (i := 8) sc_costs.nd rfl (Or.inl rfl)) pgs_nil)))) (by rfl) (by rfl) (by rfl))) (@dss_consG _ _ _ _ _ _ (ds_mpop (ps_expr (pe_dpopT (u1 (units_of hr)) (pv 5) (pd_var (pv 8)) ⟨rfl, rfl, rfl, rfl⟩))) (@dss_consG _ _ _ _ _ _ (ds_mput (ps_dput (u1 (units_of hr)) (pv 4) (pd_var (pv 8)) (pd_var (pv 7)) (by rfl))) (@dss_consG _ _ _ _ _ _ (ds_asg (ps_asg (pd_var (pv 8)) (dg_t2 (pg_tup (n := 2) rfl (pgs_cons (pg_name (i := 9) sc_costs.nd rfl (Or.inl rfl)) (pgs_cons (pg_name (i := 6) sc_costs.nd rfl (Or.inr rfl)) pgs_nil)))))) (@dss_consG _ _ _ _ _ _ (ds_own (ps_set (i := 10) sc_costs.nd rfl (Or.inl rfl) (pf_lst dv_nil))) (@dss_consG _ _ _ _ _ _ (@ds_mid _ _ _ _ (@ds_for _ _ _ _ _ _ (@ps_for _ _ _ _ _ _ _ _ PassesOwn.never rfl (di_list (pd_ixv (pv 0) pd_int (fun _ _ => rfl))) (dg_t3 (pg_tup (n := 3) rfl (pgs_cons (pg_name (i := 11) sc_costs.nd rfl (Or.inr rfl)) (pgs_cons (pg_name (i := 12) sc_costs.nd rfl (Or.inl rfl)) (pgs_cons (pg_name (i := 13) sc_costs.nd rfl (Or.inr rfl)) pgs_nil))))) (@dss_one _ _ _ _ (@ds_if _ _ _ _ _ _ _ _ _ (pdt_cmp (op_eqD (units_of hr)) ok_eq (pd_var (pv 12)) (pd_var (pv 9)) (nomark _)) (@dss_one _ _ _ _ (@ds_own _ _ _ _ _ (@ps_set _ _ 10 _ _ _ _ sc_costs.nd rfl (Or.inl rfl) (@pf_cat _ _ _ _ _ _ _ (pd_var (pv 10)) (@pd_f _ _ _ _ (@pf_compF _ _ _ _ _ _ _ _ (@pe_comp _ _ _ _ _ _ _ _ _ _ _ _ _ _ _ (CompSc.old (N := ["_law_land_here", "_law_store", "_law_prices_here", "_law_goal", "_law_settled", "_law_waiting", "_law_level", "_law_cost", "_law_spot", "_law_place", "_law_ahead", "_law_start", "_law_end", "_law_change_here", "_law_x", "_law_more"]) (osc := defScope s_costs) (j := 14) (by decide +kernel)) rfl (di_rng1 (pi_range1 rfl T.n_range (dv_cons (pd_op op_add ok_add (pd_var (pv 1)) pd_int) dv_nil se_BinOp))) (fun _ => (pts_one (pdt_cmp (op_eqD (units_of hr)) ok_eq (pd_call (pe_call G_step (hr.mono (by decide)) rfl T.mg_step T.kp_step b_step .nil pass0 (da_v (pd_var (pv 1)) (da_v (pd_var (pv 14)) (da_v (pd_var (pv 13)) da_nil se_Name) se_Name) se_Name) (he := se_Name) (hpl := (np_cons se_Name (np_cons se_Name np_nil))))) (pd_var (pv 6)) (nomark _)))) (fun _ => (pd_tup (dv_cons (pd_var (pv 11)) (dv_cons (pd_var (pv 14)) (dv_cons (pd_var (pv 7)) dv_nil se_Name) se_Name) se_Name))) (by rfl) (by rfl) (by intro _; rfl))))) (by rfl) (by first | exact .inl rfl | exact .inr rfl | assumption)))) dss_nil)) (by intro _; rfl)))) (@dss_consG _ _ _ _ _ _ (@ds_mid _ _ _ _ (@ds_if _ _ _ _ _ _ _ _ _ (PW.pt (pwd_and (pdt_cmp op_notN ok_notN (pd_ixv (pv 2) (pd_var (pv 9)) (fun _ _ => rfl)) pd_non (nomark _)) (pwd_and1 (pdt_cmp op_gt ok_gt (pd_var (pv 6)) pd_int (nomark _))))) (dss_one (ds_appB (ps_expr (pe_bm PySem.F.plainAttrs_list PySem.F.slot_list_append PySem.F.type_list_append mt_append (pv 10) (pa_cons (pd_tup (dv_cons (pd_var (pv 9)) (dv_cons (pd_op op_sub ok_sub (pd_var (pv 6)) pd_int) (dv_cons (pd_op op_add ok_add (pd_var (pv 7)) (pd_ixv (pv 2) (pd_var (pv 9)) (fun _ _ => rfl))) dv_nil se_BinOp) se_BinOp) se_Name)) pa_nil se_Tuple))))) dss_nil)) (@dss_one _ _ _ _ (@ds_for _ _ _ _ _ _ (@ps_for _ _ _ _ _ _ _ _ PassesOwn.never rfl (di_var (pv 10)) (dg_t3 (pg_tup (n := 3) rfl (pgs_cons (pg_name (i := 11) sc_costs.nd rfl (Or.inr rfl)) (pgs_cons (pg_name (i := 14) sc_costs.nd rfl (Or.inl rfl)) (pgs_cons (pg_name (i := 15) sc_costs.nd rfl (Or.inl rfl)) pgs_nil))))) (@dss_one _ _ _ _ (@ds_if _ _ _ _ _ _ _ _ _ (PW.pt (@pwd_and _ _ _ _ _ _ _ _ (pdt_mnin (u1 (units_of hr)) (pd_tup (dv_cons (pd_var (pv 11)) (dv_cons (pd_var (pv 14)) dv_nil se_Name) se_Name)) (pv 4) (by with_unfolding_all rfl)) (pwd_and1 (pdt_cmp op_lt ok_lt (pd_var (pv 15)) (pd_mget2 (pe_dget2 (u1 (units_of hr)) (pv 5) (pd_tup (dv_cons (pd_var (pv 11)) (dv_cons (pd_var (pv 14)) dv_nil se_Name) se_Name)) (pd_op op_add ok_add (pd_var (pv 15)) pd_int) ⟨rfl, rfl, rfl, rfl⟩)) (nomark _))))) (dss_one (ds_mput (ps_dput (u1 (units_of hr)) (pv 5) (pd_tup (dv_cons (pd_var (pv 11)) (dv_cons (pd_var (pv 14)) dv_nil se_Name) se_Name)) (pd_var (pv 15)) (by rfl)))) dss_nil)) (by intro _; rfl)))))))))))))) (@dss_one _ _ _ _ (@ds_ret _ _ _ _ _ (@pd_f _ _ _ _ (@pf_forget _ _ _ 14 _ (@pf_compF _ _ _ _ _ _ _ _ (@pe_compC _ _ _ _ _ _ _ _ _ _ _ _ _ _ _ (CompScC.old (N := ["_law_land_here", "_law_store", "_law_prices_here", "_law_goal", "_law_settled", "_law_waiting", "_law_level", "_law_cost", "_law_spot", "_law_place", "_law_ahead", "_law_start", "_law_end", "_law_change_here", "_law_x", "_law_more"]) (osc := defScope s_costs) (j := 9) (by decide +kernel) (fun _ _ => rfl)) rfl (di_rng1 (pi_range1 rfl T.n_range (dv_cons (pd_ixv (pv 0) pd_int (fun _ _ => rfl)) dv_nil se_Subscript))) (fun _ => dts_nil) (fun _ => (@pd_f _ _ _ _ (@pf_compF _ _ _ _ _ _ _ _ (@pe_comp _ _ _ _ _ _ _ _ _ _ _ _ _ _ _ (CompSc.old (N := ["_law_land_here", "_law_store", "_law_prices_here", "_law_goal", "_law_settled", "_law_waiting", "_law_level", "_law_cost", "_law_spot", "_law_place", "_law_ahead", "_law_start", "_law_end", "_law_change_here", "_law_x", "_law_more"]) (osc := { kind := .function, names := [(".0", .local), ("_law_place", .cell), ("range", .globalImplicit), ("_law_settled", .cell), ("_law_store", .cell)], isGenerator := false, isCoroutine := false }) (j := 14) (by decide +kernel)) rfl (di_rng1 (pi_range1 rfl T.n_range (dv_cons (pd_op op_add ok_add (pd_var (pv 1)) pd_int) dv_nil se_BinOp))) (fun _ => dts_nil) (fun _ => (pd_mget1 (pe_dget1 (u1 (units_of hr)) (pv 4) (pd_tup (dv_cons (pd_var (pv 9)) (dv_cons (pd_var (pv 14)) dv_nil se_Name) se_Name)) ⟨rfl, rfl, rfl, rfl⟩))) (by rfl) (by rfl) (by intro _; rfl))))) (by rfl) (by rfl) (by intro _; rfl))))))))))), fun ds Q hl h => ?_⟩)
 obtain ⟨m, n, PP, ws, pr, g, rfl, mk, box, prl, q⟩ := h
 have n1 := mk.n1
 have n2 := mk.n2
 have m2 := mk.m2
 have g1 := mk.g1
 have g2 := mk.g2
 have r0 : ∀ k : Nat, rngD 0 k = (List.range k).map fun i => PyData.int ((i : Nat) : Int) := fun k => by
  unfold rngD
  exact List.map_congr_left fun i _ => by rw [Int.zero_add]
 have few : ∀ {S W : Spt → Option Int} {O : Mv → Prop} {L : List (Spt × Int)}, Dij m n ((mvAll n ws pr).map fun x => x.2) g S W O → (L.map (·.1)).Nodup → (∀ s x, lkJ L s = some x → S s = some x ∨ W s = some x) → L.length ≤ m * n := fun {S W O L} D nd h => by
  have := box_spt nd (m := m) (n := n) fun s hs => by
   obtain ⟨p, hp, rfl⟩ := List.mem_map.mp hs
   exact D.box _ _ (h _ _ (lkJ_of nd hp))
  rw [List.length_map] at this
  exact this
 decreasing_tactic
 refine go ?_
 decreasing_tactic
 refine go ?_
 (try unfold dSeqG); (try unfold dMid)
 refine ⟨fun ρ' => ∃ (L : List (Spt × Int)) (z6 : Sl), (L.map (·.1)).Nodup ∧ Dij m n ((mvAll n ws pr).map fun x => x.2) g (fun _ => none) (lkJ L) (fun _ => False) ∧ ρ' = [Sl.sh (landD m ws), Sl.sh (.int (((n : Nat) : Int) - 1)), Sl.sh (.list (tabL pr)), Sl.sh (sptD g), Sl.dm false [], Sl.dm false (kvJ L), z6, .no, .no, .no, .no, .no, .no, .no, .no, .no], ?_, ?_⟩
 ·unfold sptD
  array_get_dec
  refine ⟨⟨by omega, by omega, by omega, by omega⟩, fun r ρ => ∃ (k : Nat) (L : List (Spt × Int)) (z6 : Sl), r = (rngD ((g.2 : Nat) : Int) (n - g.2)).drop k ∧ k ≤ n - g.2 ∧ (L.map (·.1)).Nodup ∧ L.length = k ∧ (lkJ L = fun s => if s.1 = g.1 ∧ g.2 ≤ s.2 ∧ s.2 < g.2 + k then some 0 else none) ∧ ρ = [Sl.sh (landD m ws), Sl.sh (.int (((n : Nat) : Int) - 1)), Sl.sh (.list (tabL pr)), Sl.sh (.tuple [.int ((g.1 : Nat) : Int), .int ((g.2 : Nat) : Int)]), Sl.dm false [], Sl.dm false (kvJ L), z6, .no, .no, .no, .no, .no, .no, .no, .no, .no], ⟨0, [], _, ?_, Nat.zero_le _, by simp, rfl, ?_, rfl⟩, ?_, ?_⟩
  ·rw [show (((n : Nat) : Int) - 1 + 1 - ((g.2 : Nat) : Int)).toNat = n - g.2 by omega]; rfl
  ·funext s
   rw [if_neg (by omega)]; rfl
  ·rintro x r ρ ⟨k, L, z6, h1, hk, nd, hl2, hL, rfl⟩
   obtain ⟨e0, rfl, hk'⟩ := rng_cons' h1
   rw [show ((g.2 : Nat) : Int) + ((k : Nat) : Int) = ((g.2 + k : Nat) : Int) by omega] at e0
   subst e0
   sizeOf_list_dec
   have hp : putM (kvJ L) [((g.1 : Nat) : Int), ((g.2 + k : Nat) : Int)] 0 = kvJ (putJ L (g.1, g.2 + k) 0) := put_kv (g.1, g.2 + k) 0 L
   refine ⟨by decide, by unfold kvJ; rw [List.length_map]; omega, k + 1, putJ L (g.1, g.2 + k) 0, _, rfl, by omega, nd_put nd, ?_, ?_, by rw [← hp]⟩
   ·rw [len_put (by rw [hL]; exact if_neg (fun z => by have := z.2.2; show False; dsimp only at this; omega)), hl2]
   ·rw [lk_put, hL]
    funext s
    unfold setJ
    by_cases c : s = (g.1, g.2 + k)
    ·subst c
     rw [if_pos rfl, if_pos ⟨rfl, by show g.2 ≤ g.2 + k; omega, by show g.2 + k < g.2 + (k + 1); omega⟩]
    ·rw [if_neg c]
     dsimp only
     by_cases c2 : s.1 = g.1 ∧ g.2 ≤ s.2 ∧ s.2 < g.2 + k
     ·rw [if_pos c2, if_pos ⟨c2.1, c2.2.1, by have := c2.2.2; omega⟩]
     ·rw [if_neg c2, if_neg (fun z => c2 ⟨z.1, z.2.1, by
       have h3 := z.2.2
       by_cases e : s.2 = g.2 + k
       ·exact absurd (show s = (g.1, g.2 + k) from Prod.ext z.1 e) c
       ·omega⟩)]
  ·rintro ρ ⟨k, L, z6, h1, hk, nd, hl2, hL, rfl⟩
   have := rng_nil' h1
   refine ⟨L, z6, nd, ?_, rfl⟩
   rw [hL, show g.2 + k = n by omega]
   exact dij_start g1
 rintro ρ ⟨L0, z6, nd0, D0, rfl⟩
 try dsimp only
 refine go ?_
 (try unfold dSeqG); (try unfold dMid)
 refine ⟨fun ρ' => ∃ (S : List (Spt × Int)) (z5 z6 z7 z8 z9 z10 z11 z12 z13 z14 z15 : Sl), Best m n ((mvAll n ws pr).map fun x => x.2) g (tabJ m n (lkJ S)) ∧ ρ' = [Sl.sh (landD m ws), Sl.sh (.int (((n : Nat) : Int) - 1)), Sl.sh (.list (tabL pr)), Sl.sh (sptD g), Sl.dm false (kvJ S), z5, z6, z7, z8, z9, z10, z11, z12, z13, z14, z15], ?_, ?_⟩
 ·unfold dWhile
  refine ⟨fun μ ρ => ∃ (S W : List (Spt × Int)) (z6 z7 z8 z9 z10 z11 z12 z13 z14 z15 : Sl), (S.map (·.1)).Nodup ∧ (W.map (·.1)).Nodup ∧ Dij m n ((mvAll n ws pr).map fun x => x.2) g (lkJ S) (lkJ W) (fun _ => False) ∧ μ + S.length = m * n ∧ ρ = [Sl.sh (landD m ws), Sl.sh (.int (((n : Nat) : Int) - 1)), Sl.sh (.list (tabL pr)), Sl.sh (sptD g), Sl.dm false (kvJ S), Sl.dm false (kvJ W), z6, z7, z8, z9, z10, z11, z12, z13, z14, z15], ⟨m * n, [], L0, _, _, _, _, _, _, _, _, _, _, by simp, nd0, D0, rfl, rfl⟩, ?_⟩
  rintro μ ρ ⟨S, W, z6, z7, z8, z9, z10, z11, z12, z13, z14, z15, ndS, ndW, D, hμ, rfl⟩
  cases W with
  | nil =>
   decreasing_tactic
   exact iteF ⟨S, _, _, _, _, _, _, _, _, _, _, _, D.best (fun _ => rfl) g1 (fun v hv => ⟨(mk.inn hv).1, (mk.inn hv).2.1⟩), rfl⟩
  | cons p0 W =>
   have fewW := few D ndW fun s x h => .inr h
   have fewS := few D ndS fun s x h => .inl h
   decreasing_tactic
   refine iteT ?_
   sizeOf_list_dec
   refine ⟨⟨keys_kv ndW, by unfold kvJ; rw [List.length_map]; omega, rfl⟩, kvJ (p0 :: W), rfl, fun p hp => ?_, (fun z => nomatch z), fun p hp hmin => ?_⟩
   ·obtain ⟨p', _, rfl⟩ := List.mem_map.mp hp
    rfl
   ·obtain ⟨⟨s, c⟩, hsc, rfl⟩ := List.mem_map.mp hp
    have hW : lkJ (p0 :: W) s = some c := lkJ_of ndW hsc
    have hm : ∀ b y, lkJ (p0 :: W) b = some y → c ≤ y := fun b y h => hmin (sptK b, y) (List.mem_map.mpr ⟨(b, y), lkJ_mem h, rfl⟩)
    have D1 := D.settle1 hW hm
    unfold itemM keyT sptK
    try dsimp only [List.map_cons, List.map_nil]
    refine go ?_
    decreasing_tactic
    have e1 : lkM (kvJ (p0 :: W)) [((s.1 : Nat) : Int), ((s.2 : Nat) : Int)] = some c := (lk_kv s _).trans hW
    have e2 : delM (kvJ (p0 :: W)) [((s.1 : Nat) : Int), ((s.2 : Nat) : Int)] = kvJ (delJ (p0 :: W) s) := del_kv s _
    have e3 : putM (kvJ S) [((s.1 : Nat) : Int), ((s.2 : Nat) : Int)] c = kvJ (putJ S s c) := put_kv s c S
    have hS : lkJ S s = none := by
     cases e : lkJ S s with
     | none => rfl
     | some x => have := D.dis s x e; rw [hW] at this; cases this
    have lS := len_put (c := c) hS
    have nS := nd_put (s := s) (c := c) ndS
    have nW := nd_del (s := s) ndW
    rw [← lk_put, ← lk_del] at D1
    obtain ⟨S', hS'⟩ : ∃ S', putJ S s c = S' := ⟨_, rfl⟩
    obtain ⟨W', hW'⟩ : ∃ W', delJ (p0 :: W) s = W' := ⟨_, rfl⟩
    rw [hS'] at D1 lS nS e3
    rw [hW'] at D1 nW e2
    refine ⟨by rw [e1]; rfl, go ?_⟩
    rw [e2]
    decreasing_tactic
    refine ⟨by unfold kvJ; rw [List.length_map]; omega, go ?_⟩
    rw [e3]
    decreasing_tactic
    refine go ?_
    decreasing_tactic
    refine ⟨by decide, go ?_⟩
    (try unfold dSeqG); (try unfold dMid)
    refine ⟨fun ρ' => ∃ (A : List (Spt × Int)) (z11 z12 z13 z14 : Sl), Ahd n ((mvAll n ws pr).map fun x => x.2) s c ws A ∧ ρ' = [Sl.sh (landD m ws), Sl.sh (.int (((n : Nat) : Int) - 1)), Sl.sh (.list (tabL pr)), Sl.sh (sptD g), Sl.dm false (kvJ S'), Sl.dm false (kvJ W'), Sl.sh (.int ((s.2 : Nat) : Int)), Sl.sh (.int c), Sl.sh (sptD s), Sl.sh (.int ((s.1 : Nat) : Int)), Sl.ow (A.map aD), z11, z12, z13, z14, z15], ?_, ?_⟩
    ·unfold landD
     array_get_dec
     refine ⟨fun r ρ => ∃ (dw R : List Wy) (A : List (Spt × Int)) (z11 z12 z13 z14 : Sl), ws = dw ++ R ∧ r = R.map wayD ∧ Ahd n ((mvAll n ws pr).map fun x => x.2) s c dw A ∧ ρ = [Sl.sh (.tuple [.int ((m : Nat) : Int), .list (ws.map wayD)]), Sl.sh (.int (((n : Nat) : Int) - 1)), Sl.sh (.list (tabL pr)), Sl.sh (sptD g), Sl.dm false (kvJ S'), Sl.dm false (kvJ W'), Sl.sh (.int ((s.2 : Nat) : Int)), Sl.sh (.int c), Sl.sh (sptD s), Sl.sh (.int ((s.1 : Nat) : Int)), Sl.ow (A.map aD), z11, z12, z13, z14, z15], ⟨[], ws, [], _, _, _, _, rfl, rfl, ⟨fun w h => (nomatch h), fun p h => (nomatch h), Nat.zero_le _⟩, rfl⟩, ?_, ?_⟩
     ·rintro x r ρ ⟨dw, R, A, z11, z12, z13, z14, hws, h2, hA, rfl⟩
      cases R with
      | nil => cases h2
      | cons w R =>
       cases (show x :: r = wayD w :: R.map wayD from h2)
       have hw : w ∈ ws := by rw [hws]; exact List.mem_append_right _ List.mem_cons_self
       have hW2 : ws = (dw ++ [w]) ++ R := by rw [hws, List.append_assoc]; rfl
       have M := mvs_all n ws pr
       have lA := hA.len
       have ld : dw.length ≤ ws.length := by rw [hws, List.length_append]; omega
       have w2 := mk.w2
       unfold wayD
       sizeOf_list_dec
       refine ⟨rfl, rfl, min0 _ _, ?_⟩
       rw [eqv_int]
       by_cases c1 : w.2.1 = s.1
       ·rw [show (((w.2.1 : Nat) : Int) == ((s.1 : Nat) : Int)) = true by rw [c1]; exact beq_self_eq_true _]
        refine iteT ?_
        unfold dCompF dCompS
        array_mem_dec
        refine ⟨⟨by omega, by omega⟩, ⟨rfl, rfl, by unfold rngD; rw [List.length_map, List.length_range]; omega⟩, ?_⟩
        rw [show (((n : Nat) : Int) - 1 + 1).toNat = n by omega, r0 n]
        refine compFS (p := fun l => decide (stepF (((n : Nat) : Int) - 1) ((l : Nat) : Int) w.2.2 = some ((s.2 : Nat) : Int))) (f := fun l => aD ((w.1, l), c)) (fun l hl' Q' q' => ?_) (fun l hl' hb Q' q' => ?_) ?_
        ·decreasing_tactic
         refine ⟨_, some ((l : Nat) : Int), w.2.2, rfl, ?_⟩
         show (oD (stepF (((n : Nat) : Int) - 1) ((l : Nat) : Int) w.2.2)).canLay0 = true ∧ _
         cases e : stepF (((n : Nat) : Int) - 1) ((l : Nat) : Int) w.2.2 with
         | none =>
          rw [e] at q'
          refine ⟨rfl, rfl, Nat.le_trans (Nat.min_le_right _ _) (by show 0 ≤ 64; decide), ?_⟩
          rw [show (some (((l : Nat) : Int))).bind (fun x => stepF (((n : Nat) : Int) - 1) x w.2.2) = none from e]
          rw [decide_eq_false (by intro z; cases z)] at q'
          exact q'
         | some y =>
          rw [e] at q'
          refine ⟨rfl, rfl, Nat.le_trans (Nat.min_le_right _ _) (by show 0 ≤ 64; decide), ?_⟩
          rw [show (some (((l : Nat) : Int))).bind (fun x => stepF (((n : Nat) : Int) - 1) x w.2.2) = some y from e]
          show Q' (PyData.eqv (.int y) (.int ((s.2 : Nat) : Int))) _
          rw [eqv_int, show (y == ((s.2 : Nat) : Int)) = decide (some y = some ((s.2 : Nat) : Int)) by
           by_cases z : y = ((s.2 : Nat) : Int)
           ·rw [z, beq_self_eq_true, decide_eq_true rfl]
           ·rw [beq_eq_false_iff_ne.mpr z, decide_eq_false (fun k => z (Option.some.inj k))]]
          exact q'
        ·decreasing_tactic
         exact ⟨by decide, q'⟩
        ·have lf := List.length_filter_le (fun l => decide (stepF (((n : Nat) : Int) - 1) ((l : Nat) : Int) w.2.2 = some ((s.2 : Nat) : Int))) (List.range n)
         rw [List.length_range] at lf
         refine ⟨by rw [List.nil_append, List.length_map, List.length_map]; omega, dw ++ [w], R, _, Sl.sh (.int ((w.1 : Nat) : Int)), Sl.sh (.int ((w.2.1 : Nat) : Int)), Sl.sh (.int w.2.2), .no, hW2, rfl, ahd_on M hw hA c1 n2, ?_⟩
         rw [List.nil_append, List.map_append, List.map_map]
         rfl
       ·rw [show (((w.2.1 : Nat) : Int) == ((s.1 : Nat) : Int)) = false from beq_eq_false_iff_ne.mpr (by omega)]
        exact iteF ⟨dw ++ [w], R, A, _, _, _, _, hW2, rfl, ahd_off hA c1, rfl⟩
     ·rintro ρ ⟨dw, R, A, z11, z12, z13, z14, hws, h2, hA, rfl⟩
      cases R with
      | cons w R => cases h2
      | nil =>
       rw [List.append_nil] at hws
       subst hws
       exact ⟨A, _, _, _, _, hA, rfl⟩
    rintro ρ ⟨A, z11, z12, z13, z14, hA, rfl⟩
    try dsimp only
    refine go ?_
    (try unfold dSeqG); (try unfold dMid)
    refine ⟨fun ρ' => ∃ (A : List (Spt × Int)) (z11 z12 z13 z14 : Sl), AhF ((mvAll n ws pr).map fun x => x.2) s c A ∧ A.length ≤ 9000 ∧ ρ' = [Sl.sh (landD m ws), Sl.sh (.int (((n : Nat) : Int) - 1)), Sl.sh (.list (tabL pr)), Sl.sh (sptD g), Sl.dm false (kvJ S'), Sl.dm false (kvJ W'), Sl.sh (.int ((s.2 : Nat) : Int)), Sl.sh (.int c), Sl.sh (sptD s), Sl.sh (.int ((s.1 : Nat) : Int)), Sl.ow (A.map aD), z11, z12, z13, z14, z15], ?_, ?_⟩
    ·have sb := D1.box s c (.inl D1.at_)
     have M := mvs_all n ws pr
     have w2 := mk.w2
     have lA := hA.len
     decreasing_tactic
     rw [tab_at (by rw [prl]; exact sb.1)]
     decreasing_tactic
     cases e : gt pr s.1 with
     | none => exact iteF ⟨A, _, _, _, _, ahd_none M hA (fun pc z => by rw [e] at z; cases z), by omega, rfl⟩
     | some pc =>
      refine iteT ?_
      by_cases c0 : 0 < s.2
      ·rw [decide_eq_true (show (0 : Int) < ((s.2 : Nat) : Int) by omega)]
       refine iteT ?_
       decreasing_tactic
       refine ⟨by decide, by rw [List.length_map]; omega, A ++ [((s.1, s.2 - 1), c + pc)], z11, z12, z13, z14, ahd_some M hA e c0 sb.2, by rw [List.length_append]; simp; omega, ?_⟩
       rw [List.map_append, List.map_singleton]
       unfold aD
       rw [show ((((s.1, s.2 - 1), c + pc) : Spt × Int).1.2 : Int) = ((s.2 : Nat) : Int) - 1 from by show ((s.2 - 1 : Nat) : Int) = _; omega]
      ·rw [decide_eq_false (show ¬ (0 : Int) < ((s.2 : Nat) : Int) by omega)]
       exact iteF ⟨A, _, _, _, _, ahd_none M hA (fun pc z => by omega), by omega, rfl⟩
    rintro ρ ⟨A2, y11, y12, y13, y14, hA2, lA2, rfl⟩
    try dsimp only
    refine go ?_
    array_get_dec
    refine ⟨fun r ρ => ∃ (dn R Wk : List (Spt × Int)) (y11 y14 y15 : Sl), A2 = dn ++ R ∧ r = R.map aD ∧ (Wk.map (·.1)).Nodup ∧ Dij1 m n ((mvAll n ws pr).map fun x => x.2) g (lkJ S') (lkJ Wk) s c (fun v => v.2.1 = s ∧ (v.1, c + v.2.2) ∉ dn) ∧ ρ = [Sl.sh (landD m ws), Sl.sh (.int (((n : Nat) : Int) - 1)), Sl.sh (.list (tabL pr)), Sl.sh (sptD g), Sl.dm false (kvJ S'), Sl.dm false (kvJ Wk), Sl.sh (.int ((s.2 : Nat) : Int)), Sl.sh (.int c), Sl.sh (sptD s), Sl.sh (.int ((s.1 : Nat) : Int)), Sl.sh (.list (A2.map aD)), y11, y12, y13, y14, y15], ⟨[], A2, W', _, _, _, rfl, rfl, nW, { D1 with mov := fun w hw ho => D1.mov w hw fun z => ho ⟨z, fun k => nomatch k⟩ }, rfl⟩, ?_, ?_⟩
    ·rintro x r ρ ⟨dn, R, Wk, y11, y14, y15, hAR, h2, ndk, Dk, rfl⟩
     cases R with
     | nil => cases h2
     | cons p R =>
      cases (show x :: r = aD p :: R.map aD from h2)
      have hpA : p ∈ A2 := by rw [hAR]; exact List.mem_append_right _ List.mem_cons_self
      obtain ⟨v, hv, v1, v2, v3⟩ := hA2.only p hpA
      have hin := mk.inn hv
      have J := Dk.look hv v1 hin.2.2.2.2.1 ⟨hin.1, hin.2.1⟩ (O' := fun w => w.2.1 = s ∧ (w.1, c + w.2.2) ∉ dn ++ [p]) fun w hw ho => ah_more v2 v3 ho
      rw [v2, ← v3] at J
      have fewk := few Dk.toDij ndk fun s x h => .inr h
      have kS : lkM (kvJ S') [((p.1.1 : Nat) : Int), ((p.1.2 : Nat) : Int)] = lkJ S' p.1 := lk_kv p.1 S'
      have kW : lkM (kvJ Wk) [((p.1.1 : Nat) : Int), ((p.1.2 : Nat) : Int)] = lkJ Wk p.1 := lk_kv p.1 Wk
      have kP : putM (kvJ Wk) [((p.1.1 : Nat) : Int), ((p.1.2 : Nat) : Int)] p.2 = kvJ (putJ Wk p.1 p.2) := put_kv p.1 p.2 Wk
      have hAR' : A2 = (dn ++ [p]) ++ R := by rw [hAR, List.append_assoc]; rfl
      unfold aD
      sizeOf_list_dec
      refine ⟨by decide, ?_⟩
      rw [kS, kW, kP]
      cases eS : lkJ S' p.1 with
      | some x =>
       have nx : nxtW (lkJ S') (lkJ Wk) p.1 p.2 = lkJ Wk := if_neg (fun z => by rw [eS] at z; cases z.1)
       rw [nx] at J
       exact iteF ⟨dn ++ [p], R, Wk, _, _, _, hAR', rfl, ndk, J, rfl⟩
      | none =>
       refine iteT ⟨by decide, ?_⟩
       by_cases cc : p.2 < (lkJ Wk p.1).getD (p.2 + 1)
       ·rw [decide_eq_true cc]
        have nx : nxtW (lkJ S') (lkJ Wk) p.1 p.2 = setJ (lkJ Wk) p.1 (some p.2) := if_pos ⟨eS, fun y e => by rw [e] at cc; exact cc⟩
        rw [nx, ← lk_put] at J
        exact iteT ⟨by decide, by unfold kvJ; rw [List.length_map]; omega, dn ++ [p], R, putJ Wk p.1 p.2, _, _, _, hAR', rfl, nd_put ndk, J, rfl⟩
       ·rw [decide_eq_false cc]
        have nx : nxtW (lkJ S') (lkJ Wk) p.1 p.2 = lkJ Wk := if_neg (fun z => cc (by
         cases e : lkJ Wk p.1 with
         | none => show p.2 < p.2 + 1; omega
         | some y => exact z.2 y e))
        rw [nx] at J
        exact iteF ⟨dn ++ [p], R, Wk, _, _, _, hAR', rfl, ndk, J, rfl⟩
    ·rintro ρ ⟨dn, R, Wk, y11, y14, y15, hAR, h2, ndk, Dk, rfl⟩
     cases R with
     | cons p R => cases h2
     | nil =>
      rw [List.append_nil] at hAR
      subst hAR
      have fS' := few Dk.toDij nS fun s x h => .inl h
      exact ⟨μ - 1, by omega, S', Wk, _, _, _, _, _, _, _, _, _, _, nS, ndk, { Dk.toDij with mov := fun w hw _ => Dk.mov w hw fun z => z.2 (hA2.has w hw z.1) }, by omega, rfl⟩
 rintro ρ ⟨S, z5, z6, z7, z8, z9, z10, z11, z12, z13, z14, z15, hB, rfl⟩
 try dsimp only
 refine go ?_
 unfold landD
 decreasing_tactic
 unfold dCompF dCompS
 decreasing_tactic
 refine ⟨⟨by omega, by omega⟩, ⟨rfl, rfl, by unfold rngD; rw [List.length_map, List.length_range]; omega⟩, ?_⟩
 rw [show ((m : Nat) : Int).toNat = m by simp, r0 m]
 refine compMS (f := fun p => .list ((List.range n).map fun l => oD (lkJ S (p, l)))) (fun p hp Q' q' => ?_) ?_
 ·have hp' := List.mem_range.mp hp
  array_mem_dec
  refine ⟨⟨by omega, by omega⟩, ⟨rfl, rfl, by unfold rngD; rw [List.length_map, List.length_range]; omega⟩, ?_⟩
  rw [show (((n : Nat) : Int) - 1 + 1).toNat = n by omega, r0 n]
  refine compMS (f := fun l => oD (lkJ S (p, l))) (fun l hl' Q2 q2 => ?_) ?_
  ·decreasing_tactic
   refine ⟨by decide, ?_⟩
   rw [show lkM (kvJ S) [((p : Nat) : Int), ((l : Nat) : Int)] = lkJ S (p, l) from lk_kv (p, l) S]
   cases e : lkJ S (p, l) with
   | none => rw [e] at q2; exact q2
   | some x => rw [e] at q2; exact q2
  ·rw [List.nil_append]
   exact q'
 ·rw [List.nil_append]
  have e : (List.range m).map (fun p => PyData.list ((List.range n).map fun l => oD (lkJ S (p, l)))) = lls (rowsC (tabJ m n (lkJ S))) := by
   unfold lls rowsC tabJ tabL
   rw [List.map_map, List.map_map]
   refine List.map_congr_left fun p _ => ?_
   show PyData.list _ = PyData.list (((List.range n).map fun l => lkJ S (p, l)).map oD)
   rw [List.map_map]; rfl
  rw [e]
  exact q _ hB
end
def hadD (a : Had) : PyData := .tuple [.int ((a.1.1 : Nat) : Int), .int ((a.1.2 : Nat) : Int), .int a.2]
theorem gt_lt {pr : List (Option Int)} {p : Nat} {d : Int} (h : gt pr p = some d) : p < pr.length := by
 rcases Nat.lt_or_ge p pr.length with c | c
 ·exact c
 ·rw [gt_out c] at h; cases h
theorem ways_at {ws : List Wy} {k : Nat} {w : Wy} (h : ws[k]? = some w) : atI (ws.map wayD) ((k : Nat) : Int) = some (wayD w) := atI_nat (by rw [List.getElem?_map, h]; rfl)
theorem eqWW : PyData.eqv (.str "way") (.str "way") = true := by rw [PyData.eqv]; decide +kernel
theorem eqBW : PyData.eqv (.str "buy") (.str "way") = false := by rw [PyData.eqv]; decide +kernel
theorem flat_pst : ∀ ss : List Pst, flatL (ss.map pstD) = true
 | [] => rfl
 | (false, k) :: ss => by
  show (flatD (pstD (false, k)) && flatL (ss.map pstD)) = true
  rw [flat_pst ss]; rfl
 | (true, k) :: ss => by
  show (flatD (pstD (true, k)) && flatL (ss.map pstD)) = true
  rw [flat_pst ss]; rfl
theorem enum_pst {ss : List Pst} : enumD (ss.map pstD) = ss.zipIdx.map fun p => .tuple [.int ((p.2 : Nat) : Int), pstD p.1] := by
 unfold enumD
 rw [List.zipIdx_map, List.map_map]
 rfl
def spWh : DSp := fun ds Q => ∃ x : Int, ds = [.int x] ∧ Q (.bool true)
def spPlI : DSp := fun ds Q => ∃ n k : Nat, ds = [.int ((n : Nat) : Int), .int ((k : Nat) : Int)] ∧ k < n ∧ Q (.bool true)
def spBwD : DSp := fun ds Q => ∃ (m n : Nat) (ws : List Wy) (pr : List (Option Int)) (a b : Had) (k : Nat), ds = [landD m ws, .int (((n : Nat) : Int) - 1), hadD a, .int ((k : Nat) : Int)] ∧ 1 ≤ n ∧ One n ws pr a (false, k) b ∧ Q (hadD b)
def spBbD : DSp := fun ds Q => ∃ (n : Nat) (ws : List Wy) (pr : List (Option Int)) (a b : Had) (k : Nat), ds = [.int (((n : Nat) : Int) - 1), .list (tabL pr), hadD a, .int ((k : Nat) : Int)] ∧ n ≤ 100 ∧ One n ws pr a (true, k) b ∧ Q (hadD b)
def spBsD : DSp := fun ds Q => ∃ (m n : Nat) (ws : List Wy) (pr : List (Option Int)) (a b : Had) (s : Pst), ds = [landD m ws, .int (((n : Nat) : Int) - 1), .list (tabL pr), hadD a, pstD s] ∧ 1 ≤ n ∧ n ≤ 100 ∧ One n ws pr a s b ∧ Q (hadD b)
def spPaidP : DSp := fun ds Q => ∃ (m n : Nat) (ws : List Wy) (pr : List (Option Int)) (b : Spt) (ss : List Pst) (e : Had), ds = [landD m ws, .int (((n : Nat) : Int) - 1), .list (tabL pr), sptD b, .list (ss.map pstD)] ∧ 1 ≤ n ∧ n ≤ 100 ∧ Run n ws pr ss (b, 0) e ∧ ss.length ≤ 900 ∧ Q (hadD e)
def spIsPl : DSp := fun ds Q => ∃ ss : List Pst, ds = [.list (ss.map pstD)] ∧ ss.length ≤ 900 ∧ Q (.bool true)
section
variable {P : Program} {w : World} {K : PySem.W.Frag} {mg : Str → Option Value} {base : Heap}
theorem ok_is_whole (T : Txt K mg) : FnOk P w K mg base CX0 1 T.a_is_whole T.d_is_whole ["thing"] (spD [.sh] spWh) := by
 refine fn_d T.F_is_whole sc_is_whole rfl (fun C cdv A outer s H E hr => ⟨_, (@dss_one _ _ _ _ (@ds_ret _ _ _ _ _ (@pd_and _ _ _ _ _ _ _ _ (pd_isiv ty_int (pe_callB call_isinst2 rfl T.n_isinstance bt_isinstance (pa_cons (pv 0) (pa_cons (pe_bltn (v := V.ty "int") rfl T.n_int bt_int rfl) pa_nil se_Name) se_Name) (he := se_Name) (hpl := (np_cons se_Name np_nil)))) (pd_one (pd_not (pd_isiv ty_bool (pe_callB call_isinst2 rfl T.n_isinstance bt_isinstance (pa_cons (pv 0) (pa_cons (pe_bltn (v := V.ty "bool") rfl T.n_bool bt_bool rfl) pa_nil se_Name) se_Name) (he := se_Name) (hpl := (np_cons se_Name np_nil))))))))), fun ds Q hl h => ?_⟩)
 obtain ⟨x, rfl, q⟩ := h
 decreasing_tactic
 exact q
theorem ok_law_is_whole (T : Txt K mg) : FnOk P w K mg base CX0 1 T.a_law_is_whole T.d_law_is_whole ["_law_thing"] (spD [.sh] spWh) := by
 refine fn_d T.F_law_is_whole sc_law_is_whole rfl (fun C cdv A outer s H E hr => ⟨_, (@dss_one _ _ _ _ (@ds_ret _ _ _ _ _ (@pd_and _ _ _ _ _ _ _ _ (pd_isiv ty_int (pe_callB call_isinst2 rfl T.n_isinstance bt_isinstance (pa_cons (pv 0) (pa_cons (pe_bltn (v := V.ty "int") rfl T.n_int bt_int rfl) pa_nil se_Name) se_Name) (he := se_Name) (hpl := (np_cons se_Name np_nil)))) (pd_one (pd_not (pd_isiv ty_bool (pe_callB call_isinst2 rfl T.n_isinstance bt_isinstance (pa_cons (pv 0) (pa_cons (pe_bltn (v := V.ty "bool") rfl T.n_bool bt_bool rfl) pa_nil se_Name) se_Name) (he := se_Name) (hpl := (np_cons se_Name np_nil))))))))), fun ds Q hl h => ?_⟩)
 obtain ⟨x, rfl, q⟩ := h
 decreasing_tactic
 exact q
theorem ok_is_place (T : Txt K mg) : FnOk P w K mg base CX0 2 T.a_is_place T.d_is_place ["many", "thing"] (spD [.sh, .sh] spPlI) := by
 have G_is_whole := @ok_is_whole P w K mg base T
 have b_is_whole := bd_is_whole T
 refine fn_d T.F_is_place sc_is_place rfl (fun C cdv A outer s H E hr => ⟨_, (dss_one (ds_ret (pd_and (pd_call (pe_call G_is_whole (hr.mono (by decide)) rfl T.mg_is_whole T.kp_is_whole b_is_whole .nil pass0 (da_v (pd_var (pv 1)) da_nil se_Name) (he := se_Name) (hpl := np_nil))) (pd_one (pd_chain op_le op_lt pd_int (pd_var (pv 1)) (pd_var (pv 0))))))), fun ds Q hl h => ?_⟩)
 obtain ⟨n, k, rfl, hk, q⟩ := h
 decreasing_tactic
 refine ⟨_, rfl, ?_⟩
 decreasing_tactic
 rw [decide_eq_true (show (0 : Int) ≤ ((k : Nat) : Int) by omega)]
 decreasing_tactic
 rw [decide_eq_true (show ((k : Nat) : Int) < ((n : Nat) : Int) by omega)]
 exact q
theorem ok_behind_walking (T : Txt K mg) : FnOk P w K mg base CX0 3 T.a_behind_walking T.d_behind_walking ["land", "store", "had", "number"] (spD [.sh, .sh, .sh, .sh] spBwD) := by
 have G_is_place := @ok_is_place P w K mg base T
 have b_is_place := bd_is_place T
 have G_stepped := @ok_stepped P w K mg base T
 have b_stepped := bd_stepped T
 refine fn_d T.F_behind_walking sc_behind_walking rfl (fun C cdv A outer s H E hr => ⟨_, (@dss_consG _ _ _ _ _ _ (@ds_if _ _ _ _ _ _ _ _ _ (@pdt_not _ _ _ _ _ (@pdt_val _ _ _ _ (@pd_call _ _ _ _ _ _ _ (@pe_call _ _ _ _ _ _ _ _ _ _ _ _ _ _ _ _ G_is_place (hr.mono (by decide)) rfl T.mg_is_place T.kp_is_place b_is_place .nil pass0 (da_v (pd_cb cb_len (pe_callB call_len_seq rfl T.n_len bt_len (dv_cons (pd_ixv (pv 0) (pd_gi (pe_glob (v := V.int 1) rfl T.mg_WAYS ⟨_, rfl⟩)) (fun _ _ => rfl)) dv_nil se_Subscript) (he := se_Subscript) (hpl := np_nil))) (da_v (pd_var (pv 3)) da_nil se_Name) se_Call) (by decide) se_Call ((np_cons se_Name np_nil)))) (by intro _; rfl))) (dss_one (ds_ret pd_non)) dss_nil) (@dss_consG _ _ _ _ _ _ (ds_set (ps_set (i := 4) sc_behind_walking.nd rfl (Or.inl rfl) (pd_ix (pd_ixv (pv 0) (pd_gi (pe_glob (v := V.int 1) rfl T.mg_WAYS ⟨_, rfl⟩)) (fun _ _ => rfl)) (pd_var (pv 3)) (fun _ _ => rfl)))) (@dss_consG _ _ _ _ _ _ (@ds_set _ _ _ _ _ (@ps_set _ _ 5 _ _ _ _ sc_behind_walking.nd rfl (Or.inl rfl) (@pd_call _ _ _ _ _ _ _ (@pe_call _ _ _ _ _ _ _ _ _ _ _ _ _ _ _ _ G_stepped (hr.mono (by decide)) rfl T.mg_stepped T.kp_stepped b_stepped .nil pass0 (da_v (pd_var (pv 1)) (da_v (pd_ixv (pv 2) (pd_gi (pe_glob (v := V.int 1) rfl T.mg_LEVEL ⟨_, rfl⟩)) (fun _ _ => rfl)) (da_v (pd_ixv (pv 4) (pd_gi (pe_glob (v := V.int 2) rfl T.mg_CHANGE ⟨_, rfl⟩)) (fun _ _ => rfl)) da_nil se_Subscript) se_Subscript) se_Name) (by decide) se_Name ((np_cons se_Subscript (np_cons se_Subscript np_nil))))) (by rfl) (by first | exact .inl rfl | exact .inr rfl | assumption))) (@dss_consG _ _ _ _ _ _ (ds_if (PW.pt (pwd_or (pdt_cmp (op_neD (units_of hr)) ok_eq (pd_ixv (pv 4) (pd_gi (pe_glob (v := V.int 0) rfl T.mg_START ⟨_, rfl⟩)) (fun _ _ => rfl)) (pd_ixv (pv 2) (pd_gi (pe_glob (v := V.int 0) rfl T.mg_PLACE ⟨_, rfl⟩)) (fun _ _ => rfl)) (nomark _)) (pwd_or1 (pdt_cmp op_isN ok_isN (pd_var (pv 5)) pd_non (nomark _)))))
   (dss_one (ds_ret pd_non))
   dss_nil) (dss_one (ds_ret (pd_tup (dv_cons (pd_ixv (pv 4) (pd_gi (pe_glob (v := V.int 1) rfl T.mg_END ⟨_, rfl⟩)) (fun _ _ => rfl)) (dv_cons (pd_var (pv 5)) (dv_cons (pd_ixv (pv 2) (pd_gi (pe_glob (v := V.int 2) rfl T.mg_PAID ⟨_, rfl⟩)) (fun _ _ => rfl)) dv_nil se_Subscript) se_Name) se_Subscript)))))))), fun ds Q hl h => ?_⟩)
 obtain ⟨m, n, ws, pr, a, b, k, rfl, n1, ⟨w, y, hw, hp, hy, rfl⟩, q⟩ := h
 have hk : k < ws.length := by
  rcases Nat.lt_or_ge k ws.length with z | z
  ·exact z
  ·rw [List.getElem?_eq_none z] at hw; cases hw
 obtain ⟨y0, y1⟩ := step_bd (st := (n : Int) - 1) (by omega) hy
 obtain ⟨y, rfl⟩ : ∃ j : Nat, y = ((j : Nat) : Int) := ⟨y.toNat, by omega⟩
 unfold hadD at q ⊢
 decreasing_trivial
 refine ⟨ws.length, k, by rw [List.length_map], hk, ?_⟩
 decreasing_trivial
 rw [if_neg (by decide)]
 refine go ?_
 decreasing_trivial
 rw [ways_at hw]
 decreasing_trivial
 refine go ?_
 decreasing_trivial
 refine ⟨_, _, _, rfl, ?_⟩
 rw [hy]
 refine go ?_; decreasing_trivial
 refine ⟨rfl, rfl, min0 _ _, ?_⟩
 rw [eqv_int, hp, beq_self_eq_true]
 decreasing_trivial
 rw [if_neg (by decide)]
 refine go ?_; decreasing_trivial
 exact ⟨by decide, q⟩
theorem ok_behind_buying (T : Txt K mg) : FnOk P w K mg base CX0 1 T.a_behind_buying T.d_behind_buying ["store", "prices", "had", "many"] (spD [.sh, .sh, .sh, .sh] spBbD) := by
 refine fn_d T.F_behind_buying sc_behind_buying rfl (fun C cdv A outer s H E hr => ⟨_, (@dss_consG _ _ _ _ _ _ (ds_set (ps_set (i := 4) sc_behind_buying.nd rfl (Or.inl rfl) (pd_ixv (pv 1) (pd_ixv (pv 2) (pd_gi (pe_glob (v := V.int 0) rfl T.mg_PLACE ⟨_, rfl⟩)) (fun _ _ => rfl)) (fun _ _ => rfl)))) (@dss_consG _ _ _ _ _ _ (ds_if (PW.pt (pwd_or (pdt_cmp op_isN ok_isN (pd_var (pv 4)) pd_non (nomark _)) (pwd_or (pdt_cmp op_lt ok_lt (pd_var (pv 3)) pd_int (nomark _)) (pwd_or1 (pdt_cmp op_gt ok_gt (pd_op op_add ok_add (pd_ixv (pv 2) (pd_gi (pe_glob (v := V.int 1) rfl T.mg_LEVEL ⟨_, rfl⟩)) (fun _ _ => rfl)) (pd_var (pv 3))) (pd_var (pv 0)) (nomark _))))))
   (dss_one (ds_ret pd_non))
   dss_nil) (@dss_one _ _ _ _ (@ds_ret _ _ _ _ _ (@pd_tup _ _ _ _ _ _ (@dv_cons _ _ _ _ _ _ (pd_ixv (pv 2) (pd_gi (pe_glob (v := V.int 0) rfl T.mg_PLACE ⟨_, rfl⟩)) (fun _ _ => rfl)) (dv_cons (pd_op op_add ok_add (pd_ixv (pv 2) (pd_gi (pe_glob (v := V.int 1) rfl T.mg_LEVEL ⟨_, rfl⟩)) (fun _ _ => rfl)) (pd_var (pv 3))) (dv_cons (pd_op op_add ok_add (pd_ixv (pv 2) (pd_gi (pe_glob (v := V.int 2) rfl T.mg_PAID ⟨_, rfl⟩)) (fun _ _ => rfl)) (pd_op op_mul ok_mul (pd_var (pv 3)) (pd_var (pv 4)))) dv_nil se_BinOp) se_BinOp) se_Subscript)))))), fun ds Q hl h => ?_⟩)
 obtain ⟨n, ws, pr, a, b, k, rfl, n2, ⟨d, hp, h1, h2, rfl⟩, q⟩ := h
 unfold hadD at q ⊢
 decreasing_trivial
 rw [tab_at (gt_lt hp), hp]
 decreasing_trivial
 refine go ?_
 decreasing_trivial
 rw [decide_eq_false (show ¬ ((k : Nat) : Int) < 1 by omega)]
 decreasing_trivial
 rw [decide_eq_false (show ¬ ((n : Nat) : Int) - 1 < ((a.1.2 : Nat) : Int) + ((k : Nat) : Int) by omega)]
 refine iteF ?_
 refine go ?_; decreasing_trivial
 refine ⟨.inl ⟨by omega, by omega⟩, by decide, ?_⟩
 have q' : Q (.tuple [.int ((a.1.1 : Nat) : Int), .int (((a.1.2 + k : Nat) : Nat) : Int), .int (a.2 + ((k : Nat) : Int) * d)]) := q
 rw [show ((a.1.2 + k : Nat) : Int) = ((a.1.2 : Nat) : Int) + ((k : Nat) : Int) by omega] at q'
 exact q'
theorem ok_behind_step (T : Txt K mg) : FnOk P w K mg base CX0 4 T.a_behind_step T.d_behind_step ["land", "store", "prices", "had", "step"] (spD [.sh, .sh, .sh, .sh, .sh] spBsD) := by
 have G_behind_walking := @ok_behind_walking P w K mg base T
 have b_behind_walking := bd_behind_walking T
 have G_behind_buying := @ok_behind_buying P w K mg base T
 have b_behind_buying := bd_behind_buying T
 refine fn_d T.F_behind_step sc_behind_step rfl (fun C cdv A outer s H E hr => ⟨_, (@dss_cons _ _ _ _ _ _ (@ds_if _ _ _ _ _ _ _ _ _ (pdt_cmp (op_eqD (units_of hr)) ok_eq (pd_ixv (pv 4) pd_int (fun _ _ => rfl)) (pd_gs (pe_glob (v := V.str "way") rfl T.mg_WAY ⟨_, rfl⟩)) (nomark _)) (dss_one (ds_ret (pd_call (pe_call G_behind_walking (hr.mono (by decide)) rfl T.mg_behind_walking T.kp_behind_walking b_behind_walking .nil pass0 (da_v (pd_var (pv 0)) (da_v (pd_var (pv 1)) (da_v (pd_var (pv 3)) (da_v (pd_ixv (pv 4) pd_int (fun _ _ => rfl)) da_nil se_Subscript) se_Name) se_Name) se_Name) (he := se_Name) (hpl := (np_cons se_Name (np_cons se_Name (np_cons se_Subscript np_nil)))))))) dss_nil) (dss_one (ds_ret (pd_call (pe_call G_behind_buying (hr.mono (by decide)) rfl T.mg_behind_buying T.kp_behind_buying b_behind_buying .nil pass0 (da_v (pd_var (pv 1)) (da_v (pd_var (pv 2)) (da_v (pd_var (pv 3)) (da_v (pd_ixv (pv 4) pd_int (fun _ _ => rfl)) da_nil se_Subscript) se_Name) se_Name) se_Name) (he := se_Name) (hpl := (np_cons se_Name (np_cons se_Name (np_cons se_Subscript np_nil))))))))), fun ds Q hl h => ?_⟩)
 obtain ⟨m, n, ws, pr, a, b, s, rfl, n1, n2, ho, q⟩ := h
 obtain ⟨f, k⟩ := s
 cases f with
 | false =>
  rw [pstD_w]
  decreasing_tactic
  refine ⟨layW, layW, minS _ _, ?_⟩
  rw [eqWW]
  decreasing_tactic
  exact ⟨m, n, ws, pr, a, b, k, rfl, n1, ho, q⟩
 | true =>
  rw [pstD_b]
  decreasing_tactic
  refine ⟨layB, layW, minS _ _, ?_⟩
  rw [eqBW]
  decreasing_tactic
  exact ⟨n, ws, pr, a, b, k, rfl, n2, ho, q⟩
theorem ok_paid (T : Txt K mg) : FnOk P w K mg base CX0 5 T.a_paid T.d_paid ["land", "store", "prices", "begin", "plan"] (spD [.sh, .sh, .sh, .sh, .bd] spPaidP) := by
 have G_behind_step := @ok_behind_step P w K mg base T
 have b_behind_step := bd_behind_step T
 refine fn_d T.F_paid sc_paid rfl (fun C cdv A outer s H E hr => ⟨_, (@dss_consG _ _ _ _ _ _ (ds_set (ps_set (i := 5) sc_paid.nd rfl (Or.inl rfl) (pd_tup (dv_cons (pd_ixv (pv 3) (pd_gi (pe_glob (v := V.int 0) rfl T.mg_PLACE ⟨_, rfl⟩)) (fun _ _ => rfl)) (dv_cons (pd_ixv (pv 3) (pd_gi (pe_glob (v := V.int 1) rfl T.mg_LEVEL ⟨_, rfl⟩)) (fun _ _ => rfl)) (dv_cons pd_int dv_nil se_Constant) se_Subscript) se_Subscript)))) (@dss_consG _ _ _ _ _ _ (@ds_for _ _ _ _ _ _ (@ps_for _ _ _ _ _ _ _ _ PassesOwn.never rfl (di_enumL (pi_enum rfl T.n_enumerate (pa_cons (pl_var (pv 4)) pa_nil se_Name))) (dg_t2 (pg_tup (n := 2) rfl (pgs_cons (pg_name (i := 6) sc_paid.nd rfl (Or.inl rfl)) (pgs_cons (pg_name (i := 7) sc_paid.nd rfl (Or.inl rfl)) pgs_nil)))) (@dss_consG _ _ _ _ _ _ (@ds_set _ _ _ _ _ (@ps_set _ _ 5 _ _ _ _ sc_paid.nd rfl (Or.inl rfl) (pd_call (pe_call G_behind_step (hr.mono (by decide)) rfl T.mg_behind_step T.kp_behind_step b_behind_step .nil pass0 (da_v (pd_var (pv 0)) (da_v (pd_var (pv 1)) (da_v (pd_var (pv 2)) (da_v (pd_var (pv 5)) (da_v (pd_var (pv 7)) da_nil se_Name) se_Name) se_Name) se_Name) se_Name) (he := se_Name) (hpl := (np_cons se_Name (np_cons se_Name (np_cons se_Name (np_cons se_Name np_nil))))))) (by rfl) (by first | exact .inl rfl | exact .inr rfl | assumption))) (dss_one (ds_if (pdt_cmp op_isN ok_isN (pd_var (pv 5)) pd_non (nomark _))
   (dss_one ds_no)
   dss_nil))) (by intro _; rfl))) (dss_one (ds_ret (pd_var (pv 5)))))), fun ds Q hl h => ?_⟩)
 obtain ⟨m, n, ws, pr, b, ss, e, rfl, n1, n2, hR, hl0, q⟩ := h
 unfold sptD
 decreasing_tactic
 refine ⟨by decide, go ?_⟩
 array_get_dec
 rw [enum_pst]
 refine ⟨flat_pst ss, ?_⟩
 refine ⟨fun r ρ => ∃ (R : List (Pst × Nat)) (c : Had) (z6 z7 : Sl), r = R.map (fun p => .tuple [.int ((p.2 : Nat) : Int), pstD p.1]) ∧ Run n ws pr (R.map fun p => p.1) c e ∧ ρ = [Sl.sh (landD m ws), Sl.sh (.int (((n : Nat) : Int) - 1)), Sl.sh (.list (tabL pr)), Sl.sh (.tuple [.int ((b.1 : Nat) : Int), .int ((b.2 : Nat) : Int)]), Sl.bd (.list (ss.map pstD)), Sl.sh (hadD c), z6, z7], ⟨ss.zipIdx, (b, 0), _, _, rfl, by rw [show (ss.zipIdx.map fun p => p.1) = ss from List.zipIdx_map_fst ..]; exact hR, rfl⟩, ?_, ?_⟩
 ·rintro x r ρ ⟨R, c, z6, z7, h1, hc, rfl⟩
  cases R with
  | nil => cases h1
  | cons p R =>
   cases (show x :: r = PyData.tuple [.int ((p.2 : Nat) : Int), pstD p.1] :: R.map (fun p => .tuple [.int ((p.2 : Nat) : Int), pstD p.1]) from h1)
   obtain ⟨c', ho, hc⟩ := hc
   sizeOf_list_dec
   refine ⟨m, n, ws, pr, c, c', p.1, rfl, n1, n2, ho, ?_⟩
   refine go ?_
   unfold hadD
   decreasing_trivial
   exact ⟨R, c', _, _, rfl, hc, rfl⟩
 ·rintro ρ ⟨R, c, z6, z7, h1, hc, rfl⟩
  cases R with
  | cons p R => cases h1
  | nil =>
   cases (show c = e from hc)
   refine go ?_; decreasing_tactic
   exact q
end
section
variable {P : Program} {w : World} {K : PySem.W.Frag} {mg : Str → Option Value} {base : Heap}
theorem ok_law_paid (T : Txt K mg) : FnOk P w K mg base CX0 2 T.a_law_paid T.d_law_paid ["_law_land_here", "_law_store", "_law_prices_here", "_law_begin", "_law_plan"] (spD [.sh, .sh, .sh, .sh, .bd] spPaidP) := by
 have G_step := @ok_step P w K mg base T
 have b_step := bd_step T
 refine fn_d T.F_law_paid sc_law_paid rfl (fun C cdv A outer s H E hr => ⟨_, (@dss_consG _ _ _ _ _ _ (ds_asg (ps_asg (pd_var (pv 3)) (dg_t2 (pg_tup (n := 2) rfl (pgs_cons (pg_name (i := 5) sc_law_paid.nd rfl (Or.inl rfl)) (pgs_cons (pg_name (i := 6) sc_law_paid.nd rfl (Or.inl rfl)) pgs_nil)))))) (@dss_consG _ _ _ _ _ _ (ds_set (ps_set (i := 7) sc_law_paid.nd rfl (Or.inl rfl) pd_int)) (@dss_consG _ _ _ _ _ _ (@ds_for _ _ _ _ _ _ (@ps_for _ _ _ _ _ _ _ _ PassesOwn.never rfl (di_rng1 (pi_range1 rfl T.n_range (dv_cons (pd_lenL (pe_callB call_len_seq rfl T.n_len bt_len (pa_cons (pl_var (pv 4)) pa_nil se_Name) (he := se_Name) (hpl := np_nil))) dv_nil se_Call))) (dg_name (pg_name (i := 8) sc_law_paid.nd rfl (Or.inl rfl))) (@dss_consG _ _ _ _ _ _ (ds_asg (ps_asg (pd_flat (pl_ix (pl_var (pv 4)) (pd_var (pv 8)) (fun _ _ => rfl))) (dg_t2 (pg_tup (n := 2) rfl (pgs_cons (pg_name (i := 9) sc_law_paid.nd rfl (Or.inl rfl)) (pgs_cons (pg_name (i := 10) sc_law_paid.nd rfl (Or.inl rfl)) pgs_nil)))))) (@dss_one _ _ _ _ (@ds_if _ _ _ _ _ _ _ _ _ (pdt_cmp (op_eqD (units_of hr)) ok_eq (pd_var (pv 9)) pd_str (nomark _)) (@dss_consG _ _ _ _ _ _ (@ds_if _ _ _ _ _ _ _ _ _ (PW.pt (@pwd_or _ _ _ _ _ _ _ _ (pdt_cmp op_lt ok_lt (pd_var (pv 10)) pd_int (nomark _)) (@pwd_or _ _ _ _ _ _ _ _ (pdt_cmp op_ge ok_ge (pd_var (pv 10)) (pd_cb cb_len (pe_callB call_len_seq rfl T.n_len bt_len (dv_cons (pd_ixv (pv 0) pd_int (fun _ _ => rfl)) dv_nil se_Subscript) (he := se_Subscript) (hpl := np_nil))) (nomark _)) (pwd_or1 (pdt_cmp (op_neD (units_of hr)) ok_eq (pd_ix (pd_ix (pd_ixv (pv 0) pd_int (fun _ _ => rfl)) (pd_var (pv 10)) (fun _ _ => rfl)) pd_int (fun _ _ => rfl)) (pd_var (pv 5)) (nomark _)))))) (dss_one (ds_ret (pd_var (pv 8)))) dss_nil) (@dss_consG _ _ _ _ _ _ (@ds_set _ _ _ _ _ (@ps_set _ _ 6 _ _ _ _ sc_law_paid.nd rfl (Or.inl rfl) (pd_call (pe_call G_step (hr.mono (by decide)) rfl T.mg_step T.kp_step b_step .nil pass0 (da_v (pd_var (pv 1)) (da_v (pd_var (pv 6)) (da_v (pd_ix (pd_ix (pd_ixv (pv 0) pd_int (fun _ _ => rfl)) (pd_var (pv 10)) (fun _ _ => rfl)) pd_int (fun _ _ => rfl)) da_nil se_Subscript) se_Name) se_Name) (he := se_Name) (hpl := (np_cons se_Name (np_cons se_Subscript np_nil))))) (by rfl) (by first | exact .inl rfl | exact .inr rfl | assumption))) (dss_consG (ds_set (ps_set (i := 5) sc_law_paid.nd rfl (Or.inl rfl) (pd_ix (pd_ix (pd_ixv (pv 0) pd_int (fun _ _ => rfl)) (pd_var (pv 10)) (fun _ _ => rfl)) pd_int (fun _ _ => rfl))))
   (dss_one (ds_if (pdt_cmp op_isN ok_isN (pd_var (pv 6)) pd_non (nomark _))
   (dss_one (ds_ret (pd_var (pv 8))))
   dss_nil))))) (@dss_consG _ _ _ _ _ _ (ds_if (PW.pt (pwd_or (pdt_cmp op_lt ok_lt (pd_var (pv 10)) pd_int (nomark _)) (pwd_or (pdt_cmp op_isN ok_isN (pd_ixv (pv 2) (pd_var (pv 5)) (fun _ _ => rfl)) pd_non (nomark _)) (pwd_or1 (pdt_cmp op_gt ok_gt (pd_op op_add ok_add (pd_var (pv 6)) (pd_var (pv 10))) (pd_var (pv 1)) (nomark _))))))
   (dss_one (ds_ret (pd_var (pv 8))))
   dss_nil) (dss_consG (ds_aug (ps_aug (i := 6) sc_law_paid.nd rfl (Or.inl rfl) (pd_var (pv 10)) ip_add))
   (dss_one (ds_aug (ps_aug (i := 7) sc_law_paid.nd rfl (Or.inl rfl) (pd_op op_mul ok_mul (pd_var (pv 10)) (pd_ixv (pv 2) (pd_var (pv 5)) (fun _ _ => rfl))) ip_add)))))))) (by intro _; rfl))) (dss_one (ds_ret (pd_tup (dv_cons (pd_var (pv 5)) (dv_cons (pd_var (pv 6)) (dv_cons (pd_var (pv 7)) dv_nil se_Name) se_Name) se_Name))))))), fun ds Q hl h => ?_⟩)
 obtain ⟨m, n, ws, pr, b, ss, e, rfl, n1, n2, hR, hl0, q⟩ := h
 unfold landD sptD
 decreasing_tactic
 refine go ?_; decreasing_tactic
 refine go ?_
 array_get_dec
 rw [List.length_map, show ((ss.length : Nat) : Int).toNat = ss.length by simp]
 refine ⟨⟨by omega, by omega⟩, ?_⟩
 refine ⟨fun r ρ => ∃ (k : Nat) (c : Had) (z8 z9 z10 : Sl), r = (rngD 0 ss.length).drop k ∧ ρ = [Sl.sh (.tuple [.int ((m : Nat) : Int), .list (ws.map wayD)]), Sl.sh (.int (((n : Nat) : Int) - 1)), Sl.sh (.list (tabL pr)), Sl.sh (.tuple [.int ((b.1 : Nat) : Int), .int ((b.2 : Nat) : Int)]), Sl.bd (.list (ss.map pstD)), Sl.sh (.int ((c.1.1 : Nat) : Int)), Sl.sh (.int ((c.1.2 : Nat) : Int)), Sl.sh (.int c.2), z8, z9, z10] ∧ k ≤ ss.length ∧ Run n ws pr (ss.drop k) c e, ⟨0, (b, 0), _, _, _, rfl, rfl, Nat.zero_le _, hR⟩, ?_, ?_⟩
 ·rintro x r ρ ⟨k, c, z8, z9, z10, h1, rfl, hk0, hc⟩
  obtain ⟨rfl, rfl, hk⟩ := rng_cons' h1
  rw [Int.zero_add]
  rw [List.drop_eq_getElem_cons hk] at hc
  obtain ⟨c', ho, hc⟩ := hc
  have hat : atI (ss.map pstD) ((k : Nat) : Int) = some (pstD ss[k]) := atI_nat (by rw [List.getElem?_map, List.getElem?_eq_getElem hk]; rfl)
  generalize ss[k] = s at ho hat
  obtain ⟨f, j⟩ := s
  try dsimp only [Blk]
  decreasing_tactic
  rw [hat]
  cases f with
  | false =>
   obtain ⟨w, y, hw, hp, hy, rfl⟩ := ho
   obtain ⟨y0, y1⟩ := step_bd (st := (n : Int) - 1) (by omega) hy
   obtain ⟨y, rfl⟩ : ∃ j : Nat, y = ((j : Nat) : Int) := ⟨y.toNat, by omega⟩
   have hj : j < ws.length := by
    rcases Nat.lt_or_ge j ws.length with z | z
    ·exact z
    ·rw [List.getElem?_eq_none z] at hw; cases hw
   rw [pstD_w]
   decreasing_tactic
   refine ⟨rfl, ?_⟩
   refine go ?_; decreasing_tactic
   refine ⟨layW, layW, minS _ _, ?_⟩
   rw [eqWW]
   decreasing_tactic
   rw [decide_eq_false (by omega)]
   decreasing_tactic
   rw [List.length_map, decide_eq_false (by omega)]
   decreasing_tactic
   rw [ways_at hw]
   decreasing_trivial
   refine ⟨rfl, rfl, min0 _ _, ?_⟩
   rw [eqv_int, hp, beq_self_eq_true]
   decreasing_tactic
   rw [Bool.not_true, if_neg Bool.false_ne_true]
   refine go ?_
   decreasing_tactic
   rw [ways_at hw]
   decreasing_trivial
   refine ⟨_, some ((c.1.2 : Nat) : Int), _, rfl, ?_⟩
   rw [show ((some ((c.1.2 : Nat) : Int)).bind fun x => stepF (((n : Nat) : Int) - 1) x w.2.2) = some ((y : Nat) : Int) from hy]
   refine go ?_; decreasing_trivial
   rw [ways_at hw]
   decreasing_trivial
   refine go ?_; decreasing_trivial
   exact ⟨k + 1, ((w.2.1, y), c.2), _, _, _, rfl, rfl, hk, hc⟩
  | true =>
   obtain ⟨d, hp, hj, hn, rfl⟩ := ho
   rw [pstD_b]
   decreasing_tactic
   refine ⟨rfl, ?_⟩
   refine go ?_; decreasing_tactic
   refine ⟨layB, layW, minS _ _, ?_⟩
   rw [eqBW]
   decreasing_tactic
   rw [decide_eq_false (by omega)]
   decreasing_tactic
   rw [tab_at (gt_lt hp), hp]
   decreasing_trivial
   rw [decide_eq_false (by omega)]
   decreasing_tactic
   refine go ?_; decreasing_trivial
   refine go ?_; decreasing_trivial
   rw [tab_at (gt_lt hp), hp]
   decreasing_trivial
   exact ⟨.inl ⟨by omega, by omega⟩, k + 1, ((c.1.1, c.1.2 + j), c.2 + ((j : Nat) : Int) * d), _, _, _, rfl, rfl, hk, hc⟩
 ·rintro ρ ⟨k, c, z8, z9, z10, h1, rfl, hk0, hc⟩
  have := rng_nil' h1
  rw [List.drop_of_length_le (by omega)] at hc
  cases (show c = e from hc)
  refine go ?_; decreasing_tactic
  exact ⟨by show 3 ≤ 1000; decide, q⟩
theorem ok_is_plan (T : Txt K mg) : FnOk P w K mg base CX0 2 T.a_is_plan T.d_is_plan ["_law_plan"] (spD [.bd] spIsPl) := by
 have G_law_is_whole := @ok_law_is_whole P w K mg base T
 have b_law_is_whole := bd_law_is_whole T
 refine fn_d T.F_is_plan sc_is_plan rfl (fun C cdv A outer s H E hr => ⟨_, (@dss_consG _ _ _ _ _ _ (ds_if (pdt_not (pdt_val (pd_isiL ty_list (pe_callB call_isinst2 rfl T.n_isinstance bt_isinstance (pa_cons (pl_var (pv 0)) (pa_cons (pe_bltn (v := V.ty "list") rfl T.n_list bt_list rfl) pa_nil se_Name) se_Name) (he := se_Name) (hpl := (np_cons se_Name np_nil))))))
   (dss_one (ds_ret pd_bl))
   dss_nil) (@dss_consG _ _ _ _ _ _ (@ds_for _ _ _ _ _ _ (@ps_for _ _ _ _ _ _ _ _ PassesOwn.never rfl (di_L (pl_var (pv 0))) (dg_name (pg_name (i := 1) sc_is_plan.nd rfl (Or.inl rfl))) (@dss_one _ _ _ _ (@ds_if _ _ _ _ _ _ _ _ _ (PW.pt (@pwd_or _ _ _ _ _ _ _ _ (pdt_not (pdt_val (pd_isiv ty_tuple (pe_callB call_isinst2 rfl T.n_isinstance bt_isinstance (pa_cons (pv 1) (pa_cons (pe_bltn (v := V.ty "tuple") rfl T.n_tuple bt_tuple rfl) pa_nil se_Name) se_Name) (he := se_Name) (hpl := (np_cons se_Name np_nil)))))) (@pwd_or _ _ _ _ _ _ _ _ (pdt_cmp (op_neD (units_of hr)) ok_eq (pd_lenv (pe_callB call_len_seq rfl T.n_len bt_len (pa_cons (pv 1) pa_nil se_Name) (he := se_Name) (hpl := np_nil))) pd_int (nomark _)) (@pwd_or _ _ _ _ _ _ _ _ (pdt_cmp op_notIn_seq ok_inS (pd_ixv (pv 1) pd_int (fun _ _ => rfl)) (pd_tup (dv_cons pd_str (dv_cons pd_str dv_nil se_Constant) se_Constant)) (by with_unfolding_all rfl)) (pwd_or1 (pdt_not (pdt_val (pd_call (pe_call G_law_is_whole (hr.mono (by decide)) rfl T.mg_law_is_whole T.kp_law_is_whole b_law_is_whole .nil pass0 (da_v (pd_ixv (pv 1) pd_int (fun _ _ => rfl)) da_nil se_Subscript) (he := se_Subscript) (hpl := np_nil)))))))))) (dss_one (ds_ret pd_bl)) dss_nil)) (by intro _; rfl))) (dss_one (ds_ret pd_bl)))), fun ds Q hl h => ?_⟩)
 obtain ⟨ss, rfl, hl0, q⟩ := h
 decreasing_tactic
 rw [if_neg (by decide)]
 refine go ?_
 array_get_dec
 refine ⟨flat_pst ss, ?_⟩
 refine ⟨fun r ρ => ∃ (R : List Pst) (z1 : Sl), r = R.map pstD ∧ ρ = [Sl.bd (.list (ss.map pstD)), z1], ⟨ss, _, rfl, rfl⟩, ?_, ?_⟩
 ·rintro x r ρ ⟨R, z1, h1, rfl⟩
  cases R with
  | nil => cases h1
  | cons p R =>
   cases (show x :: r = pstD p :: R.map pstD from h1)
   obtain ⟨f, k⟩ := p
   cases f with
   | false =>
    rw [pstD_w]
    sizeOf_list_dec
    rw [if_neg (by decide)]
    refine ⟨rfl, rfl, min0 _ _, ?_⟩
    rw [eqv_int, if_neg (by decide)]
    refine ⟨by decide, ?_⟩
    rw [if_neg (by decide +kernel)]
    refine ⟨_, rfl, ?_⟩
    decreasing_tactic
    exact ⟨R, _, rfl, rfl⟩
   | true =>
    rw [pstD_b]
    sizeOf_list_dec
    rw [if_neg (by decide)]
    refine ⟨rfl, rfl, min0 _ _, ?_⟩
    rw [eqv_int, if_neg (by decide)]
    refine ⟨by decide, ?_⟩
    rw [if_neg (by decide +kernel)]
    refine ⟨_, rfl, ?_⟩
    decreasing_tactic
    exact ⟨R, _, rfl, rfl⟩
 ·rintro ρ ⟨R, z1, h1, rfl⟩
  refine go ?_; decreasing_tactic
  exact q
end
theorem layAll_ways : ∀ ws : List Wy, PyData.canLayAll0 (ws.map wayD) = true
 | [] => rfl
 | w :: ws => by
  show (PyData.canLay0 (wayD w) && PyData.canLayAll0 (ws.map wayD)) = true
  rw [layAll_ways ws]; rfl
theorem depAll_ways : ∀ ws : List Wy, PyData.depthAll (ws.map wayD) ≤ 1
 | [] => Nat.zero_le _
 | w :: ws => by
  show max (PyData.depth (wayD w)) (PyData.depthAll (ws.map wayD)) ≤ 1
  have := depAll_ways ws
  have h : PyData.depth (wayD w) = 1 := rfl
  omega
theorem landD_lay (m : Nat) (ws : List Wy) : (landD m ws).canLay0 = true := by
 show (PyData.canLay0 (.int m) && (PyData.canLayAll0 (ws.map wayD) && true)) = true
 rw [layAll_ways]; rfl
theorem landD_dep (m : Nat) (ws : List Wy) (d : PyData) : min (landD m ws).depth d.depth ≤ 64 := by
 have : (landD m ws).depth ≤ 64 := by
  show max (PyData.depth (.int m)) (max (PyData.depthAll (ws.map wayD) + 1) 0) + 1 ≤ 64
  have := depAll_ways ws
  have h : PyData.depth (.int m) = 0 := rfl
  omega
 omega
def LayN (n : Nat) (d : PyData) : Prop := d.canLay0 = true ∧ d.depth ≤ n
theorem LayN.all {n : Nat} : ∀ {ds : List PyData}, (∀ d ∈ ds, LayN n d) → PyData.canLayAll0 ds = true ∧ PyData.depthAll ds ≤ n
 | [], _ => ⟨rfl, Nat.zero_le _⟩
 | d :: ds, h => by
  obtain ⟨a, b⟩ := LayN.all fun x hx => h x (List.mem_cons_of_mem _ hx)
  obtain ⟨a1, b1⟩ := h d List.mem_cons_self
  constructor
  ·show (PyData.canLay0 d && PyData.canLayAll0 ds) = true
   rw [a, a1]; rfl
  ·show max (PyData.depth d) (PyData.depthAll ds) ≤ n
   omega
theorem LayN.lst {n : Nat} {ds : List PyData} (h : ∀ d ∈ ds, LayN n d) : LayN (n + 1) (.list ds) := by
 obtain ⟨a, b⟩ := LayN.all h
 refine ⟨by rw [PyData.canLay0]; exact a, ?_⟩
 show PyData.depthAll ds + 1 ≤ n + 1
 omega
theorem LayN.tup {n : Nat} {ds : List PyData} (h : ∀ d ∈ ds, LayN n d) : LayN (n + 1) (.tuple ds) := by
 obtain ⟨a, b⟩ := LayN.all h
 refine ⟨by rw [PyData.canLay0]; exact a, ?_⟩
 show PyData.depthAll ds + 1 ≤ n + 1
 omega
theorem LayN.mono {n k : Nat} {d : PyData} (h : LayN n d) (l : n ≤ k) : LayN k d := ⟨h.1, Nat.le_trans h.2 l⟩
theorem LayN.int {n : Nat} (i : Int) : LayN n (.int i) := ⟨rfl, Nat.zero_le _⟩
theorem LayN.str {n : Nat} {i : Str} (h : (PyData.str i).canLay0 = true) : LayN n (.str i) := ⟨h, Nat.zero_le _⟩
theorem LayN.non {n : Nat} : LayN n .none := ⟨rfl, Nat.zero_le _⟩
theorem LayN.bl {n : Nat} (b : Bool) : LayN n (.bool b) := ⟨rfl, Nat.zero_le _⟩
theorem LayN.o {n : Nat} (o : Option Int) : LayN n (oD o) := by cases o <;> exact ⟨rfl, Nat.zero_le _⟩
theorem LayN.tab (t : Tb) : LayN 1 (.list (tabL t)) := LayN.lst fun d hd => by
 unfold tabL at hd
 obtain ⟨o, _, rfl⟩ := List.mem_map.mp hd
 exact .o o
theorem LayN.way (w : Wy) : LayN 1 (wayD w) := LayN.tup fun d hd => by
 rcases List.mem_cons.mp hd with rfl | hd
 ·exact .int _
 rcases List.mem_cons.mp hd with rfl | hd
 ·exact .int _
 rw [List.mem_singleton.mp hd]; exact .int _
theorem LayN.land (m : Nat) (ws : List Wy) : LayN 3 (landD m ws) := LayN.tup fun d hd => by
 rcases List.mem_cons.mp hd with rfl | hd
 ·exact .int _
 rw [List.mem_singleton.mp hd]
 exact LayN.lst fun d hd => by
  obtain ⟨w, _, rfl⟩ := List.mem_map.mp hd
  exact .way w
theorem LayN.two {n : Nat} {a b : PyData} (ha : LayN n a) (hb : LayN n b) : ∀ d ∈ [a, b], LayN n d := fun d hd => by
 rcases List.mem_cons.mp hd with rfl | hd
 ·exact ha
 rw [List.mem_singleton.mp hd]; exact hb
theorem LayN.three {n : Nat} {a b c : PyData} (ha : LayN n a) (hb : LayN n b) (hc : LayN n c) : ∀ d ∈ [a, b, c], LayN n d := fun d hd => by
 rcases List.mem_cons.mp hd with rfl | hd
 ·exact ha
 exact LayN.two hb hc d hd
theorem LayN.dep {n : Nat} {a : PyData} (h : LayN n a) (l : n ≤ 64) (b : PyData) : min a.depth b.depth ≤ 64 := by have := h.2; omega
theorem LayN.same {n : Nat} {a : PyData} (h : LayN n a) : PyData.eqv a a = true := PySem.SeqAt.eqv_refl _ h.1
theorem LayN.eq {n : Nat} {a : PyData} (h : LayN n a) (l : n ≤ 64) {Q : Bool → Prop} (q : Q true) : a.canLay0 = true ∧ a.canLay0 = true ∧ min a.depth a.depth ≤ 64 ∧ Q (PyData.eqv a a) := ⟨h.1, h.1, h.dep l a, by rw [h.same]; exact q⟩
def spRight : DSp := fun ds Q => ∃ (m n P : Nat) (ws : List Wy) (pr : List (Option Int)) (b g : Spt) (t : Ct), ds = [landD m ws, .int (((n : Nat) : Int) - 1), .list (tabL pr), sptD b, sptD g, oD (ca t b)] ∧ Mkt m n P ws pr g ∧ m * n ≤ 900 ∧ b.1 < m ∧ b.2 < n ∧ Best m n ((mvAll n ws pr).map fun x => x.2) g t ∧ Q (.bool true)
theorem best_same {m n : Nat} {mv : List Mv} {g : Spt} {t u : Ct} (h : Best m n mv g t) (h' : Best m n mv g u) (s : Spt) : ca t s = ca u s := leX_anti (h'.top t h.ok h.fl s) (h.top u h'.ok h'.fl s)
theorem LayN.pst (s : Pst) : LayN 1 (pstD s) := by
 obtain ⟨f, k⟩ := s
 cases f
 ·exact LayN.tup (LayN.two (.str layW) (.int _))
 ·exact LayN.tup (LayN.two (.str layB) (.int _))
theorem LayN.psts (ss : List Pst) : LayN 2 (.list (ss.map pstD)) := LayN.lst fun d hd => by
 obtain ⟨s, _, rfl⟩ := List.mem_map.mp hd
 exact .pst s
theorem LayN.had (a : Had) : LayN 1 (hadD a) := LayN.tup (LayN.three (.int _) (.int _) (.int _))
theorem skel_pl {xs ds : List PyData} {z : Int} (h : skelL xs = skelL [.int z, .list ds]) : ∃ es, xs = [.int z, .list es] := by
 cases xs with
 | nil => cases h
 | cons a xs =>
  rw [skelL, skelL] at h
  injection h with h1 h2
  cases xs with
  | nil => cases h2
  | cons b xs =>
   rw [skelL, skelL] at h2
   injection h2 with h2 h3
   cases xs with
   | cons c xs => cases h3
   | nil =>
    cases a <;> rw [skelD] at h1 <;> cases h1
    cases b <;> rw [skelD] at h2 <;> cases h2
    exact ⟨_, rfl⟩
section
variable {P : Program} {w : World} {K : PySem.W.Frag} {mg : Str → Option Value} {base : Heap}
theorem ok_right (T : Txt K mg) : FnOk P w K mg base CX0 6 T.a_right T.d_right ["_law_land_here", "_law_store", "_law_prices_here", "_law_begin", "_law_goal", "_law_due"] (spD [.sh, .sh, .sh, .sh, .sh, .sh] spRight) := by
 have G_cheapest := @ok_cheapest P w K mg base T
 have b_cheapest := bd_cheapest T
 have G_law_is_whole := @ok_law_is_whole P w K mg base T
 have b_law_is_whole := bd_law_is_whole T
 have G_is_plan := @ok_is_plan P w K mg base T
 have b_is_plan := bd_is_plan T
 have G_law_paid := @ok_law_paid P w K mg base T
 have b_law_paid := bd_law_paid T
 have G_paid := @ok_paid P w K mg base T
 have b_paid := bd_paid T
 refine fn_d T.F_right sc_right rfl (fun C cdv A outer s H E hr => ⟨_, (@dss_consG _ _ _ _ _ _ (@ds_set _ _ _ _ _ (@ps_set _ _ 6 _ _ _ _ sc_right.nd rfl (Or.inl rfl) (@pd_tup _ _ _ _ _ _ (@dv_cons _ _ _ _ _ _ (pd_tup (dv_cons (pd_ixv (pv 0) pd_int (fun _ _ => rfl)) (dv_cons (pd_f (pf_list (pe_callTy call_list_of rfl T.n_list bt_list (pa_cons (pd_ixv (pv 0) pd_int (fun _ _ => rfl)) pa_nil se_Subscript) (he := se_Subscript) (hpl := np_nil)))) dv_nil se_Call) se_Subscript)) (dv_cons (pd_f (pf_listv (pe_callTy call_list_of rfl T.n_list bt_list (pa_cons (pv 2) pa_nil se_Name) (he := se_Name) (hpl := np_nil)))) dv_nil se_Call) se_Tuple)) (by rfl) (by first | exact .inl rfl | exact .inr rfl | assumption))) (@dss_consG _ _ _ _ _ _ (@ds_newT _ _ _ _ _ _ _ _ (@ps_set _ _ 7 _ _ _ _ sc_right.nd rfl (Or.inl rfl) (@pe_call _ _ _ _ _ _ _ _ _ _ _ _ _ _ _ _ G_cheapest (hr.mono (by decide)) rfl T.mg_cheapest T.kp_cheapest b_cheapest .nil pass0 (da_v (pd_ixv (pv 6) pd_int (fun _ _ => rfl)) (da_v (pd_var (pv 1)) (da_v (pd_ixv (pv 6) pd_int (fun _ _ => rfl)) (da_v (pd_var (pv 3)) (da_v (pd_var (pv 4)) da_nil se_Name) se_Name) se_Subscript) se_Name) se_Subscript) (by decide) se_Subscript ((np_cons se_Name (np_cons se_Subscript (np_cons se_Name (np_cons se_Name np_nil)))))) (by rfl) (by first | exact .inl rfl | exact .inr rfl | assumption))) (@dss_consG _ _ _ _ _ _ (ds_mid (ds_if (pdt_cmp (op_neD (units_of hr)) ok_eq (pd_var (pv 6)) (pd_tup (dv_cons (pd_var (pv 0)) (dv_cons (pd_var (pv 2)) dv_nil se_Name) se_Name)) (nomark _))
   (dss_one (ds_ret pd_bl))
   dss_nil)) (@dss_consG _ _ _ _ _ _ (ds_mid (ds_if (PW.pt (pwd_or (pdt_cmp op_isN ok_isN (pd_var (pv 5)) pd_non (nomark _)) (pwd_or1 (pdt_lendT (i := 7) (fun C => (pdt_isNL op_isN (pl_var (pv 7)) pe_non (nomark _)))))))
   (dss_one (ds_ret (pd_and (pd_cmp op_isN ok_isN (pd_var (pv 5)) pd_non (nomark _)) (pd_one (pd_lendT (i := 7) (fun C => (pd_isNL op_isN (pl_var (pv 7)) pe_non (nomark _))))))))
   dss_nil)) (@dss_consG _ _ _ _ _ _ (@ds_mid _ _ _ _ (@ds_if _ _ _ _ _ _ _ _ _ (PW.pt (@pwd_or _ _ _ _ _ _ _ _ (pdt_not (pdt_val (pd_lendT (i := 7) (fun C => (pd_isiL ty_tuple (pe_callB call_isinst2 rfl T.n_isinstance bt_isinstance (pa_cons (pl_var (pv 7)) (pa_cons (pe_bltn (v := V.ty "tuple") rfl T.n_tuple bt_tuple rfl) pa_nil se_Name) se_Name) (he := se_Name) (hpl := (np_cons se_Name np_nil)))))))) (@pwd_or _ _ _ _ _ _ _ _ (pdt_lendT (i := 7) (fun C => (pdt_cmp (op_neD (units_of hr)) ok_eq (pd_lenL (pe_callB call_len_seq rfl T.n_len bt_len (pa_cons (pl_var (pv 7)) pa_nil se_Name) (he := se_Name) (hpl := np_nil))) pd_int (nomark _)))) (@pwd_or _ _ _ _ _ _ _ _ (pdt_not (pdt_val (pd_lendT (i := 7) (fun C => (pd_call (pe_call G_law_is_whole (hr.mono (by decide)) rfl T.mg_law_is_whole T.kp_law_is_whole b_law_is_whole .nil pass0 (da_v (pd_flat (pl_ix (pl_var (pv 7)) pd_int (fun _ _ => rfl))) da_nil se_Subscript) (he := se_Subscript) (hpl := np_nil))))))) (pwd_or1 (pdt_not (pdt_val (pd_lendT (i := 7) (fun C => (pd_call (pe_call G_is_plan (hr.mono (by decide)) rfl T.mg_is_plan T.kp_is_plan b_is_plan .nil pass0 (da_w (pl_ix (pl_var (pv 7)) pd_int (fun _ _ => rfl)) da_nil se_Subscript) (he := se_Subscript) (hpl := np_nil)))))))))))) (dss_one (ds_ret pd_bl)) dss_nil)) (@dss_consG _ _ _ _ _ _ (@ds_set _ _ _ _ _ (@ps_set _ _ 8 _ _ _ _ sc_right.nd rfl (Or.inl rfl) (@pd_lendT _ _ _ _ 7 (fun C => (@pd_call _ _ _ _ _ _ _ (pe_call G_law_paid (hr.mono (by decide)) rfl T.mg_law_paid T.kp_law_paid b_law_paid .nil pass0 (da_v (pd_var (pv 0)) (da_v (pd_var (pv 1)) (da_v (pd_var (pv 2)) (da_v (pd_var (pv 3)) (da_w (pl_ix (pl_var (pv 7)) pd_int (fun _ _ => rfl)) da_nil se_Subscript) se_Name) se_Name) se_Name) se_Name) (he := se_Name) (hpl := (np_cons se_Name (np_cons se_Name (np_cons se_Name (np_cons se_Subscript np_nil))))))))) (by rfl) (by first | exact .inl rfl | exact .inr rfl | assumption))) (@dss_consG _ _ _ _ _ _ (@ds_mid _ _ _ _ (@ds_if _ _ _ _ _ _ _ _ _ (PW.pt (@pwd_or _ _ _ _ _ _ _ _ (pdt_not (pdt_val (pd_isiv ty_tuple (pe_callB call_isinst2 rfl T.n_isinstance bt_isinstance (pa_cons (pv 8) (pa_cons (pe_bltn (v := V.ty "tuple") rfl T.n_tuple bt_tuple rfl) pa_nil se_Name) se_Name) (he := se_Name) (hpl := (np_cons se_Name np_nil)))))) (pwd_or (pdt_cmp (op_neD (units_of hr)) ok_eq (pd_ixv (pv 8) pd_int (fun _ _ => rfl)) (pd_ixv (pv 4) pd_int (fun _ _ => rfl)) (nomark _)) (pwd_or1 (pdt_cmp op_lt ok_lt (pd_ixv (pv 8) pd_int (fun _ _ => rfl)) (pd_ixv (pv 4) pd_int (fun _ _ => rfl)) (nomark _)))))) (dss_one (ds_ret pd_bl)) dss_nil)) (@dss_consG _ _ _ _ _ _ (@ds_mid _ _ _ _ (@ds_if _ _ _ _ _ _ _ _ _ (@pdt_lendT _ _ _ _ 7 (fun C => (@pdt_cmp _ _ _ _ _ _ _ _ _ _ (op_neD (units_of hr)) ok_eq (pd_call (pe_call G_paid (hr.mono (by decide)) rfl T.mg_paid T.kp_paid b_paid .nil pass0 (da_v (pd_var (pv 0)) (da_v (pd_var (pv 1)) (da_v (pd_var (pv 2)) (da_v (pd_var (pv 3)) (da_w (pl_ix (pl_var (pv 7)) pd_int (fun _ _ => rfl)) da_nil se_Subscript) se_Name) se_Name) se_Name) se_Name) (he := se_Name) (hpl := (np_cons se_Name (np_cons se_Name (np_cons se_Name (np_cons se_Subscript np_nil))))))) (pd_var (pv 8)) (nomark _)))) (dss_one (ds_ret pd_bl)) dss_nil)) (@dss_consG _ _ _ _ _ _ (ds_set (ps_set (i := 9) sc_right.nd rfl (Or.inl rfl) (pd_lendT (i := 7) (fun C => (pd_f (pf_listL (pe_callTy call_list_of rfl T.n_list bt_list (pa_cons (pl_ix (pl_var (pv 7)) pd_int (fun _ _ => rfl)) pa_nil se_Subscript) (he := se_Subscript) (hpl := np_nil)))))))) (@dss_consG _ _ _ _ _ _ (ds_mutC (i := 7) (ps_expr (pe_bm0 PySem.F.plainAttrs_list PySem.F.slot_list_clear PySem.F.type_list_clear mt_clear (pe_ix ix_seq (pv 7) pe_int (fun _ _ => rfl))))) (@dss_consG _ _ _ _ _ _ (@ds_set _ _ _ _ _ (ps_set (i := 10) sc_right.nd rfl (Or.inl rfl) (pd_call (pe_call G_cheapest (hr.mono (by decide)) rfl T.mg_cheapest T.kp_cheapest b_cheapest .nil pass0 (da_s (pv 0) (da_v (pd_var (pv 1)) (da_s (pv 2) (da_v (pd_var (pv 3)) (da_v (pd_var (pv 4)) da_nil se_Name) se_Name) se_Name) se_Name) se_Name) (he := se_Name) (hpl := (np_cons se_Name (np_cons se_Name (np_cons se_Name (np_cons se_Name np_nil))))))))) (@dss_one _ _ _ _ (@ds_ret _ _ _ _ _ (@pd_and _ _ _ _ _ _ _ _ (pd_lendT (i := 7) (fun C => (pd_cmp (op_eqD (units_of hr)) ok_eq (pd_flat (pl_ix (pl_var (pv 7)) pd_int (fun _ _ => rfl))) (pd_var (pv 5)) (nomark _)))) (pd_and (pd_cmp (op_eqD (units_of hr)) ok_eq (pd_ixv (pv 8) pd_int (fun _ _ => rfl)) (pd_var (pv 5)) (nomark _)) (pd_one (pd_cmp (op_eqD (units_of hr)) ok_eq (pd_var (pv 10)) (pd_tup (dv_cons (pd_var (pv 5)) (dv_cons (pd_var (pv 9)) dv_nil se_Name) se_Name)) (nomark _)))))))))))))))))), fun ds Q hl h => ?_⟩)
 obtain ⟨m, n, P, ws, pr, b, g, t, rfl, M, mn, b1, b2, hB, q⟩ := h
 unfold landD
 decreasing_tactic
 refine ⟨by decide, by decide, go ?_⟩
 decreasing_tactic
 refine ⟨rfl, m, n, P, ws, pr, b, g, rfl, M, mn, b1, b2, fun t' hB' => ?_⟩
 have L : LayN 4 (.tuple [.tuple [.int ((m : Nat) : Int), .list (ws.map wayD)], .list (tabL pr)]) := LayN.tup (LayN.two (LayN.land m ws) ((LayN.tab pr).mono (by decide)))
 rw [best_same hB' hB b]
 refine ⟨fun e => ?_, fun z ss l e hr h1 h2 hch => ?_⟩
 ·rw [e]
  try dsimp only
  refine go ?_
  (try unfold dSeqG); (try unfold dMid)
  refine ⟨fun ρ' => ρ' = [Sl.sh (landD m ws), Sl.sh (.int (((n : Nat) : Int) - 1)), Sl.sh (.list (tabL pr)), Sl.sh (sptD b), Sl.sh (sptD g), Sl.sh (oD none), Sl.sh (.tuple [landD m ws, .list (tabL pr)]), Sl.ot .none, .no, .no, .no], ?_, ?_⟩
  ·decreasing_tactic
   refine ⟨by decide, L.1, L.1, L.dep (by decide) _, ?_⟩
   rw [L.same]
   decreasing_tactic
   rw [if_neg (by decide)]
   try rfl
  rintro ρ rfl
  try dsimp only
  refine go ?_
  (try unfold dSeqG); (try unfold dMid)
  refine ⟨fun _ => False, ?_, fun ρ z => z.elim⟩
  decreasing_trivial
  exact ⟨rfl, rfl, q⟩
 ·rw [e]
  try dsimp only
  refine go ?_
  (try unfold dSeqG); (try unfold dMid)
  refine ⟨fun ρ' => ρ' = [Sl.sh (landD m ws), Sl.sh (.int (((n : Nat) : Int) - 1)), Sl.sh (.list (tabL pr)), Sl.sh (sptD b), Sl.sh (sptD g), Sl.sh (oD (some z)), Sl.sh (.tuple [landD m ws, .list (tabL pr)]), Sl.ot (.tuple [.int z, .list (ss.map pstD)]), .no, .no, .no], ?_, ?_⟩
  ·decreasing_tactic
   refine ⟨by decide, L.1, L.1, L.dep (by decide) _, ?_⟩
   rw [L.same]
   decreasing_tactic
   rw [if_neg (by decide)]
   try rfl
  rintro ρ rfl
  try dsimp only
  refine go ?_
  (try unfold dSeqG); (try unfold dMid)
  refine ⟨fun ρ' => ρ' = [Sl.sh (landD m ws), Sl.sh (.int (((n : Nat) : Int) - 1)), Sl.sh (.list (tabL pr)), Sl.sh (sptD b), Sl.sh (sptD g), Sl.sh (oD (some z)), Sl.sh (.tuple [landD m ws, .list (tabL pr)]), Sl.ot (.tuple [.int z, .list (ss.map pstD)]), .no, .no, .no], ?_, ?_⟩
  ·decreasing_trivial
   exact ⟨rfl, rfl, rfl⟩
  rintro ρ rfl
  try dsimp only
  refine go ?_
  (try unfold dSeqG); (try unfold dMid)
  refine ⟨fun ρ' => ρ' = [Sl.sh (landD m ws), Sl.sh (.int (((n : Nat) : Int) - 1)), Sl.sh (.list (tabL pr)), Sl.sh (sptD b), Sl.sh (sptD g), Sl.sh (oD (some z)), Sl.sh (.tuple [landD m ws, .list (tabL pr)]), Sl.ot (.tuple [.int z, .list (ss.map pstD)]), .no, .no, .no], ?_, ?_⟩
  ·decreasing_trivial
   refine ⟨rfl, rfl, ?_⟩
   rw [if_neg (by decide)]
   refine ⟨rfl, rfl, rfl, min0 _ _, rfl, ?_⟩
   rw [eqv_int, if_neg (by decide)]
   refine ⟨rfl, rfl, z, rfl, rfl, ?_⟩
   decreasing_trivial
   rw [if_neg (by decide)]
   refine ⟨rfl, ss, rfl, h2, rfl, ?_⟩
   decreasing_trivial
   rw [if_neg (by decide)]
   try rfl
  rintro ρ rfl
  try dsimp only
  refine go ?_
  decreasing_trivial
  refine ⟨rfl, m, n, ws, pr, b, ss, ((g.1, l), z), rfl, M.n1, M.n2, hr, h2, rfl, go ?_⟩
  (try unfold dSeqG); (try unfold dMid)
  refine ⟨fun ρ' => ρ' = [Sl.sh (landD m ws), Sl.sh (.int (((n : Nat) : Int) - 1)), Sl.sh (.list (tabL pr)), Sl.sh (sptD b), Sl.sh (sptD g), Sl.sh (oD (some z)), Sl.sh (.tuple [landD m ws, .list (tabL pr)]), Sl.ot (.tuple [.int z, .list (ss.map pstD)]), Sl.sh (hadD ((g.1, l), z)), .no, .no], ?_, ?_⟩
  ·unfold hadD
   decreasing_trivial
   rw [if_neg (by decide)]
   refine ⟨rfl, rfl, min0 _ _, ?_⟩
   rw [eqv_int, beq_self_eq_true]
   decreasing_trivial
   rw [if_neg (by decide), decide_eq_false (by omega)]
   decreasing_trivial
   try rfl
  rintro ρ rfl
  try dsimp only
  refine go ?_
  (try unfold dSeqG); (try unfold dMid)
  refine ⟨fun ρ' => ρ' = [Sl.sh (landD m ws), Sl.sh (.int (((n : Nat) : Int) - 1)), Sl.sh (.list (tabL pr)), Sl.sh (sptD b), Sl.sh (sptD g), Sl.sh (oD (some z)), Sl.sh (.tuple [landD m ws, .list (tabL pr)]), Sl.ot (.tuple [.int z, .list (ss.map pstD)]), Sl.sh (hadD ((g.1, l), z)), .no, .no], ?_, ?_⟩
  ·decreasing_trivial
   have LH := LayN.had ((g.1, l), z)
   refine ⟨rfl, m, n, ws, pr, b, ss, ((g.1, l), z), rfl, M.n1, M.n2, hr, h2, LH.1, LH.1, LH.dep (by decide) _, rfl, ?_⟩
   rw [LH.same]
   decreasing_trivial
   rw [if_neg (by decide)]
   try rfl
  rintro ρ rfl
  try dsimp only
  refine go ?_
  decreasing_trivial
  refine ⟨rfl, flat_pst ss, rfl, go ?_⟩
  decreasing_trivial
  intro xs' hx
  obtain ⟨es, rfl⟩ := skel_pl hx
  refine go ?_
  decreasing_trivial
  refine ⟨rfl, rfl, m, n, P, ws, pr, b, g, rfl, M, mn, b1, b2, fun t2 hB2 => ?_⟩
  rw [best_same hB2 hB b]
  refine ⟨fun e2 => (by rw [e] at e2; cases e2), fun z2 ss2 l2 e2 hr2 h12 h22 hch2 => ?_⟩
  rw [e] at e2
  cases e2
  cases hch.uniq hch2
  have LT : LayN 3 (.tuple [.int z, .list (ss.map pstD)]) := LayN.tup (LayN.two (.int _) (LayN.psts ss))
  unfold hadD
  refine go ?_
  decreasing_trivial
  refine ⟨rfl, rfl, rfl, rfl, min0 _ _, rfl, ?_⟩
  rw [eqv_int, beq_self_eq_true, if_pos rfl]
  refine ⟨rfl, rfl, min0 _ _, ?_⟩
  rw [if_pos rfl]
  refine ⟨by decide, LT.1, LT.1, LT.dep (by decide) _, ?_⟩
  rw [LT.same]
  exact q
end
def spScaleD : DSp := fun ds Q => ∃ d, ds = [d] ∧ ∀ r : Int, 1 ≤ r → r ≤ 1000000000000000000 → Q (.int r)
def spChangeD : DSp := fun ds Q => ∃ (d : PyData) (sc : Int), ds = [d, .int sc] ∧ 0 ≤ sc ∧ sc ≤ 1000000000000000000 ∧ ∀ r : Int, -sc ≤ r → r ≤ sc → Q (.int r)
def spStoreD : DSp := fun ds Q => ∃ (d : PyData) (sc : Int), ds = [d, .int sc] ∧ 0 ≤ sc ∧ sc ≤ 1000000000000000000 ∧ ∀ r : Int, 0 ≤ r → r ≤ 100000000000000000000 → Q (.int r)
def spLandD : DSp := fun ds Q => ∃ (d : PyData) (pl wn : Nat) (sc : Int), ds = [d, .int (pl : Nat), .int (wn : Nat), .int sc] ∧ 1 ≤ pl ∧ pl ≤ 12 ∧ wn ≤ 40 ∧ 1 ≤ sc ∧ sc ≤ 1000000000000000000 ∧ ∀ m ws, LandOk m ws → Q (landD m ws)
def spTableD : DSp := fun ds Q => ∃ (d : PyData) (m : Nat) (st : Int), ds = [d, .int (m : Nat), .int st] ∧ m ≤ 12 ∧ 0 ≤ st ∧ st ≤ 1000000000000000000000 ∧ ∀ t, TabOk m st t → Q (.list (tabL t))
def ODs (st : Int) (d : PyData) : Prop := ∃ o : Option Int, d = oD o ∧ ∀ x, o = some x → 0 ≤ x ∧ x ≤ st
theorem ods_tab {st : Int} : ∀ {ds : List PyData}, (∀ d ∈ ds, ODs st d) → ∃ t : Tb, ds = tabL t ∧ TabOk ds.length st t
 | [], _ => ⟨[], rfl, rfl, fun p x e => by rw [gt_out (Nat.zero_le _)] at e; cases e⟩
 | d :: ds, h => by
  obtain ⟨t, rfl, ht⟩ := ods_tab (ds := ds) fun e he => h e (List.mem_cons_of_mem _ he)
  obtain ⟨o, rfl, ho⟩ := h d List.mem_cons_self
  refine ⟨o :: t, rfl, ⟨by rw [List.length_cons, List.length_cons, len_tab], fun p x e => ?_⟩⟩
  cases p with
  | zero => exact ho x e
  | succ p => exact ht.bd p x e
theorem lt2 {r : Int} (h0 : 0 ≤ r) (h1 : r < 2) : r = 0 ∨ r = 1 := by omega
section
variable {P : Program} {w : World} {K : PySem.W.Frag} {mg : Str → Option Value} {base : Heap}
theorem ok_change (T : Txt K mg) : FnOk P w K mg base CX0 4 T.a_change T.d_change ["_law_hand_here", "_law_scale"] (spD [.hd, .sh] spChangeD) := by
 have G_draw := @ok_drawD P w K mg base T
 have b_draw := bd_draw T
 refine fn_d T.F_change sc_change rfl (fun C cdv A outer s H E hr => ⟨_, (dss_one (ds_ret (pd_op op_sub ok_sub (pd_call (pe_call G_draw (hr.mono (by decide)) rfl T.mg_draw T.kp_draw b_draw .nil pass0 (da_s (pv 0) (da_v (pd_op op_add ok_add (pd_op op_mul ok_mul pd_int (pd_var (pv 1))) pd_int) da_nil se_BinOp) se_Name) (he := se_Name) (hpl := (np_cons se_BinOp np_nil)))) (pd_var (pv 1))))), fun ds Q hl h => ?_⟩)
 obtain ⟨d, sc, rfl, s0, s1, q⟩ := h
 decreasing_tactic
 refine ⟨rfl, .inl ⟨by decide, by decide⟩, 2 * sc + 1, rfl, by omega, by omega, fun r r0 r1 => ?_⟩
 decreasing_tactic
 exact q _ (by omega) (by omega)
end
def spLandB : DSp := fun ds Q => ∃ (d : PyData) (pl wn : Nat) (sc : Int), ds = [d, .int (pl : Nat), .int (wn : Nat), .int sc] ∧ 1 ≤ pl ∧ pl ≤ 12 ∧ wn ≤ 40 ∧ 1 ≤ sc ∧ sc ≤ 1000000000000000000 ∧ ∀ m ws, m ≤ pl → ws.length ≤ wn → LandOk m ws → Q (landD m ws)
def WyB (m : Nat) (w : Wy) : Prop := w.1 < m ∧ w.2.1 < m ∧ -1000000000000000000 ≤ w.2.2 ∧ w.2.2 ≤ 1000000000000000000
theorem toNat_lt {r : Int} {m : Nat} (h0 : 0 ≤ r) (h1 : r < ((m : Nat) : Int)) : ∃ n : Nat, r = ((n : Nat) : Int) ∧ n < m := ⟨r.toNat, by omega, by omega⟩
section
variable {P : Program} {w : World} {K : PySem.W.Frag} {mg : Str → Option Value} {base : Heap}
theorem ok_land (T : Txt K mg) : FnOk P w K mg base CX0 5 T.a_land T.d_land ["_law_hand_here", "_law_places", "_law_ways", "_law_scale"] (spD [.hd, .sh, .sh, .sh] spLandB) := by
 have G_draw := @ok_drawD P w K mg base T
 have b_draw := bd_draw T
 have G_change := @ok_change P w K mg base T
 have b_change := bd_change T
 refine fn_d T.F_land sc_land rfl (fun C cdv A outer s H E hr => ⟨_, (@dss_consG _ _ _ _ _ _ (ds_set (ps_set (i := 4) sc_land.nd rfl (Or.inl rfl) (pd_op op_add ok_add pd_int (pd_call (pe_call G_draw (hr.mono (by decide)) rfl T.mg_draw T.kp_draw b_draw .nil pass0 (da_s (pv 0) (da_v (pd_var (pv 1)) da_nil se_Name) se_Name) (he := se_Name) (hpl := (np_cons se_Name np_nil))))))) (@dss_consG _ _ _ _ _ _ (ds_own (ps_set (i := 5) sc_land.nd rfl (Or.inl rfl) (pf_lst dv_nil))) (@dss_consG _ _ _ _ _ _ (@ds_for _ _ _ _ _ _ (@ps_for _ _ _ _ _ _ _ _ PassesOwn.never rfl (di_rng1 (pi_range1 rfl T.n_range (dv_cons (pd_call (pe_call G_draw (hr.mono (by decide)) rfl T.mg_draw T.kp_draw b_draw .nil pass0 (da_s (pv 0) (da_v (pd_op op_add ok_add (pd_var (pv 2)) pd_int) da_nil se_BinOp) se_Name) (he := se_Name) (hpl := (np_cons se_BinOp np_nil)))) dv_nil se_Call))) (dg_name (pg_name (i := 6) sc_land.nd rfl (Or.inl rfl))) (@dss_consG _ _ _ _ _ _ (ds_set (ps_set (i := 7) sc_land.nd rfl (Or.inl rfl) (pd_call (pe_call G_draw (hr.mono (by decide)) rfl T.mg_draw T.kp_draw b_draw .nil pass0 (da_s (pv 0) (da_v (pd_var (pv 4)) da_nil se_Name) se_Name) (he := se_Name) (hpl := (np_cons se_Name np_nil)))))) (@dss_consG _ _ _ _ _ _ (ds_set (ps_set (i := 8) sc_land.nd rfl (Or.inl rfl) (pd_call (pe_call G_draw (hr.mono (by decide)) rfl T.mg_draw T.kp_draw b_draw .nil pass0 (da_s (pv 0) (da_v (pd_var (pv 4)) da_nil se_Name) se_Name) (he := se_Name) (hpl := (np_cons se_Name np_nil)))))) (@dss_consG _ _ _ _ _ _ (@ds_mid _ _ _ _ (@ds_if _ _ _ _ _ _ _ _ _ (pdt_cmp (op_eqD (units_of hr)) ok_eq (pd_call (pe_call G_draw (hr.mono (by decide)) rfl T.mg_draw T.kp_draw b_draw .nil pass0 (da_s (pv 0) (da_v pd_int da_nil se_Constant) se_Name) (he := se_Name) (hpl := (np_cons se_Constant np_nil)))) pd_int (nomark _)) (dss_one (ds_set (ps_set (i := 8) sc_land.nd rfl (Or.inl rfl) (pd_op op_mod ok_mod (pd_op op_add ok_add (pd_var (pv 7)) pd_int) (pd_var (pv 4)))))) dss_nil)) (@dss_one _ _ _ _ (@ds_app _ _ _ _ _ _ (@ps_expr _ _ _ _ (@pe_bm _ _ _ _ _ _ _ _ _ _ _ _ PySem.F.plainAttrs_list PySem.F.slot_list_append PySem.F.type_list_append mt_append (pv 5) (@pa_cons _ _ _ _ _ (@pd_tup _ _ _ _ _ _ (@dv_cons _ _ _ _ _ _ (pd_var (pv 7)) (@dv_cons _ _ _ _ _ _ (pd_var (pv 8)) (@dv_cons _ _ _ _ _ _ (@pd_call _ _ _ _ _ _ _ (@pe_call _ _ _ _ _ _ _ _ _ _ _ _ _ _ _ _ G_change (hr.mono (by decide)) rfl T.mg_change T.kp_change b_change .nil pass0 (da_s (pv 0) (da_v (pd_ix (pd_f (pf_lst (dv_cons (pd_var (pv 3)) (dv_cons (pd_var (pv 3)) (dv_cons pd_int dv_nil se_Constant) se_Name) se_Name))) (pd_call (pe_call G_draw (hr.mono (by decide)) rfl T.mg_draw T.kp_draw b_draw .nil pass0 (da_s (pv 0) (da_v pd_int da_nil se_Constant) se_Name) (he := se_Name) (hpl := (np_cons se_Constant np_nil)))) (fun _ _ => rfl)) da_nil se_Subscript) se_Name) (by decide) se_Name ((np_cons se_Subscript np_nil)))) dv_nil se_Call) se_Name) se_Name)) pa_nil se_Tuple) (by rfl) (by rfl) (by rfl) (by rfl) (by rfl)) (by rfl))))))) (by intro _; rfl))) (dss_one (ds_ret (pd_tup (dv_cons (pd_var (pv 4)) (dv_cons (pd_var (pv 5)) dv_nil se_Name) se_Name))))))), fun ds Q hl h => ?_⟩)
 obtain ⟨d, pl, wn, sc, rfl, p1, p2, w2, s0, s1, q⟩ := h
 decreasing_tactic
 refine ⟨rfl, _, rfl, by omega, by omega, fun r r0 r1 => ?_⟩
 decreasing_tactic
 obtain ⟨m, hm, m1⟩ : ∃ m : Nat, 1 + r = ((m : Nat) : Int) ∧ 1 ≤ m ∧ m ≤ 12 ∧ m ≤ pl := ⟨(1 + r).toNat, by omega, by omega, by omega, by omega⟩
 rw [hm]
 refine go ?_; decreasing_tactic
 refine ⟨by decide, ?_⟩
 refine go ?_; array_mem_dec
 refine ⟨rfl, _, rfl, by omega, by omega, fun c c0 c1 => ?_⟩
 array_mem_dec
 refine ⟨⟨by omega, by omega⟩, fun r ρ => ∃ (ws : List Wy) (z6 z7 z8 : Sl), ρ = [Sl.hd, Sl.sh (.int (pl : Nat)), Sl.sh (.int (wn : Nat)), Sl.sh (.int sc), Sl.sh (.int (m : Nat)), Sl.ow (ws.map wayD), z6, z7, z8] ∧ r.length + ws.length ≤ wn ∧ ∀ w ∈ ws, WyB m w, ⟨[], _, _, _, rfl, by unfold rngD; simp; omega, fun w hw => nomatch hw⟩, ?_, ?_⟩
 ·rintro x r ρ ⟨ws, z6, z7, z8, rfl, hl2, hw⟩
  sizeOf_list_dec
  refine ⟨rfl, _, rfl, by omega, by omega, fun a a0 a1 => ?_⟩
  refine go ?_; decreasing_tactic
  refine ⟨rfl, _, rfl, by omega, by omega, fun b b0 b1 => ?_⟩
  refine go ?_
  unfold dSeqG
  obtain ⟨a', rfl, ha⟩ := toNat_lt a0 a1
  obtain ⟨b', rfl, hb⟩ := toNat_lt b0 b1
  refine ⟨fun ρ => ∃ e : Nat, e < m ∧ ρ = [Sl.hd, Sl.sh (.int (pl : Nat)), Sl.sh (.int (wn : Nat)), Sl.sh (.int sc), Sl.sh (.int (m : Nat)), Sl.ow (ws.map wayD), Sl.sh x, Sl.sh (.int (a' : Nat)), Sl.sh (.int (e : Nat))], ?_, ?_⟩
  ·decreasing_tactic
   refine ⟨rfl, _, rfl, by decide, by decide, fun u u0 u1 => ?_⟩
   decreasing_tactic
   refine ⟨rfl, rfl, min0 _ _, ?_⟩
   rw [eqv_int]
   cases (u == 0) with
   | true =>
    decreasing_tactic
    refine ⟨by omega, ?_⟩
    obtain ⟨e, he, hem⟩ := toNat_lt (r := (((a' : Nat) : Int) + 1) % ((m : Nat) : Int)) (m := m) (Int.emod_nonneg _ (by omega)) (Int.emod_lt_of_pos _ (by omega))
    rw [he]
    exact ⟨e, hem, rfl⟩
   | false =>
    decreasing_tactic
    exact ⟨b', hb, rfl⟩
  ·rintro ρ ⟨e, he, rfl⟩
   refine go ?_; decreasing_tactic
   refine ⟨rfl, by show 3 ≤ 1000; decide, rfl, _, rfl, by decide, by decide, fun u u0 u1 => ?_⟩
   decreasing_tactic
   obtain ⟨sc', hsc, hs0, hs1⟩ : ∃ sc' : Int, atI [PyData.int sc, .int sc, .int 1] u = some (.int sc') ∧ 0 ≤ sc' ∧ sc' ≤ 1000000000000000000 := by
    have hu : u = 0 ∨ u = 1 ∨ u = 2 := by omega
    rcases hu with rfl | rfl | rfl
    ·exact ⟨sc, rfl, by omega, s1⟩
    ·exact ⟨sc, rfl, by omega, s1⟩
    ·exact ⟨1, rfl, by decide, by decide⟩
   rw [hsc]
   decreasing_tactic
   refine ⟨_, sc', rfl, hs0, hs1, fun v v0 v1 => ?_⟩
   decreasing_tactic
   refine ⟨by decide, by rw [List.length_map]; simp at hl2; omega, ws ++ [(a', e, v)], _, _, _, by rw [List.map_append]; rfl, by simp at hl2 ⊢; omega, fun w hw' => ?_⟩
   rcases List.mem_append.mp hw' with z | z
   ·exact hw w z
   ·have : w = (a', e, v) := by simpa using z
    subst this
    exact ⟨ha, he, show -1000000000000000000 ≤ v by omega, show v ≤ 1000000000000000000 by omega⟩
 ·rintro ρ ⟨ws, z6, z7, z8, rfl, hl2, hw⟩
  refine go ?_; decreasing_tactic
  refine ⟨by decide, ?_⟩
  exact q m ws m1.2.2 (by simp at hl2; omega) ⟨m1.1, m1.2.1, by simp at hl2; omega, fun w h => (hw w h).1, fun w h => (hw w h).2.1, fun w h => (hw w h).2.2.1, fun w h => (hw w h).2.2.2⟩
end
def Prs (m : Nat) (B : Int) (pr : List (Option Int)) : Prop := pr.length = m ∧ ∀ p c, gt pr p = some c → 0 ≤ c ∧ c ≤ B
def spPricesD : DSp := fun ds Q => ∃ (d : PyData) (m : Nat), ds = [d, .int ((m : Nat) : Int)] ∧ m ≤ 60 ∧ ∀ pr, Prs m 1000000000000000000 pr → Q (.list (tabL pr))
def spMarketB : DSp := fun ds Q => ∃ (d : PyData) (pl wn mo : Nat), ds = [d, .int ((pl : Nat) : Int), .int ((wn : Nat) : Int), .int ((mo : Nat) : Int)] ∧ 1 ≤ pl ∧ pl ≤ 12 ∧ wn ≤ 40 ∧ mo ≤ 90 ∧ ∀ m n ws pr, m ≤ pl → ws.length ≤ wn → LandOk m ws → 1 ≤ n → n ≤ mo + 1 → Prs m 1000000000000000000 pr → Q (.tuple [landD m ws, .int (((n : Nat) : Int) - 1), .list (tabL pr)])
theorem prs_snoc {m : Nat} {B : Int} {pr : List (Option Int)} {o : Option Int} (h : Prs m B pr) (ho : ∀ c, o = some c → 0 ≤ c ∧ c ≤ B) : Prs (m + 1) B (pr ++ [o]) := by
 refine ⟨by rw [List.length_append, h.1]; rfl, fun p c e => ?_⟩
 unfold gt at e
 by_cases q : p < pr.length
 ·rw [List.getElem?_append_left q] at e
  exact h.2 p c e
 ·rw [List.getElem?_append_right (by omega)] at e
  cases z : p - pr.length with
  | zero => rw [z] at e; exact ho c e
  | succ k => rw [z] at e; simp at e
section
variable {P : Program} {w : World} {K : PySem.W.Frag} {mg : Str → Option Value} {base : Heap}
theorem ok_prices (T : Txt K mg) : FnOk P w K mg base CX0 4 T.a_prices T.d_prices ["_law_hand_here", "_law_many"] (spD [.hd, .sh] spPricesD) := by
 have G_draw := @ok_drawD P w K mg base T
 have b_draw := bd_draw T
 refine fn_d T.F_prices sc_prices rfl (fun C cdv A outer s H E hr => ⟨_, (@dss_consG _ _ _ _ _ _ (@ds_set _ _ _ _ _ (@ps_set _ _ 2 _ _ _ _ sc_prices.nd rfl (Or.inl rfl) (pd_ix (pd_f (pf_lst (dv_cons pd_int (dv_cons pd_int (dv_cons pd_int (dv_cons (pd_op op_pow ok_pow pd_int pd_int) dv_nil se_BinOp) se_Constant) se_Constant) se_Constant))) (pd_call (pe_call G_draw (hr.mono (by decide)) rfl T.mg_draw T.kp_draw b_draw .nil pass0 (da_s (pv 0) (da_v pd_int da_nil se_Constant) se_Name) (he := se_Name) (hpl := (np_cons se_Constant np_nil)))) (fun _ _ => rfl)) (by rfl) (by first | exact .inl rfl | exact .inr rfl | assumption))) (@dss_consG _ _ _ _ _ _ (ds_set (ps_set (i := 3) sc_prices.nd rfl (Or.inl rfl) (pd_op op_add ok_add pd_int (pd_call (pe_call G_draw (hr.mono (by decide)) rfl T.mg_draw T.kp_draw b_draw .nil pass0 (da_s (pv 0) (da_v pd_int da_nil se_Constant) se_Name) (he := se_Name) (hpl := (np_cons se_Constant np_nil))))))) (@dss_consG _ _ _ _ _ _ (ds_own (ps_set (i := 4) sc_prices.nd rfl (Or.inl rfl) (pf_lst dv_nil))) (@dss_consG _ _ _ _ _ _ (@ds_for _ _ _ _ _ _ (@ps_for _ _ _ _ _ _ _ _ PassesOwn.never rfl (di_rng1 (pi_range1 rfl T.n_range (dv_cons (pd_var (pv 1)) dv_nil se_Name))) (dg_name (pg_name (i := 5) sc_prices.nd rfl (Or.inl rfl))) (@dss_consG _ _ _ _ _ _ (ds_set (ps_set (i := 6) sc_prices.nd rfl (Or.inl rfl) (pd_call (pe_call G_draw (hr.mono (by decide)) rfl T.mg_draw T.kp_draw b_draw .nil pass0 (da_s (pv 0) (da_v (pd_op op_add ok_add (pd_var (pv 2)) pd_int) da_nil se_BinOp) se_Name) (he := se_Name) (hpl := (np_cons se_BinOp np_nil)))))) (@dss_consG _ _ _ _ _ _ (ds_mid (ds_if (pdt_cmp op_gt ok_gt (pd_call (pe_call G_draw (hr.mono (by decide)) rfl T.mg_draw T.kp_draw b_draw .nil pass0 (da_s (pv 0) (da_v (pd_var (pv 3)) da_nil se_Name) se_Name) (he := se_Name) (hpl := (np_cons se_Name np_nil)))) pd_int (nomark _))
   (dss_one (ds_set (ps_set (i := 6) sc_prices.nd rfl (Or.inl rfl) pd_non)))
   dss_nil)) (dss_one (ds_app (ps_expr (pe_bm PySem.F.plainAttrs_list PySem.F.slot_list_append PySem.F.type_list_append mt_append (pv 4) (pa_cons (pd_var (pv 6)) pa_nil se_Name))))))) (by intro _; rfl))) (dss_one (ds_ret (pd_var (pv 4)))))))), fun ds Q hl h => ?_⟩)
 obtain ⟨d, m, rfl, m2, q⟩ := h
 decreasing_tactic
 refine ⟨⟨by decide, by decide, by decide⟩, by decide, rfl, 4, rfl, by decide, by decide, fun r r0 r1 => ?_⟩
 decreasing_tactic
 obtain ⟨top, ht, t0, t1⟩ : ∃ top : Int, atI [PyData.int 1, .int 3, .int 9, .int (10 ^ Int.toNat 18)] r = some (.int top) ∧ 0 ≤ top ∧ top ≤ 1000000000000000000 := by
  have hr' : r = 0 ∨ r = 1 ∨ r = 2 ∨ r = 3 := by omega
  rcases hr' with rfl | rfl | rfl | rfl
  ·exact ⟨1, rfl, by decide, by decide⟩
  ·exact ⟨3, rfl, by decide, by decide⟩
  ·exact ⟨9, rfl, by decide, by decide⟩
  ·exact ⟨_, rfl, by decide, by decide⟩
 rw [ht]
 decreasing_tactic
 refine go ?_; decreasing_tactic
 refine ⟨rfl, 3, rfl, by decide, by decide, fun u u0 u1 => ?_⟩
 refine go ?_; decreasing_tactic
 refine ⟨by decide, ?_⟩
 refine go ?_; array_mem_dec
 rw [show ((m : Nat) : Int).toNat = m by simp]
 refine ⟨⟨by omega, by omega⟩, ?_⟩
 refine ⟨fun r ρ => ∃ (k : Nat) (pr : List (Option Int)) (z5 z6 : Sl), r = (rngD 0 m).drop k ∧ ρ = [Sl.hd, Sl.sh (.int ((m : Nat) : Int)), Sl.sh (.int top), Sl.sh (.int (1 + u)), Sl.ow (tabL pr), z5, z6] ∧ Prs k 1000000000000000000 pr ∧ k ≤ m, ⟨0, [], _, _, rfl, rfl, ⟨rfl, fun p c e => by rw [gt_out (Nat.zero_le _)] at e; cases e⟩, Nat.zero_le _⟩, ?_, ?_⟩
 ·rintro x r ρ ⟨k, pr, z5, z6, h1, rfl, hp, hk0⟩
  obtain ⟨rfl, rfl, hk⟩ := rng_cons' h1
  have hl := hp.1
  try dsimp only [Blk]
  decreasing_tactic
  refine ⟨rfl, _, rfl, by omega, by omega, fun c c0 c1 => ?_⟩
  refine go ?_
  (try unfold dSeqG); (try unfold dMid)
  refine ⟨fun ρ' => ∃ (o : Option Int) (z5 : Sl), ρ' = [Sl.hd, Sl.sh (.int ((m : Nat) : Int)), Sl.sh (.int top), Sl.sh (.int (1 + u)), Sl.ow (tabL pr), z5, Sl.sh (oD o)] ∧ ∀ c, o = some c → 0 ≤ c ∧ c ≤ 1000000000000000000, ?_, ?_⟩
  ·decreasing_tactic
   refine ⟨rfl, _, rfl, by omega, by omega, fun v v0 v1 => ?_⟩
   decreasing_tactic
   cases decide (0 < v) with
   | true =>
    decreasing_tactic
    exact ⟨none, _, rfl, fun c e => by cases e⟩
   | false =>
    decreasing_tactic
    exact ⟨some c, _, rfl, fun c' e => by cases e; exact ⟨c0, by omega⟩⟩
  rintro ρ ⟨o, z5, rfl, ho⟩
  try dsimp only
  refine go ?_
  decreasing_tactic
  rw [show tabL pr ++ [oD o] = tabL (pr ++ [o]) from by unfold tabL; rw [List.map_append]; rfl]
  exact ⟨by rw [len_tab]; omega, k + 1, pr ++ [o], _, _, rfl, rfl, prs_snoc hp ho, hk⟩
 ·rintro ρ ⟨k, pr, z5, z6, h1, rfl, hp, hk0⟩
  have := rng_nil' h1
  have e : k = m := by omega
  rw [e] at hp
  refine go ?_
  decreasing_tactic
  exact q pr hp
end
section
variable {P : Program} {w : World} {K : PySem.W.Frag} {mg : Str → Option Value} {base : Heap}
theorem ok_market (T : Txt K mg) : FnOk P w K mg base CX0 6 T.a_market T.d_market ["_law_hand_here", "_law_places", "_law_ways", "_law_most"] (spD [.hd, .sh, .sh, .sh] spMarketB) := by
 have G_draw := @ok_drawD P w K mg base T
 have b_draw := bd_draw T
 have G_land := @ok_land P w K mg base T
 have b_land := bd_land T
 have G_prices := @ok_prices P w K mg base T
 have b_prices := bd_prices T
 refine fn_d T.F_market sc_market rfl (fun C cdv A outer s H E hr => ⟨_, (@dss_consG _ _ _ _ _ _ (@ds_set _ _ _ _ _ (@ps_set _ _ 4 _ _ _ _ sc_market.nd rfl (Or.inl rfl) (@pd_ix _ _ _ _ _ _ _ (pd_f (pf_lst (dv_cons pd_int (dv_cons pd_int (dv_cons pd_int (dv_cons pd_int (dv_cons pd_int (dv_cons (pd_op op_pow ok_pow pd_int pd_int) dv_nil se_BinOp) se_Constant) se_Constant) se_Constant) se_Constant) se_Constant))) (pd_call (pe_call G_draw (hr.mono (by decide)) rfl T.mg_draw T.kp_draw b_draw .nil pass0 (da_s (pv 0) (da_v pd_int da_nil se_Constant) se_Name) (he := se_Name) (hpl := (np_cons se_Constant np_nil)))) (fun _ _ => rfl)) (by rfl) (by first | exact .inl rfl | exact .inr rfl | assumption))) (@dss_consG _ _ _ _ _ _ (ds_set (ps_set (i := 5) sc_market.nd rfl (Or.inl rfl) (pd_call (pe_call G_land (hr.mono (by decide)) rfl T.mg_land T.kp_land b_land .nil pass0 (da_s (pv 0) (da_v (pd_var (pv 1)) (da_v (pd_var (pv 2)) (da_v (pd_var (pv 4)) da_nil se_Name) se_Name) se_Name) se_Name) (he := se_Name) (hpl := (np_cons se_Name (np_cons se_Name (np_cons se_Name np_nil)))))))) (@dss_consG _ _ _ _ _ _ (@ds_set _ _ _ _ _ (@ps_set _ _ 6 _ _ _ _ sc_market.nd rfl (Or.inl rfl) (@pd_ix _ _ _ _ _ _ _ (pd_f (pf_lst (dv_cons (pd_var (pv 3)) (dv_cons (pd_call (pe_call G_draw (hr.mono (by decide)) rfl T.mg_draw T.kp_draw b_draw .nil pass0 (da_s (pv 0) (da_v (pd_op op_add ok_add (pd_var (pv 3)) pd_int) da_nil se_BinOp) se_Name) (he := se_Name) (hpl := (np_cons se_BinOp np_nil)))) dv_nil se_Call) se_Name))) (pd_call (pe_call G_draw (hr.mono (by decide)) rfl T.mg_draw T.kp_draw b_draw .nil pass0 (da_s (pv 0) (da_v pd_int da_nil se_Constant) se_Name) (he := se_Name) (hpl := (np_cons se_Constant np_nil)))) (fun _ _ => rfl)) (by rfl) (by first | exact .inl rfl | exact .inr rfl | assumption))) (dss_one (ds_ret (pd_tup (dv_cons (pd_var (pv 5)) (dv_cons (pd_var (pv 6)) (dv_cons (pd_call (pe_call G_prices (hr.mono (by decide)) rfl T.mg_prices T.kp_prices b_prices .nil pass0 (da_s (pv 0) (da_v (pd_ixv (pv 5) pd_int (fun _ _ => rfl)) da_nil se_Subscript) se_Name) (he := se_Name) (hpl := (np_cons se_Subscript np_nil)))) dv_nil se_Call) se_Name) se_Name))))))), fun ds Q hl h => ?_⟩)
 obtain ⟨d, pl, wn, mo, rfl, p1, p2, w2, o2, q⟩ := h
 decreasing_tactic
 refine ⟨⟨by decide, by decide, by decide⟩, by decide, rfl, 6, rfl, by decide, by decide, fun r r0 r1 => ?_⟩
 decreasing_tactic
 obtain ⟨sc, hs, c0, c1⟩ : ∃ sc : Int, atI [PyData.int 1, .int 3, .int 3, .int 9, .int 30, .int (10 ^ Int.toNat 18)] r = some (.int sc) ∧ 1 ≤ sc ∧ sc ≤ 1000000000000000000 := by
  have hr' : r = 0 ∨ r = 1 ∨ r = 2 ∨ r = 3 ∨ r = 4 ∨ r = 5 := by omega
  rcases hr' with rfl | rfl | rfl | rfl | rfl | rfl
  ·exact ⟨1, rfl, by decide, by decide⟩
  ·exact ⟨3, rfl, by decide, by decide⟩
  ·exact ⟨3, rfl, by decide, by decide⟩
  ·exact ⟨9, rfl, by decide, by decide⟩
  ·exact ⟨30, rfl, by decide, by decide⟩
  ·exact ⟨_, rfl, by decide, by decide⟩
 rw [hs]
 decreasing_tactic
 refine go ?_; decreasing_tactic
 refine ⟨rfl, _, pl, wn, sc, rfl, p1, p2, w2, c0, c1, fun m ws mp wp ok => ?_⟩
 refine go ?_; decreasing_tactic
 refine ⟨rfl, _, rfl, by omega, by omega, fun x x0 x1 => ?_⟩
 decreasing_tactic
 refine ⟨by decide, rfl, 2, rfl, by decide, by decide, fun y y0 y1 => ?_⟩
 decreasing_tactic
 obtain ⟨n, hn, n1, n2⟩ : ∃ n : Nat, atI [PyData.int ((mo : Nat) : Int), .int x] y = some (.int (((n : Nat) : Int) - 1)) ∧ 1 ≤ n ∧ n ≤ mo + 1 := by
  rcases lt2 y0 y1 with rfl | rfl
  ·exact ⟨mo + 1, by rw [a2_0]; congr 2; omega, by omega, by omega⟩
  ·exact ⟨x.toNat + 1, by rw [a2_1]; congr 2; omega, by omega, by omega⟩
 rw [hn]
 decreasing_tactic
 refine go ?_; decreasing_trivial
 have m2 := ok.m2
 refine ⟨rfl, _, m, rfl, by omega, fun pr hp => ?_⟩
 decreasing_tactic
 exact ⟨by show 3 ≤ 1000; decide, q m n ws pr mp wp ok n1 n2 hp⟩
end
def spLaw (K : PySem.W.Frag) : Sp := fun vs H Q _ => ∃ (a : Addr) (ns : List Int), vs = [.ref a] ∧ SqL K H a (ns.map V.int) ∧ ns.length ≤ 63 ∧ ∀ H', Q (.bl true) H'
theorem lls_at {m n : Nat} {t : Ct} {p : Nat} (h : CtOk m n t) (hp : p < m) : atI (lls (rowsC t)) ((p : Nat) : Int) = some (.list (tabL (t.getD p []))) := atI_map (rows_at h hp)
section
variable {P : Program} {w : World} {K : PySem.W.Frag} {mg : Str → Option Value} {base : Heap}
theorem ok_law (T : Txt K mg) : FnOk P w K mg base CX0 10 T.a_law T.d_law ["_law_script"] (spLaw K) := by
 have G_hand : FnOk P w K mg base CX0 1 T.a_hand T.d_hand ["_law_script"] (spHand K) := ok_hand T
 have b_hand := bd_hand T
 have G_market := @ok_market P w K mg base T
 have b_market := bd_market T
 have G_draw := @ok_drawD P w K mg base T
 have b_draw := bd_draw T
 have G_costs := @ok_costs P w K mg base T
 have b_costs := bd_costs T
 have G_right := @ok_right P w K mg base T
 have b_right := bd_right T
 refine T.F_law.ok sc_law (fun vs H Q E h => ?_) (fun cdv A outer s H vs Q E hr h => ?_)
 ·obtain ⟨a, ns, rfl, _⟩ := h
  rfl
 ·obtain ⟨a, ns, rfl, hS, hlen, k⟩ := h
  refine ⟨_, (@pss_cons _ _ _ _ _ (ps_set (i := 1) sc_law.nd rfl (Or.inl rfl) (pe_call G_hand (hr.mono (by decide)) rfl T.mg_hand T.kp_hand b_hand .nil pass0 (pa_cons (pv 0) pa_nil se_Name) (he := se_Name) (hpl := np_nil))) (@pss_exC _ _ _ (fun C => (@dss_consG _ _ _ _ _ _ (@ds_asg _ _ _ _ _ (@ps_asg _ _ _ _ _ _ (pd_call (pe_call G_market (hr.mono (by decide)) rfl T.mg_market T.kp_market b_market .nil pass0 (da_s (pv 1) (da_v pd_int (da_v pd_int (da_v pd_int da_nil se_Constant) se_Constant) se_Constant) se_Name) (he := se_Name) (hpl := (np_cons se_Constant (np_cons se_Constant (np_cons se_Constant np_nil)))))) (dg_t3 (pg_tup (n := 3) rfl (pgs_cons (pg_name (i := 2) sc_law.nd rfl (Or.inl rfl)) (pgs_cons (pg_name (i := 3) sc_law.nd rfl (Or.inl rfl)) (pgs_cons (pg_name (i := 4) sc_law.nd rfl (Or.inl rfl)) pgs_nil))))) (by rfl) (by rfl) (by rfl))) (@dss_consG _ _ _ _ _ _ (@ds_set _ _ _ _ _ (@ps_set _ _ 5 _ _ _ _ sc_law.nd rfl (Or.inl rfl) (@pd_tup _ _ _ _ _ _ (@dv_cons _ _ _ _ _ _ (pd_call (pe_call G_draw (hr.mono (by decide)) rfl T.mg_draw T.kp_draw b_draw .nil pass0 (da_s (pv 1) (da_v (pd_ixv (pv 2) pd_int (fun _ _ => rfl)) da_nil se_Subscript) se_Name) (he := se_Name) (hpl := (np_cons se_Subscript np_nil)))) (@dv_cons _ _ _ _ _ _ (@pd_ix _ _ _ _ _ _ _ (pd_f (pf_lst (dv_cons pd_int (dv_cons (pd_var (pv 3)) (dv_cons (pd_call (pe_call G_draw (hr.mono (by decide)) rfl T.mg_draw T.kp_draw b_draw .nil pass0 (da_s (pv 1) (da_v (pd_op op_add ok_add (pd_var (pv 3)) pd_int) da_nil se_BinOp) se_Name) (he := se_Name) (hpl := (np_cons se_BinOp np_nil)))) dv_nil se_Call) se_Name) se_Constant))) (pd_call (pe_call G_draw (hr.mono (by decide)) rfl T.mg_draw T.kp_draw b_draw .nil pass0 (da_s (pv 1) (da_v pd_int da_nil se_Constant) se_Name) (he := se_Name) (hpl := (np_cons se_Constant np_nil)))) (fun _ _ => rfl)) dv_nil se_Subscript) se_Call)) (by rfl) (by first | exact .inl rfl | exact .inr rfl | assumption))) (@dss_consG _ _ _ _ _ _ (ds_set (ps_set (i := 6) sc_law.nd rfl (Or.inl rfl) (pd_call (pe_call G_costs (hr.mono (by decide)) rfl T.mg_costs T.kp_costs b_costs .nil pass0 (da_v (pd_var (pv 2)) (da_v (pd_var (pv 3)) (da_v (pd_var (pv 4)) (da_v (pd_var (pv 5)) da_nil se_Name) se_Name) se_Name) se_Name) (he := se_Name) (hpl := (np_cons se_Name (np_cons se_Name (np_cons se_Name np_nil)))))))) (@dss_consG _ _ _ _ _ _ (@ds_mid _ _ _ _ (@ds_for _ _ _ _ _ _ (@ps_for _ _ _ _ _ _ _ _ PassesOwn.never rfl (di_rng1 (pi_range1 rfl T.n_range (dv_cons pd_int dv_nil se_Constant))) (dg_name (pg_name (i := 7) sc_law.nd rfl (Or.inl rfl))) (@dss_consG _ _ _ _ _ _ (ds_set (ps_set (i := 8) sc_law.nd rfl (Or.inl rfl) (pd_call (pe_call G_draw (hr.mono (by decide)) rfl T.mg_draw T.kp_draw b_draw .nil pass0 (da_s (pv 1) (da_v (pd_ixv (pv 2) pd_int (fun _ _ => rfl)) da_nil se_Subscript) se_Name) (he := se_Name) (hpl := (np_cons se_Subscript np_nil)))))) (@dss_consG _ _ _ _ _ _ (ds_set (ps_set (i := 9) sc_law.nd rfl (Or.inl rfl) (pd_call (pe_call G_draw (hr.mono (by decide)) rfl T.mg_draw T.kp_draw b_draw .nil pass0 (da_s (pv 1) (da_v (pd_op op_add ok_add (pd_var (pv 3)) pd_int) da_nil se_BinOp) se_Name) (he := se_Name) (hpl := (np_cons se_BinOp np_nil)))))) (@dss_one _ _ _ _ (@ds_if _ _ _ _ _ _ _ _ _ (@pdt_not _ _ _ _ _ (@pdt_val _ _ _ _ (@pd_call _ _ _ _ _ _ _ (@pe_call _ _ _ _ _ _ _ _ _ _ _ _ _ _ _ _ G_right (hr.mono (by decide)) rfl T.mg_right T.kp_right b_right .nil pass0 (da_v (pd_var (pv 2)) (da_v (pd_var (pv 3)) (da_v (pd_var (pv 4)) (da_v (pd_tup (dv_cons (pd_var (pv 8)) (dv_cons (pd_var (pv 9)) dv_nil se_Name) se_Name)) (da_v (pd_var (pv 5)) (da_v (pd_ix (pd_ixv (pv 6) (pd_var (pv 8)) (fun _ _ => rfl)) (pd_var (pv 9)) (fun _ _ => rfl)) da_nil se_Subscript) se_Name) se_Tuple) se_Name) se_Name) se_Name) (by decide) se_Name ((np_cons se_Name (np_cons se_Name (np_cons se_Tuple (np_cons se_Name (np_cons se_Subscript np_nil)))))))) (by intro _; rfl))) (dss_one (ds_ret pd_bl)) dss_nil)))) (by intro _; rfl)))) (@dss_one _ _ _ _ (@ds_ret _ _ _ _ _ (pd_call (pe_call G_right (hr.mono (by decide)) rfl T.mg_right T.kp_right b_right .nil pass0 (da_v (pd_var (pv 2)) (da_v (pd_var (pv 3)) (da_v (pd_var (pv 4)) (da_v (pd_var (pv 5)) (da_v (pd_var (pv 5)) (da_v pd_int da_nil se_Constant) se_Name) se_Name) se_Name) se_Name) se_Name) (he := se_Name) (hpl := (np_cons se_Name (np_cons se_Name (np_cons se_Name (np_cons se_Name (np_cons se_Constant np_nil))))))))))))))))), ?_⟩
  refine ⟨_, rfl, a, ns, rfl, hS, fun hd hl H1 _ _ d1 _ => ?_⟩
  refine law_start (k := 8) d1 k ?_
  simp only [List.replicate_succ, List.replicate_zero]
  clear k
  decreasing_tactic
  refine ⟨rfl, _, 4, 8, 12, rfl, by omega, by omega, by omega, by omega, fun m n ws pr mp wp ok n1 n2 hpr => ?_⟩
  have m1 := ok.m1
  have m2 := ok.m2
  have few := ok.few
  have n3 : n ≤ 100 := by omega
  have mn : m * n ≤ 900 := Nat.le_trans (Nat.mul_le_mul mp n2) (by decide)
  refine go ?_; decreasing_trivial
  refine ⟨rfl, _, rfl, by omega, by omega, fun a a0 a1 => ?_⟩
  obtain ⟨gp, rfl, hgp⟩ := toNat_lt a0 a1
  refine ⟨rfl, _, rfl, by omega, by omega, fun c c0 c1 => ?_⟩
  refine ⟨by show 3 ≤ 1000; decide, rfl, 3, rfl, by decide, by decide, fun u u0 u1 => ?_⟩
  decreasing_trivial
  obtain ⟨gl, hgl, hgn⟩ : ∃ gl : Nat, atI [PyData.int 0, .int (((n : Nat) : Int) - 1), .int c] u = some (.int ((gl : Nat) : Int)) ∧ gl < n := by
   have hu : u = 0 ∨ u = 1 ∨ u = 2 := by omega
   rcases hu with rfl | rfl | rfl
   ·exact ⟨0, rfl, by omega⟩
   ·exact ⟨n - 1, by rw [show ((n - 1 : Nat) : Int) = ((n : Nat) : Int) - 1 by omega]; rfl, by omega⟩
   ·exact ⟨c.toNat, by rw [show ((c.toNat : Nat) : Int) = c by omega]; rfl, by omega⟩
  rw [hgl]
  decreasing_trivial
  refine ⟨by show 2 ≤ 1000; decide, ?_⟩
  have M : Mkt m n 1000000000000000000 ws pr (gp, gl) := ⟨n1, n3, by omega, by omega, by rw [hpr.1]; omega, fun w hw => ⟨ok.st w hw, ok.en w hw⟩, fun p c e => ⟨by rw [← hpr.1]; exact gt_lt e, hpr.2 p c e⟩, hgp, hgn⟩
  refine go ?_; decreasing_trivial
  refine ⟨m, n, _, ws, pr, (gp, gl), rfl, M, mn, hpr.1, fun t hB => ?_⟩
  refine go ?_
  (try unfold dSeqG); (try unfold dMid)
  refine ⟨fun ρ' => ∃ z7 z8 z9 : Sl, ρ' = [Sl.no, Sl.hd, Sl.sh (landD m ws), Sl.sh (.int (((n : Nat) : Int) - 1)), Sl.sh (.list (tabL pr)), Sl.sh (sptD (gp, gl)), Sl.sh (.list (lls (rowsC t))), z7, z8, z9], ?_, ?_⟩
  ·array_get_dec
   refine ⟨⟨by decide, by decide⟩, ?_⟩
   refine ⟨fun r ρ => ∃ z7 z8 z9 : Sl, ρ = [Sl.no, Sl.hd, Sl.sh (landD m ws), Sl.sh (.int (((n : Nat) : Int) - 1)), Sl.sh (.list (tabL pr)), Sl.sh (sptD (gp, gl)), Sl.sh (.list (lls (rowsC t))), z7, z8, z9], ⟨_, _, _, rfl⟩, ?_, ?_⟩
   ·rintro x r ρ ⟨z7, z8, z9, rfl⟩
    unfold landD
    sizeOf_list_dec
    refine ⟨rfl, _, rfl, by omega, by omega, fun a a0 a1 => ?_⟩
    obtain ⟨bp, rfl, hbp⟩ := toNat_lt a0 a1
    refine go ?_; decreasing_trivial
    refine ⟨rfl, _, rfl, by omega, by omega, fun c c0 c1 => ?_⟩
    obtain ⟨bl, rfl, hbl⟩ : ∃ bl : Nat, c = ((bl : Nat) : Int) ∧ bl < n := ⟨c.toNat, by omega, by omega⟩
    refine go ?_; decreasing_trivial
    refine ⟨by decide, ?_⟩
    rw [lls_at hB.ok hbp]
    decreasing_trivial
    rw [tab_at (by rw [row_len hB.ok hbp]; exact hbl)]
    refine ⟨m, n, _, ws, pr, (bp, bl), (gp, gl), t, rfl, M, mn, hbp, hbl, hB, ?_⟩
    decreasing_trivial
    rw [if_neg (by decide)]
    exact ⟨_, _, _, rfl⟩
   ·rintro ρ ⟨z7, z8, z9, rfl⟩
    exact ⟨_, _, _, rfl⟩
  rintro ρ ⟨z7, z8, z9, rfl⟩
  try dsimp only
  refine go ?_; decreasing_trivial
  refine ⟨m, n, _, ws, pr, (gp, gl), (gp, gl), t, ?_, M, mn, hgp, hgn, hB, rfl⟩
  rw [hB.fl.at0 gl (Nat.le_refl _) hgn]
  rfl
end
section
variable {P : Program} {w : World} {K : PySem.W.Frag} {mg : Str → Option Value} {base : Heap}
theorem all_mk {l : PySem.W.OpenLaw} {w : World} {K : PySem.W.Frag} {h : Heap} {mg : Str → Option Value} {fa : Addr} (X : K.In h) (G : h.Ns mainGlobals mg) (hfa : mg "law" = some (.ref fa))
  {f0 : Addr} {od0 an0 : Option Addr} {sl0 : Array (Option Value)} {oc0 kV0 dc0 pm0 cd0 ct0 : Value} (a0 : PySem.W.nsIn K mainGlobals "is_whole" = some (some (.ref f0))) (l0 : K.lookup f0 = some ⟨oc0, od0, .func (PySem.W.fnOf "is_whole" "is_whole" (defArgs s_is_whole) (defBody s_is_whole) (defScope s_is_whole) .none kV0 dc0 pm0 an0 cd0 ct0), sl0⟩) (c0 : PySem.W.codeIn K cd0 "is_whole" = true) (k0 : PySem.W.keepIn K (.ref f0) = true)
  {f1 : Addr} {od1 an1 : Option Addr} {sl1 : Array (Option Value)} {oc1 kV1 dc1 pm1 cd1 ct1 : Value} (a1 : PySem.W.nsIn K mainGlobals "stepped" = some (some (.ref f1))) (l1 : K.lookup f1 = some ⟨oc1, od1, .func (PySem.W.fnOf "stepped" "stepped" (defArgs s_stepped) (defBody s_stepped) (defScope s_stepped) .none kV1 dc1 pm1 an1 cd1 ct1), sl1⟩) (c1 : PySem.W.codeIn K cd1 "stepped" = true) (k1 : PySem.W.keepIn K (.ref f1) = true)
  {f2 : Addr} {od2 an2 : Option Addr} {sl2 : Array (Option Value)} {oc2 kV2 dc2 pm2 cd2 ct2 : Value} (a2 : PySem.W.nsIn K mainGlobals "is_place" = some (some (.ref f2))) (l2 : K.lookup f2 = some ⟨oc2, od2, .func (PySem.W.fnOf "is_place" "is_place" (defArgs s_is_place) (defBody s_is_place) (defScope s_is_place) .none kV2 dc2 pm2 an2 cd2 ct2), sl2⟩) (c2 : PySem.W.codeIn K cd2 "is_place" = true) (k2 : PySem.W.keepIn K (.ref f2) = true)
  {f3 : Addr} {od3 an3 : Option Addr} {sl3 : Array (Option Value)} {oc3 kV3 dc3 pm3 cd3 ct3 : Value} (a3 : PySem.W.nsIn K mainGlobals "is_within" = some (some (.ref f3))) (l3 : K.lookup f3 = some ⟨oc3, od3, .func (PySem.W.fnOf "is_within" "is_within" (defArgs s_is_within) (defBody s_is_within) (defScope s_is_within) .none kV3 dc3 pm3 an3 cd3 ct3), sl3⟩) (c3 : PySem.W.codeIn K cd3 "is_within" = true) (k3 : PySem.W.keepIn K (.ref f3) = true)
  {f4 : Addr} {od4 an4 : Option Addr} {sl4 : Array (Option Value)} {oc4 kV4 dc4 pm4 cd4 ct4 : Value} (a4 : PySem.W.nsIn K mainGlobals "moves_by_way" = some (some (.ref f4))) (l4 : K.lookup f4 = some ⟨oc4, od4, .func (PySem.W.fnOf "moves_by_way" "moves_by_way" (defArgs s_moves_by_way) (defBody s_moves_by_way) (defScope s_moves_by_way) .none kV4 dc4 pm4 an4 cd4 ct4), sl4⟩) (c4 : PySem.W.codeIn K cd4 "moves_by_way" = true) (k4 : PySem.W.keepIn K (.ref f4) = true)
  {f5 : Addr} {od5 an5 : Option Addr} {sl5 : Array (Option Value)} {oc5 kV5 dc5 pm5 cd5 ct5 : Value} (a5 : PySem.W.nsIn K mainGlobals "moves_by_price" = some (some (.ref f5))) (l5 : K.lookup f5 = some ⟨oc5, od5, .func (PySem.W.fnOf "moves_by_price" "moves_by_price" (defArgs s_moves_by_price) (defBody s_moves_by_price) (defScope s_moves_by_price) .none kV5 dc5 pm5 an5 cd5 ct5), sl5⟩) (c5 : PySem.W.codeIn K cd5 "moves_by_price" = true) (k5 : PySem.W.keepIn K (.ref f5) = true)
  {f6 : Addr} {od6 an6 : Option Addr} {sl6 : Array (Option Value)} {oc6 kV6 dc6 pm6 cd6 ct6 : Value} (a6 : PySem.W.nsIn K mainGlobals "all_moves" = some (some (.ref f6))) (l6 : K.lookup f6 = some ⟨oc6, od6, .func (PySem.W.fnOf "all_moves" "all_moves" (defArgs s_all_moves) (defBody s_all_moves) (defScope s_all_moves) .none kV6 dc6 pm6 an6 cd6 ct6), sl6⟩) (c6 : PySem.W.codeIn K cd6 "all_moves" = true) (k6 : PySem.W.keepIn K (.ref f6) = true)
  {f7 : Addr} {od7 an7 : Option Addr} {sl7 : Array (Option Value)} {oc7 kV7 dc7 pm7 cd7 ct7 : Value} (a7 : PySem.W.nsIn K mainGlobals "cost_at" = some (some (.ref f7))) (l7 : K.lookup f7 = some ⟨oc7, od7, .func (PySem.W.fnOf "cost_at" "cost_at" (defArgs s_cost_at) (defBody s_cost_at) (defScope s_cost_at) .none kV7 dc7 pm7 an7 cd7 ct7), sl7⟩) (c7 : PySem.W.codeIn K cd7 "cost_at" = true) (k7 : PySem.W.keepIn K (.ref f7) = true)
  {f8 : Addr} {od8 an8 : Option Addr} {sl8 : Array (Option Value)} {oc8 kV8 dc8 pm8 cd8 ct8 : Value} (a8 : PySem.W.nsIn K mainGlobals "cost_by" = some (some (.ref f8))) (l8 : K.lookup f8 = some ⟨oc8, od8, .func (PySem.W.fnOf "cost_by" "cost_by" (defArgs s_cost_by) (defBody s_cost_by) (defScope s_cost_by) .none kV8 dc8 pm8 an8 cd8 ct8), sl8⟩) (c8 : PySem.W.codeIn K cd8 "cost_by" = true) (k8 : PySem.W.keepIn K (.ref f8) = true)
  {f9 : Addr} {od9 an9 : Option Addr} {sl9 : Array (Option Value)} {oc9 kV9 dc9 pm9 cd9 ct9 : Value} (a9 : PySem.W.nsIn K mainGlobals "costs_at_goal" = some (some (.ref f9))) (l9 : K.lookup f9 = some ⟨oc9, od9, .func (PySem.W.fnOf "costs_at_goal" "costs_at_goal" (defArgs s_costs_at_goal) (defBody s_costs_at_goal) (defScope s_costs_at_goal) .none kV9 dc9 pm9 an9 cd9 ct9), sl9⟩) (c9 : PySem.W.codeIn K cd9 "costs_at_goal" = true) (k9 : PySem.W.keepIn K (.ref f9) = true)
  {f10 : Addr} {od10 an10 : Option Addr} {sl10 : Array (Option Value)} {oc10 kV10 dc10 pm10 cd10 ct10 : Value} (a10 : PySem.W.nsIn K mainGlobals "settled_costs" = some (some (.ref f10))) (l10 : K.lookup f10 = some ⟨oc10, od10, .func (PySem.W.fnOf "settled_costs" "settled_costs" (defArgs s_settled_costs) (defBody s_settled_costs) (defScope s_settled_costs) .none kV10 dc10 pm10 an10 cd10 ct10), sl10⟩) (c10 : PySem.W.codeIn K cd10 "settled_costs" = true) (k10 : PySem.W.keepIn K (.ref f10) = true)
  {f11 : Addr} {od11 an11 : Option Addr} {sl11 : Array (Option Value)} {oc11 kV11 dc11 pm11 cd11 ct11 : Value} (a11 : PySem.W.nsIn K mainGlobals "behind_walking" = some (some (.ref f11))) (l11 : K.lookup f11 = some ⟨oc11, od11, .func (PySem.W.fnOf "behind_walking" "behind_walking" (defArgs s_behind_walking) (defBody s_behind_walking) (defScope s_behind_walking) .none kV11 dc11 pm11 an11 cd11 ct11), sl11⟩) (c11 : PySem.W.codeIn K cd11 "behind_walking" = true) (k11 : PySem.W.keepIn K (.ref f11) = true)
  {f12 : Addr} {od12 an12 : Option Addr} {sl12 : Array (Option Value)} {oc12 kV12 dc12 pm12 cd12 ct12 : Value} (a12 : PySem.W.nsIn K mainGlobals "behind_buying" = some (some (.ref f12))) (l12 : K.lookup f12 = some ⟨oc12, od12, .func (PySem.W.fnOf "behind_buying" "behind_buying" (defArgs s_behind_buying) (defBody s_behind_buying) (defScope s_behind_buying) .none kV12 dc12 pm12 an12 cd12 ct12), sl12⟩) (c12 : PySem.W.codeIn K cd12 "behind_buying" = true) (k12 : PySem.W.keepIn K (.ref f12) = true)
  {f13 : Addr} {od13 an13 : Option Addr} {sl13 : Array (Option Value)} {oc13 kV13 dc13 pm13 cd13 ct13 : Value} (a13 : PySem.W.nsIn K mainGlobals "behind_step" = some (some (.ref f13))) (l13 : K.lookup f13 = some ⟨oc13, od13, .func (PySem.W.fnOf "behind_step" "behind_step" (defArgs s_behind_step) (defBody s_behind_step) (defScope s_behind_step) .none kV13 dc13 pm13 an13 cd13 ct13), sl13⟩) (c13 : PySem.W.codeIn K cd13 "behind_step" = true) (k13 : PySem.W.keepIn K (.ref f13) = true)
  {f14 : Addr} {od14 an14 : Option Addr} {sl14 : Array (Option Value)} {oc14 kV14 dc14 pm14 cd14 ct14 : Value} (a14 : PySem.W.nsIn K mainGlobals "paid" = some (some (.ref f14))) (l14 : K.lookup f14 = some ⟨oc14, od14, .func (PySem.W.fnOf "paid" "paid" (defArgs s_paid) (defBody s_paid) (defScope s_paid) .none kV14 dc14 pm14 an14 cd14 ct14), sl14⟩) (c14 : PySem.W.codeIn K cd14 "paid" = true) (k14 : PySem.W.keepIn K (.ref f14) = true)
  {f15 : Addr} {od15 an15 : Option Addr} {sl15 : Array (Option Value)} {oc15 kV15 dc15 pm15 cd15 ct15 : Value} (a15 : PySem.W.nsIn K mainGlobals "with_step" = some (some (.ref f15))) (l15 : K.lookup f15 = some ⟨oc15, od15, .func (PySem.W.fnOf "with_step" "with_step" (defArgs s_with_step) (defBody s_with_step) (defScope s_with_step) .none kV15 dc15 pm15 an15 cd15 ct15), sl15⟩) (c15 : PySem.W.codeIn K cd15 "with_step" = true) (k15 : PySem.W.keepIn K (.ref f15) = true)
  {f16 : Addr} {od16 an16 : Option Addr} {sl16 : Array (Option Value)} {oc16 kV16 dc16 pm16 cd16 ct16 : Value} (a16 : PySem.W.nsIn K mainGlobals "plan_by" = some (some (.ref f16))) (l16 : K.lookup f16 = some ⟨oc16, od16, .func (PySem.W.fnOf "plan_by" "plan_by" (defArgs s_plan_by) (defBody s_plan_by) (defScope s_plan_by) .none kV16 dc16 pm16 an16 cd16 ct16), sl16⟩) (c16 : PySem.W.codeIn K cd16 "plan_by" = true) (k16 : PySem.W.keepIn K (.ref f16) = true)
  {f17 : Addr} {od17 an17 : Option Addr} {sl17 : Array (Option Value)} {oc17 kV17 dc17 pm17 cd17 ct17 : Value} (a17 : PySem.W.nsIn K mainGlobals "cheapest" = some (some (.ref f17))) (l17 : K.lookup f17 = some ⟨oc17, od17, .func (PySem.W.fnOf "cheapest" "cheapest" (defArgs s_cheapest) (defBody s_cheapest) (defScope s_cheapest) .none kV17 dc17 pm17 an17 cd17 ct17), sl17⟩) (c17 : PySem.W.codeIn K cd17 "cheapest" = true) (k17 : PySem.W.keepIn K (.ref f17) = true)
  {f18 : Addr} {od18 an18 : Option Addr} {sl18 : Array (Option Value)} {oc18 kV18 dc18 pm18 cd18 ct18 : Value} (a18 : PySem.W.nsIn K mainGlobals "_law_hand" = some (some (.ref f18))) (l18 : K.lookup f18 = some ⟨oc18, od18, .func (PySem.W.fnOf "_law_hand" "_law_hand" (defArgs s_hand) (defBody s_hand) (defScope s_hand) .none kV18 dc18 pm18 an18 cd18 ct18), sl18⟩) (c18 : PySem.W.codeIn K cd18 "_law_hand" = true) (k18 : PySem.W.keepIn K (.ref f18) = true)
  {f19 : Addr} {od19 an19 : Option Addr} {sl19 : Array (Option Value)} {oc19 kV19 dc19 pm19 cd19 ct19 : Value} (a19 : PySem.W.nsIn K mainGlobals "_law_next" = some (some (.ref f19))) (l19 : K.lookup f19 = some ⟨oc19, od19, .func (PySem.W.fnOf "_law_next" "_law_next" (defArgs s_next) (defBody s_next) (defScope s_next) .none kV19 dc19 pm19 an19 cd19 ct19), sl19⟩) (c19 : PySem.W.codeIn K cd19 "_law_next" = true) (k19 : PySem.W.keepIn K (.ref f19) = true)
  {f20 : Addr} {od20 an20 : Option Addr} {sl20 : Array (Option Value)} {oc20 kV20 dc20 pm20 cd20 ct20 : Value} (a20 : PySem.W.nsIn K mainGlobals "_law_take" = some (some (.ref f20))) (l20 : K.lookup f20 = some ⟨oc20, od20, .func (PySem.W.fnOf "_law_take" "_law_take" (defArgs s_take) (defBody s_take) (defScope s_take) .none kV20 dc20 pm20 an20 cd20 ct20), sl20⟩) (c20 : PySem.W.codeIn K cd20 "_law_take" = true) (k20 : PySem.W.keepIn K (.ref f20) = true)
  {f21 : Addr} {od21 an21 : Option Addr} {sl21 : Array (Option Value)} {oc21 kV21 dc21 pm21 cd21 ct21 : Value} (a21 : PySem.W.nsIn K mainGlobals "_law_draw" = some (some (.ref f21))) (l21 : K.lookup f21 = some ⟨oc21, od21, .func (PySem.W.fnOf "_law_draw" "_law_draw" (defArgs s_draw) (defBody s_draw) (defScope s_draw) .none kV21 dc21 pm21 an21 cd21 ct21), sl21⟩) (c21 : PySem.W.codeIn K cd21 "_law_draw" = true) (k21 : PySem.W.keepIn K (.ref f21) = true)
  {f22 : Addr} {od22 an22 : Option Addr} {sl22 : Array (Option Value)} {oc22 kV22 dc22 pm22 cd22 ct22 : Value} (a22 : PySem.W.nsIn K mainGlobals "_law_change" = some (some (.ref f22))) (l22 : K.lookup f22 = some ⟨oc22, od22, .func (PySem.W.fnOf "_law_change" "_law_change" (defArgs s_change) (defBody s_change) (defScope s_change) .none kV22 dc22 pm22 an22 cd22 ct22), sl22⟩) (c22 : PySem.W.codeIn K cd22 "_law_change" = true) (k22 : PySem.W.keepIn K (.ref f22) = true)
  {f23 : Addr} {od23 an23 : Option Addr} {sl23 : Array (Option Value)} {oc23 kV23 dc23 pm23 cd23 ct23 : Value} (a23 : PySem.W.nsIn K mainGlobals "_law_land" = some (some (.ref f23))) (l23 : K.lookup f23 = some ⟨oc23, od23, .func (PySem.W.fnOf "_law_land" "_law_land" (defArgs s_land) (defBody s_land) (defScope s_land) .none kV23 dc23 pm23 an23 cd23 ct23), sl23⟩) (c23 : PySem.W.codeIn K cd23 "_law_land" = true) (k23 : PySem.W.keepIn K (.ref f23) = true)
  {f24 : Addr} {od24 an24 : Option Addr} {sl24 : Array (Option Value)} {oc24 kV24 dc24 pm24 cd24 ct24 : Value} (a24 : PySem.W.nsIn K mainGlobals "_law_step" = some (some (.ref f24))) (l24 : K.lookup f24 = some ⟨oc24, od24, .func (PySem.W.fnOf "_law_step" "_law_step" (defArgs s_step) (defBody s_step) (defScope s_step) .none kV24 dc24 pm24 an24 cd24 ct24), sl24⟩) (c24 : PySem.W.codeIn K cd24 "_law_step" = true) (k24 : PySem.W.keepIn K (.ref f24) = true)
  {f25 : Addr} {od25 an25 : Option Addr} {sl25 : Array (Option Value)} {oc25 kV25 dc25 pm25 cd25 ct25 : Value} (a25 : PySem.W.nsIn K mainGlobals "_law_is_whole" = some (some (.ref f25))) (l25 : K.lookup f25 = some ⟨oc25, od25, .func (PySem.W.fnOf "_law_is_whole" "_law_is_whole" (defArgs s_law_is_whole) (defBody s_law_is_whole) (defScope s_law_is_whole) .none kV25 dc25 pm25 an25 cd25 ct25), sl25⟩) (c25 : PySem.W.codeIn K cd25 "_law_is_whole" = true) (k25 : PySem.W.keepIn K (.ref f25) = true)
  {f26 : Addr} {od26 an26 : Option Addr} {sl26 : Array (Option Value)} {oc26 kV26 dc26 pm26 cd26 ct26 : Value} (a26 : PySem.W.nsIn K mainGlobals "_law_prices" = some (some (.ref f26))) (l26 : K.lookup f26 = some ⟨oc26, od26, .func (PySem.W.fnOf "_law_prices" "_law_prices" (defArgs s_prices) (defBody s_prices) (defScope s_prices) .none kV26 dc26 pm26 an26 cd26 ct26), sl26⟩) (c26 : PySem.W.codeIn K cd26 "_law_prices" = true) (k26 : PySem.W.keepIn K (.ref f26) = true)
  {f27 : Addr} {od27 an27 : Option Addr} {sl27 : Array (Option Value)} {oc27 kV27 dc27 pm27 cd27 ct27 : Value} (a27 : PySem.W.nsIn K mainGlobals "_law_market" = some (some (.ref f27))) (l27 : K.lookup f27 = some ⟨oc27, od27, .func (PySem.W.fnOf "_law_market" "_law_market" (defArgs s_market) (defBody s_market) (defScope s_market) .none kV27 dc27 pm27 an27 cd27 ct27), sl27⟩) (c27 : PySem.W.codeIn K cd27 "_law_market" = true) (k27 : PySem.W.keepIn K (.ref f27) = true)
  {f28 : Addr} {od28 an28 : Option Addr} {sl28 : Array (Option Value)} {oc28 kV28 dc28 pm28 cd28 ct28 : Value} (a28 : PySem.W.nsIn K mainGlobals "_law_costs" = some (some (.ref f28))) (l28 : K.lookup f28 = some ⟨oc28, od28, .func (PySem.W.fnOf "_law_costs" "_law_costs" (defArgs s_costs) (defBody s_costs) (defScope s_costs) .none kV28 dc28 pm28 an28 cd28 ct28), sl28⟩) (c28 : PySem.W.codeIn K cd28 "_law_costs" = true) (k28 : PySem.W.keepIn K (.ref f28) = true)
  {f29 : Addr} {od29 an29 : Option Addr} {sl29 : Array (Option Value)} {oc29 kV29 dc29 pm29 cd29 ct29 : Value} (a29 : PySem.W.nsIn K mainGlobals "_law_paid" = some (some (.ref f29))) (l29 : K.lookup f29 = some ⟨oc29, od29, .func (PySem.W.fnOf "_law_paid" "_law_paid" (defArgs s_law_paid) (defBody s_law_paid) (defScope s_law_paid) .none kV29 dc29 pm29 an29 cd29 ct29), sl29⟩) (c29 : PySem.W.codeIn K cd29 "_law_paid" = true) (k29 : PySem.W.keepIn K (.ref f29) = true)
  {f30 : Addr} {od30 an30 : Option Addr} {sl30 : Array (Option Value)} {oc30 kV30 dc30 pm30 cd30 ct30 : Value} (a30 : PySem.W.nsIn K mainGlobals "_law_is_plan" = some (some (.ref f30))) (l30 : K.lookup f30 = some ⟨oc30, od30, .func (PySem.W.fnOf "_law_is_plan" "_law_is_plan" (defArgs s_is_plan) (defBody s_is_plan) (defScope s_is_plan) .none kV30 dc30 pm30 an30 cd30 ct30), sl30⟩) (c30 : PySem.W.codeIn K cd30 "_law_is_plan" = true) (k30 : PySem.W.keepIn K (.ref f30) = true)
  {f31 : Addr} {od31 an31 : Option Addr} {sl31 : Array (Option Value)} {oc31 kV31 dc31 pm31 cd31 ct31 : Value} (a31 : PySem.W.nsIn K mainGlobals "_law_right" = some (some (.ref f31))) (l31 : K.lookup f31 = some ⟨oc31, od31, .func (PySem.W.fnOf "_law_right" "_law_right" (defArgs s_right) (defBody s_right) (defScope s_right) .none kV31 dc31 pm31 an31 cd31 ct31), sl31⟩) (c31 : PySem.W.codeIn K cd31 "_law_right" = true) (k31 : PySem.W.keepIn K (.ref f31) = true)
  {f32 : Addr} {od32 an32 : Option Addr} {sl32 : Array (Option Value)} {oc32 kV32 dc32 pm32 cd32 ct32 : Value} (a32 : PySem.W.nsIn K mainGlobals "law" = some (some (.ref f32))) (l32 : K.lookup f32 = some ⟨oc32, od32, .func (PySem.W.fnOf "law" "law" (defArgs s_law) (defBody s_law) (defScope s_law) .none kV32 dc32 pm32 an32 cd32 ct32), sl32⟩) (c32 : PySem.W.codeIn K cd32 "law" = true) (k32 : PySem.W.keepIn K (.ref f32) = true)
  {tk_MANY : Tok} (q_MANY : PySem.W.nsIn K mainGlobals "MANY" = some (some (.int 0 tk_MANY)))
  {tk_WAYS : Tok} (q_WAYS : PySem.W.nsIn K mainGlobals "WAYS" = some (some (.int 1 tk_WAYS)))
  {tk_START : Tok} (q_START : PySem.W.nsIn K mainGlobals "START" = some (some (.int 0 tk_START)))
  {tk_END : Tok} (q_END : PySem.W.nsIn K mainGlobals "END" = some (some (.int 1 tk_END)))
  {tk_CHANGE : Tok} (q_CHANGE : PySem.W.nsIn K mainGlobals "CHANGE" = some (some (.int 2 tk_CHANGE)))
  {tk_PLACE : Tok} (q_PLACE : PySem.W.nsIn K mainGlobals "PLACE" = some (some (.int 0 tk_PLACE)))
  {tk_LEVEL : Tok} (q_LEVEL : PySem.W.nsIn K mainGlobals "LEVEL" = some (some (.int 1 tk_LEVEL)))
  {tk_STEP : Tok} (q_STEP : PySem.W.nsIn K mainGlobals "STEP" = some (some (.int 0 tk_STEP)))
  {tk_AHEAD : Tok} (q_AHEAD : PySem.W.nsIn K mainGlobals "AHEAD" = some (some (.int 1 tk_AHEAD)))
  {tk_BEHIND : Tok} (q_BEHIND : PySem.W.nsIn K mainGlobals "BEHIND" = some (some (.int 2 tk_BEHIND)))
  {tk_COST : Tok} (q_COST : PySem.W.nsIn K mainGlobals "COST" = some (some (.int 3 tk_COST)))
  {tk_PAID : Tok} (q_PAID : PySem.W.nsIn K mainGlobals "PAID" = some (some (.int 2 tk_PAID)))
  {tk_WAY : Tok} (q_WAY : PySem.W.nsIn K mainGlobals "WAY" = some (some (.str "way" tk_WAY)))
  {tk_BUY : Tok} (q_BUY : PySem.W.nsIn K mainGlobals "BUY" = some (some (.str "buy" tk_BUY)))
  (z_abs : PySem.W.nsIn K mainGlobals "abs" = some none)
  (z_bool : PySem.W.nsIn K mainGlobals "bool" = some none)
  (z_enumerate : PySem.W.nsIn K mainGlobals "enumerate" = some none)
  (z_int : PySem.W.nsIn K mainGlobals "int" = some none)
  (z_isinstance : PySem.W.nsIn K mainGlobals "isinstance" = some none)
  (z_len : PySem.W.nsIn K mainGlobals "len" = some none)
  (z_list : PySem.W.nsIn K mainGlobals "list" = some none)
  (z_min : PySem.W.nsIn K mainGlobals "min" = some none)
  (z_range : PySem.W.nsIn K mainGlobals "range" = some none)
  (z_tuple : PySem.W.nsIn K mainGlobals "tuple" = some none) :
  ∃ fd : FuncData, (∀ (s : Shared) (v : Value), BindsTo s fd ⟨[v], []⟩ [("_law_script", v)]) ∧ ∀ base : Heap, K.In base → base.Ns mainGlobals mg → FnOk l.prog w K mg base CX0 10 fa fd ["_law_script"] (spLaw K) := by
 have e := hfa.symm.trans (PySem.W.mg_of X G a32)
 cases e
 let T : Txt K mg := {
  n_abs := PySem.W.mg_none_of X G z_abs,
  n_bool := PySem.W.mg_none_of X G z_bool,
  n_enumerate := PySem.W.mg_none_of X G z_enumerate,
  n_int := PySem.W.mg_none_of X G z_int,
  n_isinstance := PySem.W.mg_none_of X G z_isinstance,
  n_len := PySem.W.mg_none_of X G z_len,
  n_list := PySem.W.mg_none_of X G z_list,
  n_min := PySem.W.mg_none_of X G z_min,
  n_range := PySem.W.mg_none_of X G z_range,
  n_tuple := PySem.W.mg_none_of X G z_tuple,
  t_MANY := tk_MANY, mg_MANY := PySem.W.mg_of X G q_MANY,
  t_WAYS := tk_WAYS, mg_WAYS := PySem.W.mg_of X G q_WAYS,
  t_START := tk_START, mg_START := PySem.W.mg_of X G q_START,
  t_END := tk_END, mg_END := PySem.W.mg_of X G q_END,
  t_CHANGE := tk_CHANGE, mg_CHANGE := PySem.W.mg_of X G q_CHANGE,
  t_PLACE := tk_PLACE, mg_PLACE := PySem.W.mg_of X G q_PLACE,
  t_LEVEL := tk_LEVEL, mg_LEVEL := PySem.W.mg_of X G q_LEVEL,
  t_STEP := tk_STEP, mg_STEP := PySem.W.mg_of X G q_STEP,
  t_AHEAD := tk_AHEAD, mg_AHEAD := PySem.W.mg_of X G q_AHEAD,
  t_BEHIND := tk_BEHIND, mg_BEHIND := PySem.W.mg_of X G q_BEHIND,
  t_COST := tk_COST, mg_COST := PySem.W.mg_of X G q_COST,
  t_PAID := tk_PAID, mg_PAID := PySem.W.mg_of X G q_PAID,
  t_WAY := tk_WAY, mg_WAY := PySem.W.mg_of X G q_WAY,
  t_BUY := tk_BUY, mg_BUY := PySem.W.mg_of X G q_BUY,
  a_is_whole := f0, d_is_whole := _, F_is_whole := fun_mk (st := s_is_whole) l0 c0 k0, mg_is_whole := PySem.W.mg_of X G a0, kp_is_whole := k0,
  a_stepped := f1, d_stepped := _, F_stepped := fun_mk (st := s_stepped) l1 c1 k1, mg_stepped := PySem.W.mg_of X G a1, kp_stepped := k1,
  a_is_place := f2, d_is_place := _, F_is_place := fun_mk (st := s_is_place) l2 c2 k2, mg_is_place := PySem.W.mg_of X G a2, kp_is_place := k2,
  a_is_within := f3, d_is_within := _, F_is_within := fun_mk (st := s_is_within) l3 c3 k3, mg_is_within := PySem.W.mg_of X G a3, kp_is_within := k3,
  a_moves_by_way := f4, d_moves_by_way := _, F_moves_by_way := fun_mk (st := s_moves_by_way) l4 c4 k4, mg_moves_by_way := PySem.W.mg_of X G a4, kp_moves_by_way := k4,
  a_moves_by_price := f5, d_moves_by_price := _, F_moves_by_price := fun_mk (st := s_moves_by_price) l5 c5 k5, mg_moves_by_price := PySem.W.mg_of X G a5, kp_moves_by_price := k5,
  a_all_moves := f6, d_all_moves := _, F_all_moves := fun_mk (st := s_all_moves) l6 c6 k6, mg_all_moves := PySem.W.mg_of X G a6, kp_all_moves := k6,
  a_cost_at := f7, d_cost_at := _, F_cost_at := fun_mk (st := s_cost_at) l7 c7 k7, mg_cost_at := PySem.W.mg_of X G a7, kp_cost_at := k7,
  a_cost_by := f8, d_cost_by := _, F_cost_by := fun_mk (st := s_cost_by) l8 c8 k8, mg_cost_by := PySem.W.mg_of X G a8, kp_cost_by := k8,
  a_costs_at_goal := f9, d_costs_at_goal := _, F_costs_at_goal := fun_mk (st := s_costs_at_goal) l9 c9 k9, mg_costs_at_goal := PySem.W.mg_of X G a9, kp_costs_at_goal := k9,
  a_settled_costs := f10, d_settled_costs := _, F_settled_costs := fun_mk (st := s_settled_costs) l10 c10 k10, mg_settled_costs := PySem.W.mg_of X G a10, kp_settled_costs := k10,
  a_behind_walking := f11, d_behind_walking := _, F_behind_walking := fun_mk (st := s_behind_walking) l11 c11 k11, mg_behind_walking := PySem.W.mg_of X G a11, kp_behind_walking := k11,
  a_behind_buying := f12, d_behind_buying := _, F_behind_buying := fun_mk (st := s_behind_buying) l12 c12 k12, mg_behind_buying := PySem.W.mg_of X G a12, kp_behind_buying := k12,
  a_behind_step := f13, d_behind_step := _, F_behind_step := fun_mk (st := s_behind_step) l13 c13 k13, mg_behind_step := PySem.W.mg_of X G a13, kp_behind_step := k13,
  a_paid := f14, d_paid := _, F_paid := fun_mk (st := s_paid) l14 c14 k14, mg_paid := PySem.W.mg_of X G a14, kp_paid := k14,
  a_with_step := f15, d_with_step := _, F_with_step := fun_mk (st := s_with_step) l15 c15 k15, mg_with_step := PySem.W.mg_of X G a15, kp_with_step := k15,
  a_plan_by := f16, d_plan_by := _, F_plan_by := fun_mk (st := s_plan_by) l16 c16 k16, mg_plan_by := PySem.W.mg_of X G a16, kp_plan_by := k16,
  a_cheapest := f17, d_cheapest := _, F_cheapest := fun_mk (st := s_cheapest) l17 c17 k17, mg_cheapest := PySem.W.mg_of X G a17, kp_cheapest := k17,
  a_hand := f18, d_hand := _, F_hand := fun_mk (st := s_hand) l18 c18 k18, mg_hand := PySem.W.mg_of X G a18, kp_hand := k18,
  a_next := f19, d_next := _, F_next := fun_mk (st := s_next) l19 c19 k19, mg_next := PySem.W.mg_of X G a19, kp_next := k19,
  a_take := f20, d_take := _, F_take := fun_mk (st := s_take) l20 c20 k20, mg_take := PySem.W.mg_of X G a20, kp_take := k20,
  a_draw := f21, d_draw := _, F_draw := fun_mk (st := s_draw) l21 c21 k21, mg_draw := PySem.W.mg_of X G a21, kp_draw := k21,
  a_change := f22, d_change := _, F_change := fun_mk (st := s_change) l22 c22 k22, mg_change := PySem.W.mg_of X G a22, kp_change := k22,
  a_land := f23, d_land := _, F_land := fun_mk (st := s_land) l23 c23 k23, mg_land := PySem.W.mg_of X G a23, kp_land := k23,
  a_step := f24, d_step := _, F_step := fun_mk (st := s_step) l24 c24 k24, mg_step := PySem.W.mg_of X G a24, kp_step := k24,
  a_law_is_whole := f25, d_law_is_whole := _, F_law_is_whole := fun_mk (st := s_law_is_whole) l25 c25 k25, mg_law_is_whole := PySem.W.mg_of X G a25, kp_law_is_whole := k25,
  a_prices := f26, d_prices := _, F_prices := fun_mk (st := s_prices) l26 c26 k26, mg_prices := PySem.W.mg_of X G a26, kp_prices := k26,
  a_market := f27, d_market := _, F_market := fun_mk (st := s_market) l27 c27 k27, mg_market := PySem.W.mg_of X G a27, kp_market := k27,
  a_costs := f28, d_costs := _, F_costs := fun_mk (st := s_costs) l28 c28 k28, mg_costs := PySem.W.mg_of X G a28, kp_costs := k28,
  a_law_paid := f29, d_law_paid := _, F_law_paid := fun_mk (st := s_law_paid) l29 c29 k29, mg_law_paid := PySem.W.mg_of X G a29, kp_law_paid := k29,
  a_is_plan := f30, d_is_plan := _, F_is_plan := fun_mk (st := s_is_plan) l30 c30 k30, mg_is_plan := PySem.W.mg_of X G a30, kp_is_plan := k30,
  a_right := f31, d_right := _, F_right := fun_mk (st := s_right) l31 c31 k31, mg_right := PySem.W.mg_of X G a31, kp_right := k31,
  a_law := fa, d_law := _, F_law := fun_mk (st := s_law) l32 c32 k32, mg_law := PySem.W.mg_of X G a32, kp_law := k32 }
 exact ⟨PySem.W.fnOf "law" "law" (defArgs s_law) (defBody s_law) (defScope s_law) .none kV32 dc32 pm32 an32 cd32 ct32, fun s v => .of_eq rfl, fun base _ _ => ok_law T⟩
end
theorem walk {l : PySem.W.OpenLaw} {q : Program} {loose : List Str} {XP : (Str → Option Value) → Heap → Prop} {YP : World → Heap → Prop} {d : DefRec} {K : Params → PySem.W.Frag} (hn : l.most = some 63) (hdf : d.params.defaults = [])
  (hY : ∀ (w : World) (h : Heap), YP w h → (K w.params).In h)
  (F : ∀ (w : World) (mg : Str → Option Value) (fa : Addr) (h : Heap), (K w.params).In h → h.Ns mainGlobals mg → mg d.name = some (.ref fa) →
   ∃ fd : FuncData, (∀ (s : Shared) (u : Value), BindsTo s fd ⟨[u], []⟩ [("_law_script", u)]) ∧ ∀ base : Heap, (K w.params).In base → base.Ns mainGlobals mg → FnOk l.prog w (K w.params) mg base CX0 10 fa fd ["_law_script"] (spLaw (K w.params))) :
  PySem.W.WalkO q loose XP YP l.row.toRowW d [] (fun f vs => PySem.call f vs) :=
 L2.walk_of (n := 63) (k := 10) (x := "_law_script") (CX := fun _ => CX0) (sp := fun w => spLaw (K w.params)) hn (by decide) hdf ⟨rfl, by decide, by decide, rfl⟩ hY F (fun _ _ a ns hl _ hS => ⟨a, ns, rfl, hS, hl, fun _ => rfl⟩) fun _ _ _ _ _ z => z
end My
def PySem.W.Fast.tw6168556607915570534 : Unit := ()
def PySem.W.Fast.tw9263554566284146560 : Unit := ()
def PySem.W.Fast.tw10450485015430466027 : Unit := ()
def PySem.W.Fast.tw9467545761648520278 : Unit := ()
def PySem.W.Fast.tw8874065703240111357 : Unit := ()
def PySem.W.Fast.tw1204543085316093867 : Unit := ()
def PySem.W.Fast.tw834057245862995653 : Unit := ()
def PySem.W.Fast.tw16917364883254509531 : Unit := ()
open PySem PySem.W PyProof.Rows
set_option maxRecDepth 100000 in
set_option maxHeartbeats 0 in
theorem PySem.Challenge.cw_trudge_k73_cheapest_paid_holds : PySem.Challenge.rw_trudge_k73_cheapest_paid.Holds := by
 w_on; o_law; k_head; (case hw => w_witness2)
 k_fill
 refine My.walk (l := PySem.Challenge.rw_trudge_k73_cheapest_paid) rfl rfl (fun w h Y => PySem.W.kIn_of Y) ?F
 case F =>
  intro w mg fa h KX G hmg
  refine' My.all_mk KX G hmg ?a0 ?l0 ?c0 ?k0 ?a1 ?l1 ?c1 ?k1 ?a2 ?l2 ?c2 ?k2 ?a3 ?l3 ?c3 ?k3 ?a4 ?l4 ?c4 ?k4 ?a5 ?l5 ?c5 ?k5 ?a6 ?l6 ?c6 ?k6 ?a7 ?l7 ?c7 ?k7 ?a8 ?l8 ?c8 ?k8 ?a9 ?l9 ?c9 ?k9 ?a10 ?l10 ?c10 ?k10 ?a11 ?l11 ?c11 ?k11 ?a12 ?l12 ?c12 ?k12 ?a13 ?l13 ?c13 ?k13 ?a14 ?l14 ?c14 ?k14 ?a15 ?l15 ?c15 ?k15 ?a16 ?l16 ?c16 ?k16 ?a17 ?l17 ?c17 ?k17 ?a18 ?l18 ?c18 ?k18 ?a19 ?l19 ?c19 ?k19 ?a20 ?l20 ?c20 ?k20 ?a21 ?l21 ?c21 ?k21 ?a22 ?l22 ?c22 ?k22 ?a23 ?l23 ?c23 ?k23 ?a24 ?l24 ?c24 ?k24 ?a25 ?l25 ?c25 ?k25 ?a26 ?l26 ?c26 ?k26 ?a27 ?l27 ?c27 ?k27 ?a28 ?l28 ?c28 ?k28 ?a29 ?l29 ?c29 ?k29 ?a30 ?l30 ?c30 ?k30 ?a31 ?l31 ?c31 ?k31 ?a32 ?l32 ?c32 ?k32 ?q_MANY ?q_WAYS ?q_START ?q_END ?q_CHANGE ?q_PLACE ?q_LEVEL ?q_STEP ?q_AHEAD ?q_BEHIND ?q_COST ?q_PAID ?q_WAY ?q_BUY ?z_abs ?z_bool ?z_enumerate ?z_int ?z_isinstance ?z_len ?z_list ?z_min ?z_range ?z_tuple
  (case a0 => k_is); (case l0 => k_is); (case c0 => k_is); (case k0 => k_is)
  (case a1 => k_is); (case l1 => k_is); (case c1 => k_is); (case k1 => k_is)
  (case a2 => k_is); (case l2 => k_is); (case c2 => k_is); (case k2 => k_is)
  (case a3 => k_is); (case l3 => k_is); (case c3 => k_is); (case k3 => k_is)
  (case a4 => k_is); (case l4 => k_is); (case c4 => k_is); (case k4 => k_is)
  (case a5 => k_is); (case l5 => k_is); (case c5 => k_is); (case k5 => k_is)
  (case a6 => k_is); (case l6 => k_is); (case c6 => k_is); (case k6 => k_is)
  (case a7 => k_is); (case l7 => k_is); (case c7 => k_is); (case k7 => k_is)
  (case a8 => k_is); (case l8 => k_is); (case c8 => k_is); (case k8 => k_is)
  (case a9 => k_is); (case l9 => k_is); (case c9 => k_is); (case k9 => k_is)
  (case a10 => k_is); (case l10 => k_is); (case c10 => k_is); (case k10 => k_is)
  (case a11 => k_is); (case l11 => k_is); (case c11 => k_is); (case k11 => k_is)
  (case a12 => k_is); (case l12 => k_is); (case c12 => k_is); (case k12 => k_is)
  (case a13 => k_is); (case l13 => k_is); (case c13 => k_is); (case k13 => k_is)
  (case a14 => k_is); (case l14 => k_is); (case c14 => k_is); (case k14 => k_is)
  (case a15 => k_is); (case l15 => k_is); (case c15 => k_is); (case k15 => k_is)
  (case a16 => k_is); (case l16 => k_is); (case c16 => k_is); (case k16 => k_is)
  (case a17 => k_is); (case l17 => k_is); (case c17 => k_is); (case k17 => k_is)
  (case a18 => k_is); (case l18 => k_is); (case c18 => k_is); (case k18 => k_is)
  (case a19 => k_is); (case l19 => k_is); (case c19 => k_is); (case k19 => k_is)
  (case a20 => k_is); (case l20 => k_is); (case c20 => k_is); (case k20 => k_is)
  (case a21 => k_is); (case l21 => k_is); (case c21 => k_is); (case k21 => k_is)
  (case a22 => k_is); (case l22 => k_is); (case c22 => k_is); (case k22 => k_is)
  (case a23 => k_is); (case l23 => k_is); (case c23 => k_is); (case k23 => k_is)
  (case a24 => k_is); (case l24 => k_is); (case c24 => k_is); (case k24 => k_is)
  (case a25 => k_is); (case l25 => k_is); (case c25 => k_is); (case k25 => k_is)
  (case a26 => k_is); (case l26 => k_is); (case c26 => k_is); (case k26 => k_is)
  (case a27 => k_is); (case l27 => k_is); (case c27 => k_is); (case k27 => k_is)
  (case a28 => k_is); (case l28 => k_is); (case c28 => k_is); (case k28 => k_is)
  (case a29 => k_is); (case l29 => k_is); (case c29 => k_is); (case k29 => k_is)
  (case a30 => k_is); (case l30 => k_is); (case c30 => k_is); (case k30 => k_is)
  (case a31 => k_is); (case l31 => k_is); (case c31 => k_is); (case k31 => k_is)
  (case a32 => k_is); (case l32 => k_is); (case c32 => k_is); (case k32 => k_is)
  (case q_MANY => k_is); (case q_WAYS => k_is); (case q_START => k_is); (case q_END => k_is); (case q_CHANGE => k_is); (case q_PLACE => k_is); (case q_LEVEL => k_is); (case q_STEP => k_is); (case q_AHEAD => k_is); (case q_BEHIND => k_is); (case q_COST => k_is); (case q_PAID => k_is); (case q_WAY => k_is); (case q_BUY => k_is)
  (case z_abs => k_is); (case z_bool => k_is); (case z_enumerate => k_is); (case z_int => k_is); (case z_isinstance => k_is); (case z_len => k_is); (case z_list => k_is); (case z_min => k_is); (case z_range => k_is); (case z_tuple => k_is)
