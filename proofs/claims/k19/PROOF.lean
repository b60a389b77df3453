import PyProof.Rows.All
import Wide.All
import OpenK.AllK
import Wide.FinOn
import Lean
import PyProof.EqAt
import PyProof.EqKinds
import PyProof.NeData
import PyProof.TupleCall
import KE.KRevIter
import KE.KRevSl
import PyProof.MinMaxWalk
import PyProof.ZipIter
import PyProof.Rows.Range3
import PyProof.Rows.CallKwBuiltin
import PyProof.DictWalks
import PyProof.ReprRoads
import PyProof.ReprLen
import PyProof.CallFns
import PyProof.StationsW
import PyProof.ExcInit
import PyProof.InstStore
import PyProof.RulesAs
import KE.KTryMore
import PyProof.InstStoreFacts
import PyProof.ExcBaseAll.ValueError
import PySem.Challenge.RW_trudge_k19_refusals_apart
set_option Elab.async false
set_option linter.all false
set_option maxRecDepth 100000
set_option genInjectivity false
set_option genSizeOf false
namespace L2
open PySem PySem.Spec PyProof.Rows
theorem el3 {α β γ : Type} {R T K : α → β → γ → Prop} {p : Prop} (h : ∃ a b c, R a b c ∧ T a b c ∧ K a b c) (f : ∀ a b c, R a b c → T a b c → K a b c → p) : p := h.elim fun a h => h.elim fun b h => h.elim fun c h => f a b c h.1 h.2.1 h.2.2
theorem el5 {α β : Type} {R T K : α → β → Prop} {p : Prop} (h : ∃ a b, R a b ∧ T a b ∧ K a b) (f : ∀ a b, R a b → T a b → K a b → p) : p := h.elim fun a h => h.elim fun b h => f a b h.1 h.2.1 h.2.2
theorem el2 {α : Type} {A B : α → Prop} {p : Prop} (h : ∃ a, A a ∧ B a) (f : ∀ a, A a → B a → p) : p := h.elim fun a h => f a h.1 h.2
abbrev Key := Sum Int Str
def keyIs : Key → Value → Bool
  | .inl k, v => Value.isInt k v
  | .inr x, v => Value.isStrOf x v
def keyH (w : World) : Key → Int
  | .inl k => hashInt k
  | .inr x => hashStr w x
theorem keyIs_shape : ∀ {k : Key} {v : Value}, keyIs k v = true → (∃ i t, k = Sum.inl i ∧ v = Value.int i t) ∨ (∃ x t, k = Sum.inr x ∧ v = Value.str x t)
  | .inl i, v, h => by
    obtain ⟨t, e⟩ := Value.isInt_shape (k := i) (v := v) h
    exact .inl ⟨i, t, rfl, e⟩
  | .inr x, v, h => by
    obtain ⟨t, e⟩ := Value.isStrOf_shape (x := x) (v := v) h
    exact .inr ⟨x, t, rfl, e⟩
theorem key_ll (a b : Int) : decide ((Sum.inl a : Key) = Sum.inl b) = (a == b) := by
  by_cases e : a = b
  · subst e; simp
  · have h : ¬ (Sum.inl a : Key) = Sum.inl b := fun q => e (Sum.inl.inj q)
    rw [decide_eq_false h]
    exact (beq_eq_false_iff_ne.mpr e).symm
theorem key_rr (a b : Str) : decide ((Sum.inr a : Key) = Sum.inr b) = decide (a = b) := by
  by_cases e : a = b
  · subst e; simp
  · have h : ¬ (Sum.inr a : Key) = Sum.inr b := fun q => e (Sum.inr.inj q)
    rw [decide_eq_false h, decide_eq_false e]
theorem key_lr (a : Int) (b : Str) : decide ((Sum.inl a : Key) = Sum.inr b) = false := decide_eq_false (fun q => nomatch q)
theorem key_rl (a : Str) (b : Int) : decide ((Sum.inr a : Key) = Sum.inl b) = false := decide_eq_false (fun q => nomatch q)
def mixKind (prog : Program) (w : World) : PySem.KeyKind prog w Key where
  is := keyIs
  hash := keyH w
  inj := fun v a b ha hb => by
    rcases keyIs_shape ha with ⟨i, t, rfl, rfl⟩ | ⟨x, t, rfl, rfl⟩
    · rcases keyIs_shape hb with ⟨j, u, rfl, e⟩ | ⟨y, u, rfl, e⟩
      · injection e with e1 _; rw [e1]
      · exact nomatch e
    · rcases keyIs_shape hb with ⟨j, u, rfl, e⟩ | ⟨y, u, rfl, e⟩
      · exact nomatch e
      · injection e with e1 _; rw [e1]
  byValue := fun k v h => by
    rcases keyIs_shape h with ⟨i, t, rfl, rfl⟩ | ⟨x, t, rfl, rfl⟩ <;> rfl
  pyHash := fun hv h => by
    rcases keyIs_shape hv with ⟨i, t, rfl, rfl⟩ | ⟨x, t, rfl, rfl⟩
    · exact wpAny_pyHash_int h
    · exact wpAny_pyHash_str h
  eqBool := fun hu hv h => by
    rcases keyIs_shape hu with ⟨i, t, rfl, rfl⟩ | ⟨x, t, rfl, rfl⟩
    · rcases keyIs_shape hv with ⟨j, u, rfl, rfl⟩ | ⟨y, u, rfl, rfl⟩
      · rw [key_ll] at h; exact wpAny_eqBool_int h
      · rw [key_lr] at h; exact SeqAt.EqAt.int_str i t y u _ _ _ _ h
    · rcases keyIs_shape hv with ⟨j, u, rfl, rfl⟩ | ⟨y, u, rfl, rfl⟩
      · rw [key_rl] at h; exact SeqAt.EqAt.str_int x t j u _ _ _ _ h
      · rw [key_rr] at h; exact wpAny_eqBool_str h
  «strs» := fun k x t v h => by
    rcases keyIs_shape h with ⟨i, u, rfl, e⟩ | ⟨y, u, rfl, e⟩
    · exact nomatch e
    · injection e with e1 _
      subst e1
      cases v <;> rfl
end L2
namespace L2
open PySem PySem.Spec PyProof.Rows
set_option genInjectivity true in
inductive V where
  | non | bl (b : Bool) | int (i : Int) | str (x : Str) | byt (b : Array UInt8) | flt (b : UInt64) | ref (a : Addr) | ty (n : String)
  deriving DecidableEq
def RelV : V → Value → Prop
  | .non, u => u = Value.none
  | .bl b, u => u = Value.bool b
  | .int i, u => ∃ t, u = Value.int i t
  | .str x, u => ∃ t, u = Value.str x t
  | .byt b, u => ∃ t, u = Value.bytes b t
  | .flt b, u => ∃ t, u = Value.float b t
  | .ref a, u => u = Value.ref a
  | .ty n, u => u = Value.type n
abbrev Vals : List V → List Value → Prop := Paired RelV
theorem Vals.length {xs : List V} {us : List Value} (r : Vals xs us) : xs.length = us.length := Paired.length r
theorem Vals.get : ∀ {xs : List V} {us : List Value} {i : Nat} {x : V}, Vals xs us → xs[i]? = some x → ∃ u, us[i]? = some u ∧ RelV x u
  | _, _, _, _, .nil, e => by simp at e
  | _, _, 0, _, .cons r _, e => by simp at e; subst e; exact ⟨_, rfl, r⟩
  | _, _, i + 1, x, .cons _ t, e => by
    obtain ⟨u, h1, h2⟩ := Vals.get (i := i) (x := x) t (by simpa using e)
    exact ⟨u, by simpa using h1, h2⟩
theorem Vals.set {x : V} {u : Value} (r : RelV x u) : ∀ {xs : List V} {us : List Value} (i : Nat), Vals xs us → Vals (xs.set i x) (us.set i u)
  | _, _, _, .nil => .nil
  | _, _, 0, .cons _ t => .cons r t
  | _, _, i + 1, .cons q t => .cons q (Vals.set r i t)
theorem Vals.append {xs ys : List V} {us ws : List Value} (h : Vals xs us) (s : Vals ys ws) : Vals (xs ++ ys) (us ++ ws) := by
  induction h with
  | nil => exact s
  | cons r t ih => exact .cons r ih
theorem Vals.take : ∀ {xs : List V} {us : List Value} (n : Nat), Vals xs us → Vals (xs.take n) (us.take n)
  | _, _, 0, _ => .nil
  | _, _, _ + 1, .nil => .nil
  | _, _, n + 1, .cons r t => .cons r (Vals.take n t)
theorem Vals.drop : ∀ {xs : List V} {us : List Value} (n : Nat), Vals xs us → Vals (xs.drop n) (us.drop n)
  | _, _, 0, r => r
  | _, _, _ + 1, .nil => .nil
  | _, _, n + 1, .cons _ t => Vals.drop n t
def RelO : Option V → Option Value → Prop
  | some v, some u => RelV v u
  | none, none => True
  | _, _ => False
def KV {κ : Type} : List (κ × V) → List (κ × Value) → Prop := Paired fun (p : κ × V) (q : κ × Value) => p.1 = q.1 ∧ RelV p.2 q.2
def kV : Key → V
  | .inl i => .int i
  | .inr x => .str x
inductive HO where
  | lst (xs : List V)
  | tup (xs : List V)
  | dK (kvs : List (Key × V)) | dT (kvs : List (List Key × V))
  | set (S : Int → Bool) (n : Nat)
  | ins (C dx : Addr) (fs : List (Str × V))
  | own (x : Addr)
  | xd (fs : List (Str × V))
  | met (f x : Addr)
  | rng (lo hi : Int)
  | frz (o : Obj) (u : HO)
  | tbl (ps : Array Value)
  | ext (φ : Heap → Prop)
abbrev Hp := Addr → Option HO
def upd (H : Hp) (a : Addr) (o : HO) : Hp := fun b => if b = a then some o else H b
theorem upd_same {H : Hp} {a : Addr} {o : HO} : upd H a o a = some o := by unfold upd; rw [if_pos rfl]
theorem upd_ne {H : Hp} {a b : Addr} {o : HO} (h : b ≠ a) : upd H a o b = H b := by unfold upd; rw [if_neg h]
theorem ne_of {H : Hp} {a b : Addr} {o u : HO} (h : H a = some o) (h' : H b = some u) (d : o ≠ u) : a ≠ b := by
  intro e; subst e; rw [h] at h'; exact d (Option.some.inj h')
theorem ne_of_none {H : Hp} {a b : Addr} {o : HO} (h : H a = some o) (h' : H b = none) : a ≠ b := by
  intro e; subst e; rw [h] at h'; cases h'
section
variable (P : Program) (w : World)
def ObjOk (H : Hp) (h : Heap) (a : Addr) : HO → Prop
  | .lst xs => xs.length ≤ sizeLine ∧ ∃ (its : List Value) (n : Nat), Vals xs its ∧ h.get? a = some { cls := .type "list", data := .seq its.toArray n }
  | .tup xs => xs.length ≤ sizeLine ∧ ∃ its : List Value, Vals xs its ∧ IsTup h a its.toArray
  | .dK kvs => kvs.length ≤ sizeLine ∧ (a == sysModules) = false ∧ ∃ vs, KV kvs vs ∧ h.DictOf (mixKind P w) a vs
  | .dT kvs => kvs.length ≤ sizeLine ∧ (a == sysModules) = false ∧ ∃ xs : List (List Key × Addr × Value),
      Paired (fun (p : List Key × V) (q : List Key × Addr × Value) => p.1 = q.1 ∧ H q.2.1 = some (.tup (p.1.map kV)) ∧ RelV p.2 q.2.2) kvs xs ∧
      ∃ o es ep, h.get? a = some o ∧ o.ExactDict ∧ o.data = .dict es ep ∧ es.toList = xs.map (entryOfKey (tupleKind (mixKind P w))) ∧ (xs.map (·.1)).Nodup
  | .set S n => h.SetOf (intKind P w) a S n
  | .ins C dx fs => H dx = some (.own a) ∧ fs.length ≤ 1000 ∧ dx ≠ a ∧ h.get? a = some (PySem.W.instObj C dx) ∧
      ∃ mA, h.Ns1 dx mA ∧ (∀ f, RelO (fs.lookup f) (mA f)) ∧ PySem.Within mA (fs.map (·.1))
  | .own _ => ∃ o, h.get? a = some o
  | .xd fs => ∃ mA, h.Ns1 a mA ∧ ∀ f, RelO (fs.lookup f) (mA f)
  | .rng lo hi => ∃ t u v, h.get? a = some { cls := .type "range", data := .fields #[.int lo t, .int hi u, .int 1 v] }
  | .frz o u => h.get? a = some o ∧ ObjOk H h a u
  | .tbl ps => h.get? a = some { cls := .none, data := .fields ps }
  | .met f x => h.get? a = some (PySem.W.methodObj (.ref f) (.ref x))
  | .ext φ => φ h ∧ (∃ o, h.get? a = some o) ∧ ∀ h1 h2 : Heap, φ h1 → (∀ o, h1.get? a = some o → h2.get? a = some o) → φ h2
def HOk (H : Hp) (h : Heap) : Prop := ∀ a o, H a = some o → ObjOk P w H h a o
end
section
variable {P : Program} {w : World} {H H' : Hp} {h h' : Heap} {a : Addr} {o : HO}
theorem ObjOk.lt (x : ObjOk P w H h a o) : a < h.objs.size := by
  cases o with
  | lst xs => obtain ⟨_, _, _, _, e⟩ := x; exact Heap.lt_size e
  | tup xs => obtain ⟨_, _, _, p⟩ := x; exact p.lt
  | dK kvs => obtain ⟨_, _, _, _, o, _, _, e, _⟩ := x; exact Heap.lt_size e
  | dT kvs => obtain ⟨_, _, _, _, o, _, _, e, _⟩ := x; exact Heap.lt_size e
  | set S n => obtain ⟨o, _, _, _, e, _⟩ := x; exact Heap.lt_size e
  | ins C dx fs => obtain ⟨_, _, _, e, _⟩ := x; exact Heap.lt_size e
  | own y => obtain ⟨_, e⟩ := x; exact Heap.lt_size e
  | xd fs => obtain ⟨_, ⟨_, _, _, e, _⟩, _⟩ := x; exact Heap.lt_size e
  | rng lo hi => obtain ⟨_, _, _, e⟩ := x; exact Heap.lt_size e
  | frz ob u => obtain ⟨e, _⟩ := x; exact Heap.lt_size e
  | tbl ps => exact Heap.lt_size (show h.get? a = some _ from x)
  | met f y => exact Heap.lt_size (show h.get? a = some _ from x)
  | ext φ => obtain ⟨_, ⟨_, e⟩, _⟩ := x; exact Heap.lt_size e
theorem Paired.mapP {α β : Type} {F G : α → β → Prop} {l₁ : List α} {l₂ : List β} (h : Paired F l₁ l₂) (f : ∀ a b, F a b → G a b) : Paired G l₁ l₂ := by
  induction h with
  | nil => exact .nil
  | cons r t ih => exact .cons (f _ _ r) ih
theorem ObjOk.stay (x : ObjOk P w H h a o) (k : ∀ b u, (b = a ∨ H b = some (.own a)) → h.get? b = some u → h'.get? b = some u)
    (ho : ∀ b, H b = some (.own a) → H' b = some (.own a)) (ht : ∀ b xs, H b = some (.tup xs) → H' b = some (.tup xs)) : ObjOk P w H' h' a o := by
  induction o with
  | lst xs => obtain ⟨z, its, n, r, e⟩ := x; exact ⟨z, its, n, r, k _ _ (.inl rfl) e⟩
  | tup xs => obtain ⟨z, its, r, ob, e, c⟩ := x; exact ⟨z, its, r, ob, k _ _ (.inl rfl) e, c⟩
  | dK kvs => obtain ⟨z, y, vs, r, ob, es, ep, e, c⟩ := x; exact ⟨z, y, vs, r, ob, es, ep, k _ _ (.inl rfl) e, c⟩
  | dT kvs =>
    obtain ⟨z, y, xs, r, ob, es, ep, e, c⟩ := x
    exact ⟨z, y, xs, Paired.mapP r fun p q z => ⟨z.1, ht _ _ z.2.1, z.2.2⟩, ob, es, ep, k _ _ (.inl rfl) e, c⟩
  | set S n => obtain ⟨ob, es, ep, t, e, c⟩ := x; exact ⟨ob, es, ep, t, k _ _ (.inl rfl) e, c⟩
  | ins C dx fs =>
    obtain ⟨d, z, ne, e, mA, ⟨od, es, ep, e2, c⟩, r⟩ := x
    exact ⟨ho _ d, z, ne, k _ _ (.inl rfl) e, mA, ⟨od, es, ep, k _ _ (.inr d) e2, c⟩, r⟩
  | own y => obtain ⟨ob, e⟩ := x; exact ⟨ob, k _ _ (.inl rfl) e⟩
  | xd fs => obtain ⟨mA, ⟨od, es, ep, e, c⟩, r⟩ := x; exact ⟨mA, ⟨od, es, ep, k _ _ (.inl rfl) e, c⟩, r⟩
  | rng lo hi => obtain ⟨t, u, v, e⟩ := x; exact ⟨t, u, v, k _ _ (.inl rfl) e⟩
  | frz ob u ih => obtain ⟨e, q⟩ := x; exact ⟨k _ _ (.inl rfl) e, ih q⟩
  | tbl ps =>
    have e : h.get? a = some { cls := .none, data := .fields ps } := x
    show h'.get? a = some { cls := .none, data := .fields ps }
    exact k a _ (.inl rfl) e
  | met f y =>
    have e : h.get? a = some (PySem.W.methodObj (.ref f) (.ref y)) := x
    show h'.get? a = some (PySem.W.methodObj (.ref f) (.ref y))
    exact k a _ (.inl rfl) e
  | ext φ => obtain ⟨p, ⟨o, e⟩, st⟩ := x; exact ⟨st _ _ p fun o q => k _ _ (.inl rfl) q, ⟨o, k _ _ (.inl rfl) e⟩, st⟩
theorem HOk.lt (x : HOk P w H h) (e : H a = some o) : a < h.objs.size := (x a o e).lt
theorem HOk.fresh (x : HOk P w H h) (e : h.objs.size ≤ a) : H a = none := by
  cases q : H a with
  | none => rfl
  | some u => exact absurd (Nat.lt_of_lt_of_le (x.lt q) e) (Nat.lt_irrefl _)
theorem HOk.kept (x : HOk P w H h) (k : ∀ b u, h.get? b = some u → h'.get? b = some u) : HOk P w H h' := fun a o e =>
  (x a o e).stay (fun b u _ q => k b u q) (fun _ q => q) fun _ _ q => q
theorem HOk.laid (x : HOk P w H h) (k : ∀ b u, h.get? b = some u → h'.get? b = some u) (hp : h.objs.size ≤ a) (new : ObjOk P w (upd H a o) h' a o) : HOk P w (upd H a o) h' := fun b u e => by
  have hn := x.fresh hp
  by_cases hb : b = a
  · subst hb; rw [upd_same] at e; cases e; exact new
  · rw [upd_ne hb] at e
    exact (x b u e).stay (fun c v _ q => k c v q) (fun c q => by rw [upd_ne (ne_of_none q hn)]; exact q) fun c xs q => by rw [upd_ne (ne_of_none q hn)]; exact q
end
def Rd (H : Hp) (a : Addr) (u : HO) : Prop := H a = some u ∨ ∃ o, H a = some (.frz o u)
theorem Rd.ok {P : Program} {w : World} {H : Hp} {h : Heap} {a : Addr} {u : HO} (r : Rd H a u) (x : HOk P w H h) : ObjOk P w H h a u := by
  rcases r with r | ⟨o, r⟩
  · exact x a u r
  · obtain ⟨_, q⟩ := x a _ r
    exact q
def Mut : Option HO → Prop
  | some (.lst _) => True
  | some (.dK _) => True
  | some (.dT _) => True
  | some (.set _ _) => True
  | some (.ins _ _ _) => True
  | some (.ext _) => True
  | _ => False
section
variable {P : Program} {w : World} {H : Hp} {h h' : Heap} {x e : Addr} {o' : HO}
theorem HOk.write (ok : HOk P w H h) (mu : Mut (H x)) (he : e = x ∨ H e = some (.own x)) (k : ∀ b u, b ≠ e → h.get? b = some u → h'.get? b = some u) (heo : ∃ u, h'.get? e = some u)
    (new : ObjOk P w (upd H x o') h' x o') : HOk P w (upd H x o') h' := fun b u q => by
  have nown : ∀ c y, H c = some (.own y) → c ≠ x := fun c y r z => by subst z; rw [r] at mu; exact mu
  have ntup : ∀ c xs, H c = some (.tup xs) → c ≠ x := fun c xs r z => by subst z; rw [r] at mu; exact mu
  by_cases hb : b = x
  · subst hb; rw [upd_same] at q; cases q; exact new
  · rw [upd_ne hb] at q
    by_cases hbe : b = e
    · have q' : H b = some (.own x) := by
        rcases he with z | z
        · exact absurd (hbe.trans z) hb
        · rw [hbe]; exact z
      rw [q] at q'; cases q'
      obtain ⟨v, hv⟩ := heo
      exact ⟨v, by rw [hbe]; exact hv⟩
    · refine (ok b u q).stay (fun c v hc r => k c v ?_ r) (fun c r => by rw [upd_ne (nown c b r)]; exact r) fun c xs r => by rw [upd_ne (ntup c xs r)]; exact r
      rcases hc with rfl | hc
      · exact hbe
      · rintro rfl
        rcases he with z | z
        · exact nown c b hc z
        · rw [hc] at z; cases z; exact hb rfl
end
structure Un (fs ex : List Addr) (H H' : Hp) (h h' : Heap) : Prop where
  keep : ∀ b o, h.get? b = some o → H b = none → b ∉ fs → b ∉ ex → h'.get? b = some o
  slot : ∀ b o, h.get? b = some o → H b = none → b ∈ fs → b ∉ ex → ∃ sl, h'.get? b = some { o with slots := sl }
  free : ∀ b o, h.get? b = some o → H b = none → b ∉ ex → H' b = none
  there : ∀ b o, h.get? b = some o → b ∉ ex → ∃ o', h'.get? b = some o'
  tups : ∀ b xs, H b = some (.tup xs) → H' b = some (.tup xs)
  frzs : ∀ b o u, H b = some (.frz o u) → H' b = some (.frz o u)
  tbls : ∀ b ps, H b = some (.tbl ps) → ∃ more, H' b = some (.tbl (ps ++ more))
section
variable {fs fs' ex ex' : List Addr} {H H1 H2 : Hp} {h h1 h2 h' : Heap} {a x e : Addr} {o : HO}
theorem Un.any (u : Un fs ex H H1 h h1) {b : Addr} {ob : Obj} (q : h.get? b = some ob) (n : H b = none) (hx : b ∉ ex) : ∃ sl, h1.get? b = some { ob with slots := sl } := by
  by_cases hb : b ∈ fs
  · exact u.slot b ob q n hb hx
  · exact ⟨ob.slots, u.keep b ob q n hb hx⟩
theorem Un.trans (a : Un fs ex H H1 h h1) (b : Un fs ex H1 H2 h1 h2) : Un fs ex H H2 h h2 where
  keep := fun c ob q n hc hx => b.keep c ob (a.keep c ob q n hc hx) (a.free c ob q n hx) hc hx
  slot := fun c ob q n hc hx => by
    obtain ⟨sl, e1⟩ := a.slot c ob q n hc hx
    obtain ⟨sl', e2⟩ := b.slot c _ e1 (a.free c ob q n hx) hc hx
    exact ⟨sl', e2⟩
  free := fun c ob q n hx => by
    obtain ⟨o', e1⟩ := a.there c ob q hx
    exact b.free c o' e1 (a.free c ob q n hx) hx
  there := fun c ob q hx => by
    obtain ⟨o', e1⟩ := a.there c ob q hx
    exact b.there c o' e1 hx
  tups := fun c xs q => b.tups c xs (a.tups c xs q)
  frzs := fun c ob xs q => b.frzs c ob xs (a.frzs c ob xs q)
  tbls := fun c ps q => by
    obtain ⟨m1, e1⟩ := a.tbls c ps q
    obtain ⟨m2, e2⟩ := b.tbls c _ e1
    exact ⟨m1 ++ m2, by rw [e2, Array.append_assoc]⟩
theorem Un.kept (k : ∀ b u, h.get? b = some u → h'.get? b = some u) : Un fs ex H H h h' :=
  ⟨fun b ob q _ _ _ => k b ob q, fun b ob q _ _ _ => ⟨ob.slots, k b ob q⟩, fun _ _ _ n _ => n, fun b ob q _ => ⟨ob, k b ob q⟩, fun _ _ q => q, fun _ _ _ q => q, fun _ ps q => ⟨#[], by rw [q]; simp⟩⟩
theorem Un.refl : Un fs ex H H h h := Un.kept fun _ _ q => q
theorem Un.laid (k : ∀ b u, h.get? b = some u → h'.get? b = some u) (hp : h.objs.size ≤ a) (hn : H a = none) : Un fs ex H (upd H a o) h h' where
  keep := fun b u q _ _ _ => k b u q
  slot := fun b u q _ _ _ => ⟨u.slots, k b u q⟩
  free := fun b u q n _ => by rw [upd_ne (Nat.ne_of_lt (Nat.lt_of_lt_of_le (Heap.lt_size q) hp))]; exact n
  there := fun b u q _ => ⟨u, k b u q⟩
  tups := fun b xs q => by rw [upd_ne (ne_of_none q hn)]; exact q
  frzs := fun b u xs q => by rw [upd_ne (ne_of_none q hn)]; exact q
  tbls := fun b ps q => ⟨#[], by rw [upd_ne (ne_of_none q hn), q]; simp⟩
theorem Un.write (mu : Mut (H x)) (he : e = x ∨ H e = some (.own x)) (k : ∀ b u, b ≠ e → h.get? b = some u → h'.get? b = some u) (heo : ∃ u, h'.get? e = some u) : Un fs ex H (upd H x o) h h' := by
  have hx : ∀ b, H b = none → b ≠ x := fun b n z => by subst z; rw [n] at mu; exact mu
  have hb : ∀ b, H b = none → b ≠ e := fun b n z => by
    subst z
    rcases he with r | r
    · exact hx b n r
    · rw [n] at r; cases r
  have hm : ∀ b u, H b = some u → ¬ Mut (some u) → b ≠ x := fun b u q nm z => by subst z; rw [q] at mu; exact nm mu
  refine ⟨fun b u q n _ _ => k b u (hb b n) q, fun b u q n _ _ => ⟨u.slots, k b u (hb b n) q⟩, fun b u q n _ => by rw [upd_ne (hx b n)]; exact n, fun b u q _ => ?_,
    fun b xs q => by rw [upd_ne (hm b _ q fun z => z)]; exact q, fun b u xs q => by rw [upd_ne (hm b _ q fun z => z)]; exact q, fun b ps q => ⟨#[], by rw [upd_ne (hm b _ q fun z => z), q]; simp⟩⟩
  by_cases hbe : b = e
  · subst hbe; exact heo
  · exact ⟨u, k b u hbe q⟩
theorem Un.mono (u : Un fs ex H H1 h h1) (hs : ∀ b ∈ fs, b ∈ fs') (hx : ∀ b ∈ ex, b ∈ ex') : Un fs' ex' H H1 h h1 :=
  ⟨fun b ob q n hb he => u.keep b ob q n (fun z => hb (hs b z)) fun z => he (hx b z), fun _ _ q n _ he => u.any q n fun z => he (hx _ z), fun b ob q n he => u.free b ob q n fun z => he (hx b z), fun b ob q he => u.there b ob q fun z => he (hx b z), u.tups, u.frzs, u.tbls⟩
end
def trk (h : Heap) (H : Hp) : List Addr := (List.range h.objs.size).filter fun a => (H a).isSome
def hidT (h : Heap) (H : Hp) : Heap := PySem.W.hideAll h (trk h H)
theorem hidT_size (h : Heap) (H : Hp) : (hidT h H).objs.size = h.objs.size := PySem.W.hideAll_size _ _
theorem hidT_get {h : Heap} {H : Hp} {b : Addr} {o : Obj} (e : h.get? b = some o) (n : H b = none) : (hidT h H).get? b = some o :=
  PySem.W.hideAll_get _ e fun hm => by
    have q : (H b).isSome = true := (List.mem_filter.mp hm).2
    rw [n] at q; simp at q
theorem of_hidT {h : Heap} {H : Hp} {b : Addr} {o : Obj} (e : (hidT h H).get? b = some o) : h.get? b = some o ∧ H b = none := by
  have e' : h.get? b = some o := PySem.W.of_hideAll (trk h H) e
  refine ⟨e', ?_⟩
  cases q : H b with
  | none => rfl
  | some x =>
    have hm : b ∈ trk h H := List.mem_filter.mpr ⟨List.mem_range.mpr (Heap.lt_size e'), by simp [q]⟩
    have z : (hidT h H).get? b = none := PySem.W.hideAll_none (trk h H) hm
    rw [z] at e; cases e
def allNews (g h : Heap) (L : Addr) : List (Addr × Obj) := (List.range h.objs.size).filterMap fun a => if a = L ∨ (g.get? a).isSome = true then none else (h.get? a).map fun o => (a, o)
def rest (g h : Heap) (L d : Addr) : List (Addr × Obj) := (allNews g h L).filter fun p => decide (p.1 ≠ d)
end L2
namespace L2
open PySem PySem.Spec PyProof.Rows
structure Mod (K : PySem.W.Frag) (mg : Str → Option Value) (base : Heap) : Prop where
  kin : K.In base
  glob : base.Ns mainGlobals mg
  blt : ∃ mb, base.Ns builtinsNs mb ∧ ∀ x : Str, x ≠ "__name__" → mb x = bootBuiltins x
  nolimit : base.NoLimit
structure Cx where
  prog : Program
  w : World
  K : PySem.W.Frag
  mg : Str → Option Value
  base : Heap
  A : Around
  N : List Str
  s₀ : Shared
  H₀ : Hp
  env : Env
  outer : List Env
  stack : List Env
  ex : List Addr
  fn : Str → Bool
  calm : Bool
  pn : List (Addr × Obj)
  xe : Value → Shared → Prop
def frs (l : List Env) : List Addr := l.filterMap (·.frame)
abbrev Cx.fs (X : Cx) : List Addr := frs X.outer
def Vis (sc : Scope) (x : Str) : Prop := sc.names.lookup x = some .local ∨ sc.names.lookup x = some .cell ∨ sc.names.lookup x = some .free
def Loc (sc : Scope) (x : Str) : Prop := sc.names.lookup x = some .local ∨ sc.names.lookup x = some .cell
def Look (env : Env) (h : Heap) (m : Str → Option Value) (x : Str) (u : Value) : Prop :=
  (env.kindOf x = some .local ∧ m x = some u) ∨ ((env.kindOf x = some .cell ∨ env.kindOf x = some .free) ∧ ∃ c, env.cells.lookup x = some c ∧ h.IsCell c (some u))
structure Cx.Ok (X : Cx) : Prop where
  mod : Mod X.K X.mg X.base
  kind : X.env.scope.kind = .function
  glob : X.env.globals = mainGlobals
  blt : X.env.builtins = builtinsNs
  above : X.s₀.heap.objs.size ≤ X.env.locals
  inj : ∀ x y c, X.env.cells.lookup x = some c → X.env.cells.lookup y = some c → x = y
  has : ∀ x, (X.env.kindOf x = some .cell ∨ X.env.kindOf x = some .free) → ∃ c, X.env.cells.lookup x = some c
  cab : ∀ x c, X.fn x = true → X.env.cells.lookup x = some c → X.s₀.heap.objs.size ≤ c
  hd : X.calm = true → X.A.handled = none
  frames : X.A.frames = some X.stack
  stk : X.stack = X.outer ∨ (X.stack = X.env :: X.outer ∧ X.env.frame = some X.env.locals)
  exf : ∀ b ∈ X.ex, b ≠ X.env.locals ∧ ∀ x c, X.env.cells.lookup x = some c → c ≠ b
  bs : ∀ b o, X.base.get? b = some o → X.s₀.heap.get? b = some o ∧ X.H₀ b = none
  bsz : X.base.objs.size ≤ X.s₀.heap.objs.size
  noex : ∀ b o, X.base.get? b = some o → b ∉ X.ex
  exfs : ∀ b ∈ X.ex, b ∉ X.fs
  funs : X.s₀.heap.FunFrames X.base X.outer
  frf : ∀ b ∈ X.fs, X.H₀ b = none
structure Inv (X : Cx) (pins : List (Addr × Obj)) (σ : List (Option V)) (H : Hp) (s : Shared) : Prop where
  ok : X.Ok
  os : s.os = X.s₀.os
  bare : AllBare s.gens
  base : Un X.fs X.ex X.H₀ H X.s₀.heap s.heap
  loc : ∃ m, s.heap.Ns X.env.locals m ∧ ∀ (i : Nat) (x : Str) (v : V), X.N[i]? = some x → σ[i]? = some (some v) → Vis X.env.scope x → ∃ u, RelV v u ∧ Look X.env s.heap m x u
  cell : ∀ x c, X.env.cells.lookup x = some c → ∃ v, s.heap.IsCell c v
  free : H X.env.locals = none
  freeC : ∀ x c, X.env.cells.lookup x = some c → H c = none
  pin : ∀ p ∈ X.pn ++ pins, s.heap.get? p.1 = some p.2 ∧ H p.1 = none ∧ p.1 ≠ X.env.locals ∧ p.1 ∉ X.fs ∧ ∀ v, p.2.data ≠ .cell v
  hok : HOk X.prog X.w H s.heap
  len : σ.length = X.N.length
section
variable {X : Cx} {pins : List (Addr × Obj)} {σ : List (Option V)} {H H' : Hp} {s : Shared} {h' : Heap}
theorem Cx.Ok.nofr (ok : X.Ok) {b : Addr} {o : Obj} (e : X.base.get? b = some o) : b ∉ X.fs := fun hb => by
  have := (ok.funs.mem hb).1
  rw [e] at this; cases this
theorem Inv.bs (I : Inv X pins σ H s) : ∀ b o, X.base.get? b = some o → s.heap.get? b = some o ∧ H b = none := fun b o e =>
  ⟨I.base.keep b o (I.ok.bs b o e).1 (I.ok.bs b o e).2 (I.ok.nofr e) (I.ok.noex b o e), I.base.free b o (I.ok.bs b o e).1 (I.ok.bs b o e).2 (I.ok.noex b o e)⟩
theorem Inv.bk (I : Inv X pins σ H s) : ∀ b o, X.base.get? b = some o → s.heap.get? b = some o := fun b o e => (I.bs b o e).1
theorem Inv.mod (I : Inv X pins σ H s) : Mod X.K X.mg X.base := I.ok.mod
theorem Inv.kIn (I : Inv X pins σ H s) : X.K.In s.heap := I.ok.mod.kin.keeps I.bk
theorem Inv.lt (I : Inv X pins σ H s) : X.env.locals < s.heap.objs.size := let ⟨_, hn, _⟩ := I.loc; hn.lt
theorem Inv.sz (I : Inv X pins σ H s) : X.s₀.heap.objs.size ≤ s.heap.objs.size := Nat.le_trans I.ok.above (Nat.le_of_lt I.lt)
theorem Inv.nofs (I : Inv X pins σ H s) {a : Addr} (h : s.heap.objs.size ≤ a) : a ∉ X.fs := fun hb => by
  obtain ⟨_, o, ho, _⟩ := I.ok.funs.mem hb
  exact absurd (Nat.lt_of_lt_of_le (Heap.lt_size ho) (Nat.le_trans I.sz h)) (Nat.lt_irrefl _)
theorem Inv.cne (I : Inv X pins σ H s) : ∀ x c, X.env.cells.lookup x = some c → c ≠ X.env.locals := fun x c e z => by
  obtain ⟨v, o, ho, hd⟩ := I.cell x c e
  obtain ⟨m, ⟨o', es, ep, ho', hd', _⟩, _⟩ := I.loc
  rw [z, ho'] at ho; cases ho; rw [hd'] at hd; cases hd
theorem Inv.funs (I : Inv X pins σ H s) : s.heap.FunFrames X.base X.outer := by
  have all : ∀ (l : List Env), (∀ b ∈ frs l, b ∈ X.fs) → X.s₀.heap.FunFrames X.base l → s.heap.FunFrames X.base l := by
    intro l
    induction l with
    | nil => intro _ _; trivial
    | cons env r ih =>
      intro hs hl
      obtain ⟨hk, ⟨L, o, hf, hn, ho, hd⟩, hr⟩ := hl
      have hL : L ∈ X.fs := hs L (by unfold frs; rw [List.filterMap_cons, hf]; exact List.mem_cons_self)
      obtain ⟨sl, e⟩ := I.base.slot L o ho (I.ok.frf L hL) hL fun z => I.ok.exfs L z hL
      exact ⟨hk, ⟨L, _, hf, hn, e, hd⟩, ih (fun b hb => hs b (by unfold frs; rw [List.filterMap_cons, hf]; exact List.mem_cons_of_mem _ hb)) hr⟩
  exact all X.outer (fun _ hb => hb) I.ok.funs
theorem Inv.stack (I : Inv X pins σ H s) : s.heap.FunFrames X.base X.stack := by
  rcases I.ok.stk with e | ⟨e, hf⟩
  · rw [e]; exact I.funs
  · rw [e]
    obtain ⟨m, hn, _⟩ := I.loc
    refine .cons (by rw [I.ok.kind]; decide) hf hn ?_ I.funs
    exact Heap.get?_none_of_le (Nat.le_trans I.ok.bsz I.ok.above)
theorem Inv.stkSub (I : Inv X pins σ H s) : ∀ b ∈ frs X.stack, b ∈ X.env.locals :: X.fs := fun b hb => by
  rcases I.ok.stk with e | ⟨e, hf⟩
  · rw [e] at hb; exact List.mem_cons_of_mem _ hb
  · rw [e] at hb
    unfold frs at hb
    rw [List.filterMap_cons, hf] at hb
    exact hb
theorem Inv.stkFree (I : Inv X pins σ H s) : ∀ b ∈ frs X.stack, H b = none := fun b hb => by
  rcases List.mem_cons.mp (I.stkSub b hb) with e | hb
  · rw [e]; exact I.free
  · obtain ⟨_, o, ho, _⟩ := I.ok.funs.mem hb
    exact I.base.free b o ho (I.ok.frf b hb) fun z => I.ok.exfs b z hb
theorem Inv.step {g' : Array GenState} {t' : Nat} {d' : Drawn} {ch : List Addr} (I : Inv X pins σ H s)
    (hch : ∀ b ∈ ch, (b ∈ X.ex ∨ X.s₀.heap.objs.size ≤ b) ∧ b ≠ X.env.locals ∧ (∀ x c, X.env.cells.lookup x = some c → c ≠ b) ∧ ∀ p ∈ X.pn ++ pins, p.1 ≠ b)
    (keep : ∀ b o, b ≠ X.env.locals → b ∉ X.fs → b ∉ ch → s.heap.get? b = some o → H b = none → h'.get? b = some o)
    (slot : ∀ b o, b ≠ X.env.locals → b ∈ X.fs → b ∉ ch → s.heap.get? b = some o → H b = none → ∃ sl, h'.get? b = some { o with slots := sl }) (free : ∀ b o, b ∉ ch → s.heap.get? b = some o → H b = none → H' b = none)
    (there : ∀ b o, b ∉ ch → s.heap.get? b = some o → ∃ o', h'.get? b = some o')
    (tups : ∀ b xs, H b = some (.tup xs) → H' b = some (.tup xs)) (frzs : ∀ b o u, H b = some (.frz o u) → H' b = some (.frz o u)) (tbls : ∀ b ps, H b = some (.tbl ps) → ∃ more, H' b = some (.tbl (ps ++ more)))
    (ns : ∀ m, s.heap.Ns X.env.locals m → h'.Ns X.env.locals m) (hok : HOk X.prog X.w H' h') (hg : AllBare g') :
    Inv X pins σ H' { s with heap := h', gens := g', drawn := d', toks := t' } := by
  have neL : ∀ b o, X.s₀.heap.get? b = some o → b ≠ X.env.locals := fun b o e => Nat.ne_of_lt (Nat.lt_of_lt_of_le (Heap.lt_size e) I.ok.above)
  have neC : ∀ b o, X.s₀.heap.get? b = some o → b ∉ X.ex → b ∉ ch := fun b o e hx hb => by
    rcases (hch b hb).1 with z | z
    · exact hx z
    · exact absurd (Nat.lt_of_lt_of_le (Heap.lt_size e) z) (Nat.lt_irrefl _)
  have cellK : ∀ x c, X.env.cells.lookup x = some c → ∀ v, s.heap.IsCell c v → h'.IsCell c v := fun x c e v zz1 => el2 zz1 fun o ho hd => by
    have nch : c ∉ ch := fun z => (hch c z).2.2.1 x c e rfl
    by_cases hc : c ∈ X.fs
    · obtain ⟨sl, q⟩ := slot c o (I.cne x c e) hc nch ho (I.freeC x c e)
      exact ⟨_, q, hd⟩
    · exact ⟨o, keep c o (I.cne x c e) hc nch ho (I.freeC x c e), hd⟩
  refine ⟨I.ok, I.os, hg, ⟨fun b o e n hb hx => ?_, fun b o e n hb hx => ?_, fun b o e n hx => ?_, fun b o e hx => ?_, fun b xs e => tups b xs (I.base.tups b xs e), fun b o xs e => frzs b o xs (I.base.frzs b o xs e), fun b ps e => ?_⟩, ?_, fun x c e => ?_, ?_, fun x c e => ?_, fun p hp => ?_, hok, I.len⟩
  · exact keep b o (neL b o e) hb (neC b o e hx) (I.base.keep b o e n hb hx) (I.base.free b o e n hx)
  · obtain ⟨sl, e1⟩ := I.base.slot b o e n hb hx
    obtain ⟨sl', e2⟩ := slot b _ (neL b o e) hb (neC b o e hx) e1 (I.base.free b o e n hx)
    exact ⟨sl', e2⟩
  · obtain ⟨o', e1⟩ := I.base.there b o e hx
    exact free b o' (neC b o e hx) e1 (I.base.free b o e n hx)
  · obtain ⟨o', e1⟩ := I.base.there b o e hx
    exact there b o' (neC b o e hx) e1
  · obtain ⟨m1, e1⟩ := I.base.tbls b ps e
    obtain ⟨m2, e2⟩ := tbls b _ e1
    exact ⟨m1 ++ m2, by rw [e2, Array.append_assoc]⟩
  · obtain ⟨m, hn, hl⟩ := I.loc
    refine ⟨m, ns m hn, fun i x v e1 e2 e3 => ?_⟩
    obtain ⟨u, r, l⟩ := hl i x v e1 e2 e3
    refine ⟨u, r, ?_⟩
    rcases l with l | ⟨k, c, e, z⟩
    · exact .inl l
    · exact .inr ⟨k, c, e, cellK x c e _ z⟩
  · obtain ⟨v, z⟩ := I.cell x c e
    exact ⟨v, cellK x c e v z⟩
  · obtain ⟨m, ⟨o, _, _, ho, _⟩, _⟩ := I.loc
    exact free _ o (fun z => (hch _ z).2.1 rfl) ho I.free
  · obtain ⟨v, o, ho, hd⟩ := I.cell x c e
    exact free c o (fun z => (hch c z).2.2.1 x c e rfl) ho (I.freeC x c e)
  · obtain ⟨e, n, ne, nf, d⟩ := I.pin p hp
    have nch : p.1 ∉ ch := fun z => (hch p.1 z).2.2.2 p hp rfl
    exact ⟨keep p.1 p.2 ne nf nch e n, free p.1 p.2 nch e n, ne, nf, d⟩
theorem Inv.un {t' : Nat} (I : Inv X pins σ H s) (u : Un X.fs [] H H' s.heap h') (hok : HOk X.prog X.w H' h') : Inv X pins σ H' { s with heap := h', toks := t' } := by
  obtain ⟨m, ⟨o, es, ep, ho, r⟩, _⟩ := id I.loc
  obtain ⟨sl, hL⟩ := u.any ho I.free (by simp)
  exact I.step (g' := s.gens) (d' := s.drawn) (ch := []) (fun _ z => nomatch z) (fun b o _ hb _ e n => u.keep b o e n hb (by simp)) (fun b o _ hb _ e n => u.slot b o e n hb (by simp)) (fun b o _ e n => u.free b o e n (by simp)) (fun b o _ e => u.there b o e (by simp)) u.tups u.frzs u.tbls (fun m' hm => by
    obtain ⟨o', es', ep', ho', r'⟩ := hm
    rw [ho] at ho'; cases ho'
    exact ⟨_, es', ep', hL, r'⟩) hok I.bare
theorem Inv.call {g' : Array GenState} {t' : Nat} {d' : Drawn} {ch : List Addr} (I : Inv X pins σ H s) (u : Un (frs X.stack) ch H H' s.heap h') (hok : HOk X.prog X.w H' h') (hg : AllBare g')
    (hch : ∀ b ∈ ch, (b ∈ X.ex ∨ X.s₀.heap.objs.size ≤ b) ∧ b ≠ X.env.locals ∧ (∀ x c, X.env.cells.lookup x = some c → c ≠ b) ∧ ∀ p ∈ X.pn ++ pins, p.1 ≠ b) :
    Inv X pins σ H' { s with heap := h', gens := g', drawn := d', toks := t' } := by
  obtain ⟨m, ⟨o, es, ep, ho, r⟩, _⟩ := id I.loc
  obtain ⟨sl, hL⟩ := u.any ho I.free fun z => (hch _ z).2.1 rfl
  exact I.step (ch := ch) hch (fun b o hL hb hc e n => u.keep b o e n (fun z => (List.mem_cons.mp (I.stkSub b z)).elim hL hb) hc) (fun b o _ _ hc e n => u.any e n hc) (fun b o hc e n => u.free b o e n hc) (fun b o hc e => u.there b o e hc) u.tups u.frzs u.tbls (fun m' hm => by
    obtain ⟨o', es', ep', ho', r'⟩ := hm
    rw [ho] at ho'; cases ho'
    exact ⟨_, es', ep', hL, r'⟩) hok hg
theorem Inv.turned {t' : Nat} {it : Addr} (I : Inv X pins σ H s) (k : ∀ b o, b ≠ it → s.heap.get? b = some o → h'.get? b = some o) (hn : H it = none) (hL : it ≠ X.env.locals)
    (h1 : it ∈ X.ex ∨ X.s₀.heap.objs.size ≤ it) (h2 : ∀ x c, X.env.cells.lookup x = some c → c ≠ it) (h3 : ∀ p ∈ X.pn ++ pins, p.1 ≠ it) : Inv X pins σ H { s with heap := h', toks := t' } := by
  have nit : ∀ b u, H b = some u → b ≠ it := fun b u e z => by rw [z, hn] at e; cases e
  refine I.step (g' := s.gens) (d' := s.drawn) (ch := [it]) (fun b hb => ?_) (fun b o _ _ hc e _ => k b o (fun z => hc (by simp [z])) e) (fun b o _ _ hc e _ => ⟨o.slots, k b o (fun z => hc (by simp [z])) e⟩) (fun _ _ _ _ n => n)
    (fun b o hc e => ⟨o, k b o (fun z => hc (by simp [z])) e⟩) (fun _ _ e => e) (fun _ _ _ e => e) (fun b ps e => ⟨#[], by rw [e]; simp⟩) (fun m hm => ?_) (fun b u e => ?_) I.bare
  · have e : b = it := by simpa using hb
    subst e
    exact ⟨h1, hL, h2, h3⟩
  · obtain ⟨o, es, ep, ho, r⟩ := hm
    exact ⟨o, es, ep, k _ o (Ne.symm hL) ho, r⟩
  · refine (I.hok b u e).stay (fun c v hc q => k c v ?_ q) (fun _ q => q) fun _ _ q => q
    rcases hc with z | z
    · rw [z]; exact nit b u e
    · exact nit c _ z
theorem Inv.tok (I : Inv X pins σ H s) (t : Nat) : Inv X pins σ H { s with toks := t } := I.un (h' := s.heap) (t' := t) Un.refl I.hok
theorem Inv.kept {t' : Nat} (I : Inv X pins σ H s) (k : ∀ b u, s.heap.get? b = some u → h'.get? b = some u) : Inv X pins σ H { s with heap := h', toks := t' } := I.un (Un.kept k) (I.hok.kept k)
theorem Inv.laid {a : Addr} {o : HO} {t' : Nat} (I : Inv X pins σ H s) (k : ∀ b u, s.heap.get? b = some u → h'.get? b = some u) (hp : s.heap.objs.size ≤ a) (new : ObjOk X.prog X.w (upd H a o) h' a o) :
    Inv X pins σ (upd H a o) { s with heap := h', toks := t' } := I.un (Un.laid k hp (I.hok.fresh hp)) (I.hok.laid k hp new)
theorem Inv.write {x e : Addr} {o : HO} {t' : Nat} (I : Inv X pins σ H s) (mu : Mut (H x)) (he : e = x ∨ H e = some (.own x)) (k : ∀ b u, b ≠ e → s.heap.get? b = some u → h'.get? b = some u) (heo : ∃ u, h'.get? e = some u)
    (new : ObjOk X.prog X.w (upd H x o) h' x o) : Inv X pins σ (upd H x o) { s with heap := h', toks := t' } := I.un (Un.write mu he k heo) (I.hok.write mu he k heo new)
theorem Inv.weak {σ' : List (Option V)} (I : Inv X pins σ H s) (hl : σ'.length = σ.length) (w : ∀ (i : Nat) v, σ'[i]? = some (some v) → σ[i]? = some (some v)) : Inv X pins σ' H s :=
  ⟨I.ok, I.os, I.bare, I.base, let ⟨m, hn, hl'⟩ := I.loc; ⟨m, hn, fun i x v e1 e2 e3 => hl' i x v e1 (w i v e2) e3⟩, I.cell, I.free, I.freeC, I.pin, I.hok, hl.trans I.len⟩
theorem Inv.pins_of {pins' : List (Addr × Obj)} (I : Inv X pins σ H s) (h : ∀ p ∈ pins', s.heap.get? p.1 = some p.2 ∧ H p.1 = none ∧ p.1 ≠ X.env.locals ∧ p.1 ∉ X.fs ∧ ∀ v, p.2.data ≠ .cell v) : Inv X pins' σ H s :=
  ⟨I.ok, I.os, I.bare, I.base, I.loc, I.cell, I.free, I.freeC, fun p hp => (List.mem_append.mp hp).elim (fun z => I.pin p (List.mem_append_left _ z)) (h p), I.hok, I.len⟩
theorem nodup_ix {N : List Str} (hN : N.Nodup) {i j : Nat} {x : Str} (a : N[i]? = some x) (b : N[j]? = some x) : i = j := by
  obtain ⟨h1, e1⟩ := List.getElem?_eq_some_iff.mp a
  obtain ⟨h2, e2⟩ := List.getElem?_eq_some_iff.mp b
  exact (List.getElem_inj hN).mp (e1.trans e2.symm)
theorem store_ok2 {M : Model} {A : Around} {E : Value → Shared → Prop} {i : Nat} {x : Str} {v : V} {u : Value} {Q : Unit → Shared → Prop} (I : Inv X pins σ H s) (hN : X.N.Nodup) (hi : X.N[i]? = some x) (hx : Loc X.env.scope x) (r : RelV v u)
    (h : ∀ s', Inv X pins (σ.set i (some v)) H s' → (∃ a, Heap.SameBut a s.heap s'.heap ∧ (a = X.env.locals ∨ X.env.cells.lookup x = some a)) → Q () s') (hf : X.fn x = true ∨ X.env.scope.names.lookup x = some .local := by first | exact .inl rfl | exact .inr rfl | assumption) : wpAny M A (storeName X.env x u) Q E s := by
  obtain ⟨m, hn, hl⟩ := id I.loc
  have hcls : (X.env.scope.kind == .class || (X.env.scope.kind == .module && X.env.locals != X.env.globals)) = false := by rw [I.ok.kind]; rfl
  have hiσ : i < σ.length := by rw [I.len]; exact (List.getElem?_eq_some_iff.mp hi).1
  have cne := I.cne
  have tracked : ∀ {a : Addr} {h' : Heap}, (∃ o, s.heap.get? a = some o ∧ H a = none) → Heap.SameBut a s.heap h' → HOk X.prog X.w H h' := fun {a h'} ha hs b ob e => by
    obtain ⟨_, _, hfree⟩ := ha
    refine (I.hok b ob e).stay (fun c w' hc q => (hs.2 c ?_).trans q) (fun _ q => q) fun _ _ q => q
    rintro rfl
    rcases hc with rfl | hc
    · rw [hfree] at e; cases e
    · rw [hfree] at hc; cases hc
  rcases hx with hk | hk
  · refine wpAny_storeName_local hk hn (fun h' hn' hs => ?_) hcls
    obtain ⟨oL, _, _, hoL, _⟩ := id hn
    refine h _ ⟨I.ok, I.os, I.bare, ⟨fun b o e n hb hx => ?_, fun b o e n hb hx => ?_, I.base.free, fun b o e hx => ?_, I.base.tups, I.base.frzs, I.base.tbls⟩, ⟨_, hn', fun j y v' e1 e2 e3 => ?_⟩, fun y c e => ?_, I.free, I.freeC, fun p hp => ?_, tracked ⟨oL, hoL, I.free⟩ hs, by simpa using I.len⟩ ⟨_, hs, .inl rfl⟩
    · exact (hs.2 b (Nat.ne_of_lt (Nat.lt_of_lt_of_le (Heap.lt_size e) I.ok.above))).trans (I.base.keep b o e n hb hx)
    · obtain ⟨sl, e1⟩ := I.base.slot b o e n hb hx
      exact ⟨sl, (hs.2 b (Nat.ne_of_lt (Nat.lt_of_lt_of_le (Heap.lt_size e) I.ok.above))).trans e1⟩
    · obtain ⟨o', e1⟩ := I.base.there b o e hx
      exact ⟨o', (hs.2 b (Nat.ne_of_lt (Nat.lt_of_lt_of_le (Heap.lt_size e) I.ok.above))).trans e1⟩
    · by_cases hj : j = i
      · subst hj
        rw [hi] at e1; cases e1
        rw [List.getElem?_set_self hiσ] at e2
        cases e2
        exact ⟨u, r, .inl ⟨hk, by simp⟩⟩
      · rw [List.getElem?_set_ne (Ne.symm hj)] at e2
        obtain ⟨u', r', q⟩ := hl j y v' e1 e2 e3
        refine ⟨u', r', ?_⟩
        rcases q with ⟨k, e⟩ | ⟨k, c, e, z⟩
        · refine .inl ⟨k, ?_⟩
          have : y ≠ x := fun e => hj (nodup_ix hN e1 (e ▸ hi))
          simp [this, e]
        · exact .inr ⟨k, c, e, z.sameBut hs (cne y c e)⟩
    · obtain ⟨w', z⟩ := I.cell y c e
      exact ⟨w', z.sameBut hs (cne y c e)⟩
    · obtain ⟨e, n, ne, nf, d⟩ := I.pin p hp
      exact ⟨(hs.2 p.1 ne).trans e, n, ne, nf, d⟩
  · have hfn : X.fn x = true := by
      rcases hf with z | z
      · exact z
      · rw [z] at hk; cases hk
    obtain ⟨c, hc⟩ := I.ok.has x (.inl hk)
    obtain ⟨w', z⟩ := I.cell x c hc
    refine wpAny_storeName_cell I.ok.kind hk hc z (fun h' hc' hs => ?_)
    obtain ⟨oc, hoc, hocd⟩ := id z
    refine h { s with heap := h' } ⟨I.ok, I.os, I.bare, ⟨fun b o e n hb hx => ?_, fun b o e n hb hx => ?_, I.base.free, fun b o e hx => ?_, I.base.tups, I.base.frzs, I.base.tbls⟩, ⟨m, hn.sameBut hs (Ne.symm (cne x c hc)), fun j y v' e1 e2 e3 => ?_⟩, fun y c' e => ?_, I.free, I.freeC, fun p hp => ?_, tracked ⟨oc, hoc, I.freeC x c hc⟩ hs, by simpa using I.len⟩ ⟨c, hs, .inr hc⟩
    · exact (hs.2 b (Nat.ne_of_lt (Nat.lt_of_lt_of_le (Heap.lt_size e) (I.ok.cab x c hfn hc)))).trans (I.base.keep b o e n hb hx)
    · obtain ⟨sl, e1⟩ := I.base.slot b o e n hb hx
      exact ⟨sl, (hs.2 b (Nat.ne_of_lt (Nat.lt_of_lt_of_le (Heap.lt_size e) (I.ok.cab x c hfn hc)))).trans e1⟩
    · obtain ⟨o', e1⟩ := I.base.there b o e hx
      exact ⟨o', (hs.2 b (Nat.ne_of_lt (Nat.lt_of_lt_of_le (Heap.lt_size e) (I.ok.cab x c hfn hc)))).trans e1⟩
    · by_cases hj : j = i
      · subst hj
        rw [hi] at e1; cases e1
        rw [List.getElem?_set_self hiσ] at e2
        cases e2
        exact ⟨u, r, .inr ⟨.inl hk, c, hc, hc'⟩⟩
      · rw [List.getElem?_set_ne (Ne.symm hj)] at e2
        obtain ⟨u', r', q⟩ := hl j y v' e1 e2 e3
        refine ⟨u', r', ?_⟩
        rcases q with q | ⟨k, c', e, z'⟩
        · exact .inl q
        · refine .inr ⟨k, c', e, z'.sameBut hs ?_⟩
          rintro rfl
          exact hj (nodup_ix hN e1 (I.ok.inj _ _ _ e hc ▸ hi))
    · by_cases hcc : c' = c
      · subst hcc; exact ⟨_, hc'⟩
      · obtain ⟨w2, z2⟩ := I.cell y c' e
        exact ⟨w2, z2.sameBut hs hcc⟩
    · obtain ⟨e, n, ne, nf, d⟩ := I.pin p hp
      refine ⟨(hs.2 p.1 ?_).trans e, n, ne, nf, d⟩
      intro q
      rw [q, hoc] at e
      have q' : oc = p.2 := Option.some.inj e
      exact d w' (by rw [← q']; exact hocd)
theorem store_ok {M : Model} {A : Around} {E : Value → Shared → Prop} {i : Nat} {x : Str} {v : V} {u : Value} {Q : Unit → Shared → Prop} (I : Inv X pins σ H s) (hN : X.N.Nodup) (hi : X.N[i]? = some x) (hx : Loc X.env.scope x) (r : RelV v u)
    (h : ∀ s', Inv X pins (σ.set i (some v)) H s' → Q () s') (hf : X.fn x = true ∨ X.env.scope.names.lookup x = some .local := by first | exact .inl rfl | exact .inr rfl | assumption) : wpAny M A (storeName X.env x u) Q E s :=
  store_ok2 I hN hi hx r (fun s' I' _ => h s' I') hf
theorem Inv.call' {s' : Shared} {ch : List Addr} (I : Inv X pins σ H s) (ho : s'.os = s.os) (u : Un (frs X.stack) ch H H' s.heap s'.heap) (hok : HOk X.prog X.w H' s'.heap) (hg : AllBare s'.gens)
    (hch : ∀ b ∈ ch, (b ∈ X.ex ∨ X.s₀.heap.objs.size ≤ b) ∧ b ≠ X.env.locals ∧ (∀ x c, X.env.cells.lookup x = some c → c ≠ b) ∧ ∀ p ∈ X.pn ++ pins, p.1 ≠ b) : Inv X pins σ H' s' := by
  obtain ⟨h', g', d', t', o'⟩ := s'
  have e : o' = s.os := ho
  subst e
  exact I.call (g' := g') (t' := t') (d' := d') u hok hg hch
end
abbrev XK := Value → Option Addr → Hp → Prop
abbrev St := List (Option V)
abbrev VK := V → Hp → Prop
abbrev TE := St → Hp → VK → Prop
abbrev TT := St → Hp → (Bool → Hp → Prop) → Prop
abbrev TA := St → Hp → (List V → Hp → Prop) → Prop
structure Ends where
  nx : St → Hp → Prop
  rt : VK
  bk : St → Hp → Prop := fun _ _ => False
  ct : St → Hp → Prop := fun _ _ => False
abbrev TS := Ends → St → Hp → Prop
def EP (X : Cx) (pins : List (Addr × Obj)) (σ : St) (Q : VK) (u : Value) (s' : Shared) : Prop := ∃ v H', Inv X pins σ H' s' ∧ RelV v u ∧ Q v H'
def TP (X : Cx) (pins : List (Addr × Obj)) (σ : St) (Q : Bool → Hp → Prop) (b : Bool) (s' : Shared) : Prop := ∃ H', Inv X pins σ H' s' ∧ Q b H'
def AP (X : Cx) (pins : List (Addr × Obj)) (σ : St) (Q : List V → Hp → Prop) (us : List Value) (s' : Shared) : Prop := ∃ vs H', Inv X pins σ H' s' ∧ Vals vs us ∧ Q vs H'
def SP (X : Cx) (pins : List (Addr × Obj)) (D : Ends) (f : Flow) (s' : Shared) : Prop :=
  match f with
  | .next => ∃ σ' H', Inv X pins σ' H' s' ∧ D.nx σ' H'
  | .brk => ∃ σ' H', Inv X pins σ' H' s' ∧ D.bk σ' H'
  | .cont => ∃ σ' H', Inv X pins σ' H' s' ∧ D.ct σ' H'
  | .ret u => ∃ v σ' H', Inv X pins σ' H' s' ∧ RelV v u ∧ D.rt v H'
def PE (X : Cx) (e : Expr) (t : TE) : Prop :=
  ∀ (pins : List (Addr × Obj)) (s : Shared) (σ : St) (H : Hp) (Q : VK), Inv X pins σ H s → t σ H Q → wpAny (model X.prog X.w) X.A (eval e X.env) (EP X pins σ Q) X.xe s
def PT (X : Cx) (e : Expr) (t : TT) : Prop :=
  ∀ (pins : List (Addr × Obj)) (s : Shared) (σ : St) (H : Hp) (Q : Bool → Hp → Prop), Inv X pins σ H s → t σ H Q → wpAny (model X.prog X.w) X.A (isTrue e X.env (eval e X.env)) (TP X pins σ Q) X.xe s
def PW (X : Cx) (e : Expr) (t : TT) : Prop :=
  ∀ (whole : Sem Value) (pins : List (Addr × Obj)) (s : Shared) (σ : St) (H : Hp) (Q : Bool → Hp → Prop), Inv X pins σ H s → t σ H Q → wpAny (model X.prog X.w) X.A (isTrue e X.env whole) (TP X pins σ Q) X.xe s
theorem PW.pt {X : Cx} {e : Expr} {t : TT} (h : PW X e t) : PT X e t := h _
def PA (X : Cx) (es : List Expr) (t : TA) : Prop :=
  ∀ (pos : Pos) (pins : List (Addr × Obj)) (s : Shared) (σ : St) (H : Hp) (Q : List V → Hp → Prop), Inv X pins σ H s → t σ H Q → wpAny (model X.prog X.w) X.A (spliced (backTo pos (starEach es X.env))) (AP X pins σ Q) X.xe s
def PS (X : Cx) (st : Stmt) (t : TS) : Prop :=
  ∀ (pins : List (Addr × Obj)) (s : Shared) (σ : St) (H : Hp) (D : Ends), Inv X pins σ H s → t D σ H → wpAny (model X.prog X.w) X.A (exec st X.env) (SP X pins D) X.xe s
def PSs (X : Cx) (st : List Stmt) (t : TS) : Prop :=
  ∀ (pins : List (Addr × Obj)) (s : Shared) (σ : St) (H : Hp) (D : Ends), Inv X pins σ H s → t D σ H → wpAny (model X.prog X.w) X.A (execs st X.env) (SP X pins D) X.xe s
theorem thn {α : Type} {t : Sem α} {Q Q' : α → Shared → Prop} {M : Model} {A : Around} {E : Value → Shared → Prop} {s : Shared} (h : wpAny M A t Q E s) (hQ : ∀ a s, Q a s → Q' a s) : wpAny M A t Q' E s := wpAny_mono h hQ fun _ _ x => x
end L2
namespace L2
open PySem PySem.Spec PyProof.Rows
section
variable {X : Cx}
def tVar (i : Nat) : TE := fun σ H Q => ∃ v, σ[i]? = some (some v) ∧ Q v H
def tC (v : V) : TE := fun _ H Q => Q v H
theorem pe_var {i : Nat} {x : Str} {pos : Pos} (hN : X.N[i]? = some x) (hv : Vis X.env.scope x) (hd : (x == ("__debug__" : Str)) = false := by decide) (hcd : (x == ("__classdict__" : Str)) = false := by decide) : PE X (.Name x pos) (tVar i) := by
  intro pins s σ H Q I h
  obtain ⟨v, e, h⟩ := h
  obtain ⟨m, hn, hl⟩ := I.loc
  obtain ⟨u, r, l⟩ := hl i x v hN e hv
  have fin : EP X pins σ Q u s := ⟨v, H, I, r, h⟩
  rcases l with ⟨hk, hm⟩ | ⟨hk, c, hc, hcell⟩
  · exact wpAny_Name (wpAny_loadName_local I.ok.kind hk hn hm fin) hd
  · rcases hk with hk | hk
    · exact wpAny_Name (wpAny_loadName_cell I.ok.kind hk hc hcell fin) hd
    · exact wpAny_Name (wpAny_loadName_free I.ok.kind hk hc hcell fin hcd) hd
theorem pe_int {i j pos} : PE X (.Constant (.int i) j pos) (tC (.int i)) := fun _ _ _ H _ I h => wpAny_Constant_int ⟨.int i, H, I.tok _, ⟨_, rfl⟩, h⟩
theorem pe_bl {b j pos} : PE X (.Constant (.bool b) j pos) (tC (.bl b)) := fun _ _ _ H _ I h => Constant_bool ⟨.bl b, H, I, rfl, h⟩
theorem pe_non {j pos} : PE X (.Constant .none j pos) (tC .non) := fun _ _ _ H _ I h => Constant_none ⟨.non, H, I, rfl, h⟩
theorem pe_str {x j pos} : PE X (.Constant (.str x) j pos) (tC (.str x)) := fun _ _ _ H _ I h => Calls.Constant_str ⟨.str x, H, I.tok _, ⟨_, rfl⟩, h⟩
def Gl (X : Cx) (x : Str) : Prop := X.env.kindOf x = some .globalImplicit
theorem ld_glob {E : Value → Shared → Prop} {pins : List (Addr × Obj)} {s : Shared} {σ : St} {H : Hp} {x : Str} {u : Value} {pos : Pos} {Q : Value → Shared → Prop} (I : Inv X pins σ H s) (hg : Gl X x) (hm : X.mg x = some u) (h : Q u s)
    (hd : (x == ("__debug__" : Str)) = false := by decide) : wpAny (model X.prog X.w) X.A (eval (.Name x pos) X.env) Q E s :=
  Calls.Name_function_global I.ok.kind hg (Calls.loadGlobal_global (by rw [I.ok.glob]; exact I.mod.glob.keeps I.bk) hm h) hd
theorem ld_blt {E : Value → Shared → Prop} {pins : List (Addr × Obj)} {s : Shared} {σ : St} {H : Hp} {x : Str} {u : Value} {pos : Pos} {Q : Value → Shared → Prop} (I : Inv X pins σ H s) (hg : Gl X x) (hm : X.mg x = none) (hv : bootBuiltins x = some u) (h : Q u s)
    (hn : x ≠ "__name__" := by decide) (hd : (x == ("__debug__" : Str)) = false := by decide) : wpAny (model X.prog X.w) X.A (eval (.Name x pos) X.env) Q E s := by
  obtain ⟨mb, h1, h2⟩ := I.mod.blt
  exact Calls.Name_function_global I.ok.kind hg (Calls.loadGlobal_builtin (by rw [I.ok.glob]; exact I.mod.glob.keeps I.bk) hm (by rw [I.ok.blt]; exact h1.keeps I.bk) ((h2 x hn).trans hv) h) hd
theorem pe_glob {x : Str} {v : V} {u : Value} {pos : Pos} (hg : Gl X x) (hm : X.mg x = some u) (r : RelV v u) (hd : (x == ("__debug__" : Str)) = false := by decide) : PE X (.Name x pos) (tC v) :=
  fun _ _ _ H _ I h => ld_glob I hg hm ⟨v, H, I, r, h⟩ hd
theorem pe_bltn {x : Str} {v : V} {u : Value} {pos : Pos} (hg : Gl X x) (hm : X.mg x = none) (hv : bootBuiltins x = some u) (r : RelV v u) (hn : x ≠ "__name__" := by decide) (hd : (x == ("__debug__" : Str)) = false := by decide) : PE X (.Name x pos) (tC v) :=
  fun _ _ _ H _ I h => ld_blt I hg hm hv ⟨v, H, I, r, h⟩ hn hd
variable {a b : Expr} {ta tb : TE} {pos : Pos}
def tB (t : TE) : TT := fun σ H Q => t σ H fun x H1 => ∃ c, x = .bl c ∧ Q c H1
theorem pt_val {e : Expr} {t : TE} (h : PE X e t) (he : ∀ whole, isTrue e X.env whole = (do let v ← whole; standAt e.pos; holding [v] (truthy v)) := by intro _; rfl) : PT X e (tB t) := by
  intro pins s σ H Q I hw
  refine isTrue_plain (thn (h pins s σ H _ I hw) fun v s1 zz7 => el5 zz7 fun x H1 I1 r1 q1 => ?_) (he _)
  obtain ⟨d, rfl, q⟩ := q1
  cases r1
  exact wpAny_truthy_bool ⟨H1, I1, q⟩
variable {tA tB' : TT} {rest : List Expr}
def tAnd (t u : TT) : TT := fun σ H Q => t σ H fun c H1 => if c = true then u σ H1 Q else Q false H1
def tOr (t u : TT) : TT := fun σ H Q => t σ H fun c H1 => if c = true then Q true H1 else u σ H1 Q
theorem pw_and1 (ha : PT X a tA) : PW X (.BoolOp .And [a] pos) tA := by
  intro wh pins s σ H Q I h
  refine isTrue_and (thn (ha pins s σ H Q I h) fun c s1 e => ?_)
  cases c with
  | true => exact isTrue_and_nil e
  | false => exact e
theorem pw_or1 (ha : PT X a tA) : PW X (.BoolOp .Or [a] pos) tA := by
  intro wh pins s σ H Q I h
  refine isTrue_or (thn (ha pins s σ H Q I h) fun c s1 e => ?_)
  cases c with
  | false => exact isTrue_or_nil e
  | true => exact e
theorem pw_and (ha : PT X a tA) (hb : PW X (.BoolOp .And (b :: rest) pos) tB') : PW X (.BoolOp .And (a :: b :: rest) pos) (tAnd tA tB') := by
  intro wh pins s σ H Q I h
  refine isTrue_and (thn (ha pins s σ H _ I h) fun c s1 zz8 => el2 zz8 fun H1 I1 q1 => ?_)
  cases c with
  | true => exact hb wh pins s1 σ H1 Q I1 q1
  | false => exact ⟨H1, I1, q1⟩
theorem pw_or (ha : PT X a tA) (hb : PW X (.BoolOp .Or (b :: rest) pos) tB') : PW X (.BoolOp .Or (a :: b :: rest) pos) (tOr tA tB') := by
  intro wh pins s σ H Q I h
  refine isTrue_or (thn (ha pins s σ H _ I h) fun c s1 zz9 => el2 zz9 fun H1 I1 q1 => ?_)
  cases c with
  | true => exact ⟨H1, I1, q1⟩
  | false => exact hb wh pins s1 σ H1 Q I1 q1
end
end L2
namespace L2
open PySem PySem.Spec PyProof.Rows
def SqL (K : PySem.W.Frag) (H : Hp) (a : Addr) (xs : List V) : Prop :=
  Rd H a (.lst xs) ∨
    ∃ (o : Obj) (its : Array Value) (n : Nat), K.lookup a = some o ∧ o.cls = .type "list" ∧ o.dict = none ∧ o.data = .seq its n ∧ its.size ≤ sizeLine ∧ Vals xs its.toList
def SqT (K : PySem.W.Frag) (H : Hp) (a : Addr) (xs : List V) : Prop :=
  Rd H a (.tup xs) ∨
    ∃ (o : Obj) (its : Array Value) (n : Nat), K.lookup a = some o ∧ o.cls = .type "tuple" ∧ o.data = .seq its n ∧ its.size ≤ sizeLine ∧ Vals xs its.toList
section
variable {X : Cx} {pins : List (Addr × Obj)} {σ : St} {H : Hp} {s : Shared} {a : Addr} {xs ys : List V}
theorem SqL.of {K : PySem.W.Frag} (h : H a = some (.lst xs)) : SqL K H a xs := .inl (.inl h)
theorem SqT.of {K : PySem.W.Frag} (h : H a = some (.tup xs)) : SqT K H a xs := .inl (.inl h)
theorem Inv.list (I : Inv X pins σ H s) (h : SqL X.K H a xs) : ∃ its : List Value, Vals xs its ∧ PlainL s.heap a its.toArray ∧ xs.length ≤ sizeLine := by
  rcases h with h | ⟨o, its, n, hk, hc, hd, hs, hz, r⟩
  · obtain ⟨z, its, n, r, e⟩ := h.ok I.hok
    exact ⟨its, r, ⟨_, n, e, rfl, rfl, rfl⟩, z⟩
  · refine ⟨its.toList, r, ⟨o, n, I.kIn a o hk, hc, hd, by simpa using hs⟩, ?_⟩
    have e := r.length
    simp only [Array.length_toList] at e
    lia
theorem Inv.tuple (I : Inv X pins σ H s) (h : SqT X.K H a xs) : ∃ its : List Value, Vals xs its ∧ IsTup s.heap a its.toArray ∧ xs.length ≤ sizeLine := by
  rcases h with h | ⟨o, its, n, hk, hc, hs, hz, r⟩
  · obtain ⟨z, its, r, p⟩ := h.ok I.hok
    exact ⟨its, r, p, z⟩
  · refine ⟨its.toList, r, ⟨o, I.kIn a o hk, hc, n, by simpa using hs⟩, ?_⟩
    have e := r.length
    simp only [Array.length_toList] at e
    lia
end
abbrev Cx.wish (X : Cx) (E : Value → Shared → Prop) : Cx := { X with xe := E }
abbrev Cx.nox (X : Cx) : Cx := X.wish fun _ _ => False
theorem Cx.Ok.wish {X : Cx} (ok : X.Ok) (E : Value → Shared → Prop) : (X.wish E).Ok :=
  ⟨ok.mod, ok.kind, ok.glob, ok.blt, ok.above, ok.inj, ok.has, ok.cab, ok.hd, ok.frames, ok.stk, ok.exf, ok.bs, ok.bsz, ok.noex, ok.exfs, ok.funs, ok.frf⟩
theorem Cx.Ok.unwish {X : Cx} {E : Value → Shared → Prop} (ok : (X.wish E).Ok) : X.Ok :=
  ⟨ok.mod, ok.kind, ok.glob, ok.blt, ok.above, ok.inj, ok.has, ok.cab, ok.hd, ok.frames, ok.stk, ok.exf, ok.bs, ok.bsz, ok.noex, ok.exfs, ok.funs, ok.frf⟩
section
variable {X : Cx} {pins : List (Addr × Obj)} {σ : St} {H : Hp} {s : Shared} {E : Value → Shared → Prop}
theorem Inv.wish (I : Inv X pins σ H s) (E : Value → Shared → Prop) : Inv (X.wish E) pins σ H s := ⟨I.ok.wish E, I.os, I.bare, I.base, I.loc, I.cell, I.free, I.freeC, I.pin, I.hok, I.len⟩
theorem Inv.unwish (I : Inv (X.wish E) pins σ H s) : Inv X pins σ H s := ⟨I.ok.unwish, I.os, I.bare, I.base, I.loc, I.cell, I.free, I.freeC, I.pin, I.hok, I.len⟩
theorem SP.unwish {D : Ends} {f : Flow} {s' : Shared} (h : SP (X.wish E) pins D f s') : SP X pins D f s' := by
  cases f with
  | next => obtain ⟨σ', H', I, q⟩ := h; exact ⟨σ', H', I.unwish, q⟩
  | brk => obtain ⟨σ', H', I, q⟩ := h; exact ⟨σ', H', I.unwish, q⟩
  | cont => obtain ⟨σ', H', I, q⟩ := h; exact ⟨σ', H', I.unwish, q⟩
  | ret u => obtain ⟨v, σ', H', I, r, q⟩ := h; exact ⟨v, σ', H', I.unwish, r, q⟩
theorem PSs.nox {st : List Stmt} {t : TS} (h : PSs X.nox st t) : PSs X st t := fun pins s σ H D I hw =>
  wpAny_mono (h pins s σ H D (I.wish _) hw) (fun _ _ q => q.unwish) fun _ _ z => False.elim z
end
section
variable {X : Cx} {st : Stmt} {rest : List Stmt} {t u : TS} {e : Expr} {te : TE} {pos : Pos}
def tNext : TS := fun D σ H => D.nx σ H
def tSeq (t u : TS) : TS := fun D σ H => t { D with nx := u D } σ H
theorem pss_nil : PSs X [] tNext := fun _ _ σ H _ I h => wpAny_execs_nil ⟨σ, H, I, h⟩
theorem pss_cons (h1 : PS X st t) (h2 : PSs X rest u) : PSs X (st :: rest) (tSeq t u) := by
  intro pins s σ H D I h
  refine wpAny_execs_cons (thn (h1 pins s σ H { D with nx := u D } I h) fun f s1 q => ?_)
  cases f with
  | next =>
    obtain ⟨σ', H', I', q⟩ := q
    exact h2 pins s1 σ' H' D I' q
  | ret v => exact q
  | brk => exact q
  | cont => exact q
theorem pss_one (h1 : PS X st t) : PSs X [st] t := by
  intro pins s σ H D I h
  refine wpAny_execs_cons (thn (h1 pins s σ H D I h) fun f s1 q => ?_)
  cases f with
  | next => exact wpAny_execs_nil q
  | ret v => exact q
  | brk => exact q
  | cont => exact q
theorem Inv.quiet {pins : List (Addr × Obj)} {σ : St} {H : Hp} {s : Shared} (I : Inv X pins σ H s) : interactive X.env = false := by simp [interactive, I.ok.kind]
def tDrop (te : TE) : TS := fun D σ H => te σ H fun _ H1 => D.nx σ H1
theorem ps_expr (he : PE X e te) (hs : swapsWith e none pos.line X.env = pure false := by rfl) : PS X (.Expr e pos) (tDrop te) := by
  intro pins s σ H D I h
  exact wpAny_Expr_any (thn (he pins s σ H _ I h) fun v s1 zz20 => el5 zz20 fun x H1 I1 r1 q1 => ⟨σ, H1, I1, q1⟩) I.quiet hs
def tRet (te : TE) : TS := fun D σ H => te σ H D.rt
theorem ps_ret (he : PE X e te) : PS X (.Return (some e) pos) (tRet te) := by
  intro pins s σ H D I h
  exact wpAny_Return_some (thn (he pins s σ H _ I h) fun v s1 zz21 => el5 zz21 fun x H1 I1 r1 q1 => ⟨x, σ, H1, I1, r1, q1⟩)
def tIfS (c : TT) (t u : TS) : TS := fun D σ H => c σ H fun b H1 => if b = true then t D σ H1 else u D σ H1
theorem ps_if {c : Expr} {a b : List Stmt} {tc : TT} (hc : PT X c tc) (ha : PSs X a t) (hb : PSs X b u) : PS X (.If c a b pos) (tIfS tc t u) := by
  intro pins s σ H D I h
  refine wpAny_If (thn (hc pins s σ H _ I h) fun d s1 zz22 => el2 zz22 fun H1 I1 q1 => ?_)
  cases d with
  | true => exact ha pins s1 σ H1 D I1 q1
  | false => exact hb pins s1 σ H1 D I1 q1
end
abbrev TG := V → St → Hp → (St → Hp → Prop) → Prop
def PG (X : Cx) (target : Expr) (t : TG) : Prop :=
  ∀ (pins : List (Addr × Obj)) (s : Shared) (σ : St) (H : Hp) (v : V) (u : Value) (Q : St → Hp → Prop), Inv X pins σ H s → RelV v u → t v σ H Q →
    wpAny (model X.prog X.w) X.A (assign target X.env u) (fun _ s' => ∃ σ' H', Inv X pins σ' H' s' ∧ Q σ' H') X.xe s
abbrev TSet := V → V → V → Hp → (Hp → Prop) → Prop
def PSet (X : Cx) (t : TSet) : Prop :=
  ∀ (pins : List (Addr × Obj)) (s : Shared) (σ : St) (H : Hp) (o i v : V) (ov iv u : Value) (Q : Hp → Prop), Inv X pins σ H s → RelV o ov → RelV i iv → RelV v u → t o i v H Q →
    wpAny (model X.prog X.w) X.A (setItem ov iv u) (fun _ s' => ∃ H', Inv X pins σ H' s' ∧ Q H') X.xe s
abbrev TIp := V → V → Hp → VK → Prop
def PIp (X : Cx) (op : Operator) (t : TIp) : Prop :=
  ∀ (pins : List (Addr × Obj)) (s : Shared) (σ : St) (H : Hp) (x y : V) (v u : Value) (Q : VK), Inv X pins σ H s → RelV x v → RelV y u → t x y H Q →
    wpAny (model X.prog X.w) X.A (inplaceOp op v u) (EP X pins σ Q) X.xe s
section
variable {X : Cx} {pos : Pos}
def gName (i : Nat) : TG := fun v σ H Q => Q (σ.set i (some v)) H
theorem pg_name {i : Nat} {x : Str} (hN : X.N.Nodup) (hi : X.N[i]? = some x) (hx : Loc X.env.scope x) (hf : X.fn x = true ∨ X.env.scope.names.lookup x = some .local := by first | exact .inl rfl | exact .inr rfl | assumption) : PG X (.Name x pos) (gName i) := by
  intro pins s σ H v u Q I r h
  exact wpAny_assign_Name (store_ok I hN hi hx r (fun s' I' => ⟨_, H, I', h⟩) hf)
def gSub (to ti : TE) (t : TSet) : TG := fun v σ H Q => to σ H fun o H1 => ti σ H1 fun i H2 => t o i v H2 fun H3 => Q σ H3
theorem pg_sub {o i : Expr} {to ti : TE} {t : TSet} (ho : PE X o to) (hi : PE X i ti) (hs : PSet X t)
    (ha : ∀ v, assign (.Subscript o i pos) X.env v = (do
      let ov ← holding [v] (eval o X.env)
      let iv ← holding [v, ov] (eval i X.env)
      standAt pos
      holding [v, ov, iv] (setItem ov iv v)
      release [v, ov, iv] []) := by intro _; rfl) : PG X (.Subscript o i pos) (gSub to ti t) := by
  intro pins s σ H v u Q I r h
  rw [ha]
  refine wpAny_bind (wpAny_holding (thn (ho pins s σ H _ I h) fun ov s1 zz26 => el5 zz26 fun x H1 I1 r1 q1 => ?_))
  refine wpAny_bind (wpAny_holding (thn (hi pins s1 σ H1 _ I1 q1) fun iv s2 zz27 => el5 zz27 fun y H2 I2 r2 q2 => ?_))
  refine wpAny_bind (wpAny_standAt (wpAny_bind (wpAny_holding (thn (hs pins s2 σ H2 x y v ov iv u _ I2 r1 r2 r q2) fun _ s3 zz28 => el2 zz28 fun H3 I3 q3 => ?_))))
  exact wpAny_release ⟨σ, H3, I3, q3⟩
def tAsg (te : TE) (g : TG) : TS := fun D σ H => te σ H fun x H1 => g x σ H1 D.nx
theorem ps_asg {tg e : Expr} {te : TE} {g : TG} (he : PE X e te) (hg : PG X tg g) (hs : swapsWithSole [tg] e pos.line X.env = pure false := by rfl) (hw : swappedStores [tg] e X.env = pure none := by rfl)
    (h1 : (assignEach [tg] X.env).map (·.2) = [assign tg X.env] := by rfl) : PS X (.Assign [tg] e pos) (tAsg te g) := by
  intro pins s σ H D I h
  refine wpAny_Assign_stores (thn (he pins s σ H _ I h) fun v s1 zz29 => el5 zz29 fun x H1 I1 r1 q1 => ?_) hs hw
  rw [h1]
  exact thn (hg pins s1 σ H1 x v _ I1 r1 q1) fun _ s2 q => q
theorem ps_set {i : Nat} {x : Str} {e : Expr} {te : TE} {pos' : Pos} (hN : X.N.Nodup) (hi : X.N[i]? = some x) (hx : Loc X.env.scope x) (he : PE X e te) (hs : swapsWith e (some (.Name x pos')) pos.line X.env = pure false := by rfl) (hf : X.fn x = true ∨ X.env.scope.names.lookup x = some .local := by first | exact .inl rfl | exact .inr rfl | assumption) :
    PS X (.Assign [.Name x pos'] e pos) (tAsg te (gName i)) := by
  intro pins s σ H D I h
  refine wpAny_Assign_Name (thn (he pins s σ H _ I h) fun v s1 zz30 => el5 zz30 fun y H1 I1 r1 q1 => ?_) hs
  exact store_ok I1 hN hi hx r1 (fun s2 I2 => ⟨_, H1, I2, q1⟩) hf
def tAugS (to ti te : TE) (tget : V → V → Hp → VK → Prop) (tip : TIp) (tset : TSet) : TS := fun D σ H => to σ H fun o H1 => ti σ H1 fun i H2 => tget o i H2 fun x H3 => te σ H3 fun y H4 => tip x y H4 fun z H5 => tset o i z H5 fun H6 => D.nx σ H6
def PGet (X : Cx) (t : V → V → Hp → VK → Prop) : Prop :=
  ∀ (pins : List (Addr × Obj)) (s : Shared) (σ : St) (H : Hp) (o i : V) (ov iv : Value) (Q : VK), Inv X pins σ H s → RelV o ov → RelV i iv → t o i H Q →
    wpAny (model X.prog X.w) X.A (getItem ov iv) (EP X pins σ Q) X.xe s
theorem ps_augS {o i e : Expr} {to ti te : TE} {tget : V → V → Hp → VK → Prop} {tip : TIp} {tset : TSet} {op : Operator} {tpos : Pos} (ho : PE X o to) (hi : PE X i ti) (hg : PGet X tget) (he : PE X e te) (hp : PIp X op tip) (hs : PSet X tset)
    (ha : ∀ ov iv new, augStore i ov iv new = (do holding [new, ov, iv] (setItem ov iv new); release [new, ov, iv] []; pure .next) := by intros; rfl) : PS X (.AugAssign (.Subscript o i tpos) op e pos) (tAugS to ti te tget tip tset) := by
  intro pins s σ H D I h
  refine wpAny_AugAssign_SubscriptAny (thn (ho pins s σ H _ I h) fun ov s1 zz34 => el5 zz34 fun x1 H1 I1 r1 q1 => ?_) ha
  refine thn (hi pins s1 σ H1 _ I1 q1) fun iv s2 zz35 => el5 zz35 fun x2 H2 I2 r2 q2 => ?_
  refine thn (hg pins s2 σ H2 x1 x2 ov iv _ I2 r1 r2 q2) fun old s3 zz36 => el5 zz36 fun x3 H3 I3 r3 q3 => ?_
  refine thn (he pins s3 σ H3 _ I3 q3) fun v s4 zz37 => el5 zz37 fun x4 H4 I4 r4 q4 => ?_
  refine thn (hp pins s4 σ H4 x3 x4 old v _ I4 r3 r4 q4) fun new s5 zz38 => el5 zz38 fun x5 H5 I5 r5 q5 => ?_
  exact thn (hs pins s5 σ H5 x1 x2 x5 ov iv new _ I5 r1 r2 r5 q5) fun _ s6 zz39 => el2 zz39 fun H6 I6 q6 => ⟨σ, H6, I6, q6⟩
def ipI (f : Int → Int → Int) : TIp := fun x y H Q => ∃ i j, x = .int i ∧ y = .int j ∧ Q (.int (f i j)) H
theorem ip_add : PIp X .Add (ipI fun i j => i + j) := by
  intro pins s σ H x y v u Q I r1 r2 h
  obtain ⟨i, j, e1, e2, q⟩ := h
  subst e1; subst e2
  obtain ⟨t, rfl⟩ := r1
  obtain ⟨t', rfl⟩ := r2
  exact iadd_int ⟨.int _, H, I.tok _, ⟨_, rfl⟩, q⟩
theorem ip_sub : PIp X .Sub (ipI fun i j => i - j) := by
  intro pins s σ H x y v u Q I r1 r2 h
  obtain ⟨i, j, e1, e2, q⟩ := h
  subst e1; subst e2
  obtain ⟨t, rfl⟩ := r1
  obtain ⟨t', rfl⟩ := r2
  exact isub_int ⟨.int _, H, I.tok _, ⟨_, rfl⟩, q⟩
end
section
variable {X : Cx} {pos : Pos}
def tWhile (c : TT) (tb : TS) : TS := fun D σ H => ∃ W : Nat → St → Hp → Prop, (∃ m, W m σ H) ∧ ∀ m σ H, W m σ H →
  c σ H fun b H1 => if b = true then ∃ N : St → Hp → Prop, (∀ σ' H', N σ' H' → ∃ m', m' < m ∧ W m' σ' H') ∧ tb { D with nx := N, ct := N, bk := D.nx } σ H1 else D.nx σ H1
theorem ps_while {c : Expr} {body : List Stmt} {tc : TT} {tb : TS} (hp : PassesOwn (model X.prog X.w) X.A X.env X.xe) (hc : PT X c tc) (hb : PSs X body tb) : PS X (.While c body [] pos) (tWhile tc tb) := by
  intro pins s σ H D I h
  obtain ⟨W, ⟨m0, w0⟩, turn⟩ := h
  refine wpAny_While (codeAny_whileLoop (fun n s' => ∃ σ' H', Inv X pins σ' H' s' ∧ W n σ' H') ?_ m0 ⟨σ, H, I, w0⟩)
  rintro n s1 ⟨σ1, H1, I1, w1⟩
  refine wpAny_passesOwn hp (thn (hc pins s1 σ1 H1 _ I1 (turn n σ1 H1 w1)) fun b s2 zz40 => el2 zz40 fun H2 I2 q2 => ?_)
  cases b with
  | true =>
    obtain ⟨N, hN, q2⟩ := q2
    rw [if_pos rfl]
    refine wpAny_passesOwn hp (thn (hb pins s2 σ1 H2 _ I2 q2) fun f s3 q3 => ?_)
    cases f with
    | next =>
      obtain ⟨σ3, H3, I3, n3⟩ := q3
      obtain ⟨m', hm, w3⟩ := hN σ3 H3 n3
      exact ⟨m', hm, σ3, H3, I3, w3⟩
    | cont =>
      obtain ⟨σ3, H3, I3, n3⟩ := q3
      obtain ⟨m', hm, w3⟩ := hN σ3 H3 n3
      exact ⟨m', hm, σ3, H3, I3, w3⟩
    | brk => exact q3
    | ret v => exact q3
  | false =>
    rw [if_neg Bool.false_ne_true]
    exact wpAny_execs_nil ⟨σ1, H2, I2, q2⟩
end
structure It where
  go : Nat → Hp → Prop
  yld : Nat → Hp → V → Hp → Prop
  stop : Nat → Hp → Prop
def FpOk (X : Cx) (pins : List (Addr × Obj)) (H : Hp) (b : Addr) : Prop :=
  H b = none ∧ b ≠ X.env.locals ∧ b ∉ X.fs ∧ (b ∈ X.ex ∨ X.s₀.heap.objs.size ≤ b) ∧ (∀ x c, X.env.cells.lookup x = some c → c ≠ b) ∧ ∀ p ∈ X.pn ++ pins, p.1 ≠ b
theorem Inv.fpOk {X : Cx} {pins : List (Addr × Obj)} {σ : St} {H H' : Hp} {s : Shared} {b : Addr} (I : Inv X pins σ H s) (hb : s.heap.objs.size ≤ b) (hn : H' b = none) : FpOk X pins H' b := by
  refine ⟨hn, Nat.ne_of_gt (Nat.lt_of_lt_of_le I.lt hb), I.nofs hb, .inr (Nat.le_trans I.sz hb), fun x c e z => ?_, fun p hp z => ?_⟩
  · obtain ⟨v, q⟩ := I.cell x c e
    exact absurd (Nat.lt_of_lt_of_le q.lt (by rw [z]; exact hb)) (Nat.lt_irrefl _)
  · exact absurd (Nat.lt_of_lt_of_le (Heap.lt_size (I.pin p hp).1) (by rw [z]; exact hb)) (Nat.lt_irrefl _)
structure Turn (P : Program) (w : World) (K : PySem.W.Frag) (tg : Expr) (J : It) (fp : List Addr) (it : Addr) (tn : Nat → Heap → Prop) : Prop where
  mem : it ∈ fp
  obj : ∀ i h, tn i h → ∀ b ∈ fp, ∃ o, h.get? b = some o ∧ ∀ v, o.data ≠ .cell v
  keep : ∀ i h h', tn i h → (∀ b ∈ fp, ∀ o, h.get? b = some o → h'.get? b = some o) → tn i h'
  item : ∀ (X : Cx), X.prog = P → X.w = w → X.K = K → X.calm = true → ∀ (i : Nat) (pins : List (Addr × Obj)) (s : Shared) (σ : St) (H : Hp) (E : Value → Shared → Prop), Inv X pins σ H s → (∀ b ∈ fp, FpOk X pins H b) → tn i s.heap → J.go i H →
    wpAny (model P w) X.A (pyNext (.ref it)) (fun r s1 => ∃ u, r = some u ∧
      wpAny (model P w) X.A (letOwnedTupleGo tg (.ref it) u) (fun _ s2 => ∃ x H', Inv X pins σ H' s2 ∧ RelV x u ∧ J.yld i H x H' ∧ tn (i + 1) s2.heap ∧ ∀ b ∈ fp, H' b = none) E s1) E s
  done : ∀ (X : Cx), X.prog = P → X.w = w → X.K = K → X.calm = true → ∀ (i : Nat) (pins : List (Addr × Obj)) (s : Shared) (σ : St) (H : Hp) (E : Value → Shared → Prop), Inv X pins σ H s → (∀ b ∈ fp, FpOk X pins H b) → tn i s.heap → J.stop i H →
    wpAny (model P w) X.A (pyNext (.ref it)) (fun r s1 => r = none ∧ Inv X pins σ H s1) E s
  self : ∀ (A : Around) (i : Nat) (s : Shared) (Q : Value → Shared → Prop) (E : Value → Shared → Prop), tn i s.heap → Q (.ref it) s → wpAny (model P w) A (pyIter (.ref it)) Q E s
abbrev TI := St → Hp → (It → Hp → Prop) → Prop
def PIE (X : Cx) (pins : List (Addr × Obj)) (σ : St) (tg : Expr) (R : It → Hp → Prop) (itv : Value) (s2 : Shared) : Prop :=
  ∃ (it : Addr) (fp : List Addr) (tn : Nat → Heap → Prop) (J : It) (H' : Hp), itv = .ref it ∧ Inv X pins σ H' s2 ∧ Turn X.prog X.w X.K tg J fp it tn ∧ tn 0 s2.heap ∧ (∀ b ∈ fp, FpOk X pins H' b) ∧ R J H'
def PI (X : Cx) (tg iter : Expr) (wi : TI) : Prop :=
  ∀ (pins : List (Addr × Obj)) (s : Shared) (σ : St) (H : Hp) (R : It → Hp → Prop), Inv X pins σ H s → wi σ H R →
    wpAny (model X.prog X.w) X.A (eval iter X.env) (fun v s1 => wpAny (model X.prog X.w) X.A (pyIter v) (PIE X pins σ tg R) X.xe s1) X.xe s
theorem go_of {M : Model} {A : Around} {E : Value → Shared → Prop} {s : Shared} {tg : Expr} {it : Addr} {u : Value} {o : Obj} {n : String} {vs : Array Value} {Q : Unit → Shared → Prop} (ho : s.heap.get? it = some o) (hc : o.cls = .type n) (hd : o.data = .fields vs)
    (hn : ["enumerate", "zip", "dict_itemiterator", "dict_reverseitemiterator", "odict_iterator", "itertools.zip_longest", "itertools.pairwise"].contains n = false) (hQ : Q () s) : wpAny M A (letOwnedTupleGo tg (.ref it) u) Q E s := by
  unfold letOwnedTupleGo
  cases tg <;> first
    | exact wpAny_pure hQ
    | (cases u <;> first
        | exact wpAny_pure hQ
        | (refine wpAny_bind (wpAny_load ho ?_)
           rw [hc, hd]
           show wpAny M A (if (["enumerate", "zip", "dict_itemiterator", "dict_reverseitemiterator", "odict_iterator", "itertools.zip_longest", "itertools.pairwise"].contains n && vs[0]? == some (rawInt _)) = true then _ else _) Q E s
           rw [if_neg (by intro h; rw [hn, Bool.false_and] at h; cases h)]
           exact wpAny_pure hQ))
def Itr (lo : Int) (n : Nat) : It := ⟨fun i _ => i < n, fun i H x H' => H' = H ∧ x = .int (lo + i), fun i _ => n ≤ i⟩
theorem turn_range {P : Program} {w : World} {K : PySem.W.Frag} {tg : Expr} (it : Addr) (lo : Int) (n : Nat) : Turn P w K tg (Itr lo n) [it] it (fun i h => IsRangeIter h it (lo + (i : Nat) * 1) ((n : Int) - (i : Nat)) 1) where
  mem := by simp
  obj := fun i h st b hb => by
    have e : b = it := by simpa using hb
    subst e
    exact ⟨_, st, fun v z => by
      have z' : Data.fields _ = Data.cell v := z
      cases z'⟩
  keep := fun i h h' st k => k it (by simp) _ st
  item := by
    intro X hP hw hK hc i pins s σ H E I hf st hg
    subst hP hw hK
    obtain ⟨f0, f1, f2, f3, f4, f5⟩ := hf it (by simp)
    have W := Walks.range (prog := X.prog) (w := X.w) (I.ok.hd hc) it lo 1 n
    refine W.item i s _ _ hg st fun v h' tk hv st' kk => ?_
    obtain ⟨t, rfl⟩ := hv
    have I1 : Inv X pins σ H { s with heap := h', toks := tk } := I.turned (fun b o hb e => kk b o (by simpa using hb) e) f0 f1 f3 f4 f5
    refine ⟨_, rfl, go_of (s := { s with heap := h', toks := tk }) (n := "range_iterator") st' rfl rfl (by decide) ⟨.int (lo + i), H, I1, ⟨t, ?_⟩, ⟨rfl, rfl⟩, st', fun b hb => (hf b hb).1⟩⟩
    rw [Int.mul_one]
  done := by
    intro X hP hw hK hc i pins s σ H E I hf st hg
    subst hP hw hK
    obtain ⟨f0, f1, f2, f3, f4, f5⟩ := hf it (by simp)
    exact wpAny_pyNext_range_end (I.ok.hd hc) st (by have : n ≤ i := hg; lia) fun h' eb => ⟨rfl, I.turned (t' := s.toks) (fun b o hb e => eb b o hb e) f0 f1 f3 f4 f5⟩
  self := fun _ _ _ _ _ st h => wpAny_pyIter_rangeiter st h
end L2
namespace L2
open PySem PySem.Spec PyProof.Rows
section
variable {X : Cx} {tg : Expr}
theorem range_it {pins : List (Addr × Obj)} {σ : St} {H : Hp} {s : Shared} {R : It → Hp → Prop} {E : Value → Shared → Prop} {lo hi : Int} {t u v : Tok} {tk : Nat} (I : Inv X pins σ H s) (h1 : -(2 ^ 62) ≤ lo) (h2 : lo < 2 ^ 62) (h3 : -(2 ^ 62) ≤ hi) (h4 : hi < 2 ^ 62)
    (q : R (Itr lo (hi - lo).toNat) H) : wpAny (model X.prog X.w) X.A (pyIter (.ref s.heap.objs.size)) (PIE X pins σ tg R) E { s with heap := s.heap.push { cls := .type "range", data := .fields #[.int lo t, .int hi u, .int 1 v] }, toks := tk } := by
  refine wpAny_pyIter_range (IsRange.new ..) (small_one h1 h2 h3 h4) ?_
  have I1 : Inv X pins σ H { s with heap := s.heap.push { cls := .type "range", data := .fields #[.int lo t, .int hi u, .int 1 v] }, toks := tk } := I.kept fun b o e => Heap.get?_push_of_some _ e
  refine ⟨(s.heap.push { cls := .type "range", data := .fields #[.int lo t, .int hi u, .int 1 v] }).objs.size, [(s.heap.push { cls := .type "range", data := .fields #[.int lo t, .int hi u, .int 1 v] }).objs.size], _, _, H, rfl,
    I1.kept (t' := tk) fun b o e => Heap.get?_push_of_some _ e, turn_range _ lo (hi - lo).toNat, ?_, fun b hb => ?_, q⟩
  · have e1 : lo + ((0 : Nat) : Int) * 1 = lo := by simp
    have e2 : (((hi - lo).toNat : Nat) : Int) - ((0 : Nat) : Int) = Builtin.Range.rangeSize lo hi 1 := by rw [rangeSize_one]; split <;> lia
    show IsRangeIter _ _ (lo + ((0 : Nat) : Int) * 1) ((((hi - lo).toNat : Nat) : Int) - ((0 : Nat) : Int)) 1
    rw [e1, e2]
    exact Heap.get?_push_size _ rfl
  · have e : b = (s.heap.push { cls := .type "range", data := .fields #[.int lo t, .int hi u, .int 1 v] }).objs.size := by simpa using hb
    subst e
    exact I1.fpOk (Nat.le_refl _) (I1.hok.fresh (Nat.le_refl _))
def iRng1 (ta : TA) : TI := fun σ H R => ta σ H fun vs H1 => ∃ j : Int, vs = [.int j] ∧ -(2 ^ 62) ≤ j ∧ j < 2 ^ 62 ∧ R (Itr 0 j.toNat) H1
theorem pi_range1 {a : Expr} {ta : TA} {p pos : Pos} (hg : Gl X "range") (hm : X.mg "range" = none) (ha : PA X [a] ta) (hs : starEach [a] X.env = [(false, eval a X.env)] := by rfl) : PI X tg (.Call (.Name "range" p) [a] [] pos) (iRng1 ta) := by
  intro pins s σ H R I h
  refine Call_ (ld_blt I hg hm boot_range (PyProof.Rows.callWith_type1 (thn (ha pos pins s σ H _ I h) fun us s1 zz43 => el5 zz43 fun vs H1 I1 r1 q1 => ?_) hs rfl))
  obtain ⟨j, e, q1, q2, q⟩ := q1
  subst e
  cases r1 with
  | cons r rr =>
    cases rr
    obtain ⟨t, rfl⟩ := r
    exact call_range_1 (range_it I1 (by lia) (by lia) q1 q2 (by simpa using q))
def tFor (wi : TI) (g : TG) (tb : TS) : TS := fun D σ H => wi σ H fun J H1 => ∃ W : Nat → Nat → St → Hp → Prop, (∃ m, W 0 m σ H1) ∧ ∀ i m σ H, W i m σ H →
  (J.stop i H ∧ D.nx σ H) ∨ (J.go i H ∧ ∃ N : St → Hp → Prop, (∀ σ' H', N σ' H' → ∃ m', m' < m ∧ W (i + 1) m' σ' H') ∧ ∀ x H', J.yld i H x H' → g x σ H' fun σ2 H2 => tb { D with nx := N, ct := N, bk := D.nx } σ2 H2)
def pinsAt (fp : List Addr) (h : Heap) : List (Addr × Obj) := fp.filterMap fun b => (h.get? b).map fun o => (b, o)
theorem mem_pinsAt {fp : List Addr} {h : Heap} {b : Addr} {o : Obj} (hb : b ∈ fp) (e : h.get? b = some o) : (b, o) ∈ pinsAt fp h := List.mem_filterMap.mpr ⟨b, hb, by rw [e]; rfl⟩
theorem of_pinsAt {fp : List Addr} {h : Heap} {p : Addr × Obj} (hp : p ∈ pinsAt fp h) : p.1 ∈ fp ∧ h.get? p.1 = some p.2 := by
  obtain ⟨b, hb, e⟩ := List.mem_filterMap.mp hp
  cases q : h.get? b with
  | none => rw [q] at e; cases e
  | some o =>
    rw [q] at e
    have e' : (b, o) = p := Option.some.inj e
    subst e'
    exact ⟨hb, q⟩
theorem Inv.pinned {pins : List (Addr × Obj)} {σ : St} {H : Hp} {s : Shared} {fp : List Addr} (I : Inv X pins σ H s) (hf : ∀ b ∈ fp, FpOk X pins H b) (ho : ∀ b ∈ fp, ∃ o, s.heap.get? b = some o ∧ ∀ v, o.data ≠ .cell v) : Inv X (pins ++ pinsAt fp s.heap) σ H s :=
  I.pins_of fun p hp => (List.mem_append.mp hp).elim (fun z => I.pin p (List.mem_append_right _ z)) fun z => by
    obtain ⟨hb, e⟩ := of_pinsAt z
    obtain ⟨f0, f1, f2, _⟩ := hf p.1 hb
    obtain ⟨o, e', d⟩ := ho p.1 hb
    rw [e] at e'; cases e'
    exact ⟨e, f0, f1, f2, d⟩
theorem Inv.unpinned {pins pl : List (Addr × Obj)} {σ : St} {H : Hp} {s : Shared} (I : Inv X (pins ++ pl) σ H s) : Inv X pins σ H s := I.pins_of fun p hp => I.pin p (List.mem_append_right _ (List.mem_append_left _ hp))
theorem ps_for {iter : Expr} {body : List Stmt} {wi : TI} {g : TG} {tb : TS} {pos : Pos} (hp : PassesOwn (model X.prog X.w) X.A X.env X.xe) (hc : X.calm = true) (hi : PI X tg iter wi) (hg : PG X tg g) (hb : PSs X body tb)
    (hs : ∀ x, foldedSetIterable iter X.env x = pure x := by intro _; rfl) : PS X (.For tg iter body [] pos) (tFor wi g tb) := by
  intro pins s σ H D I h
  refine wpAny_For (thn (hi pins s σ H _ I h) fun v s1 h1 => thn h1 fun itv s2 h2 => ?_) hs
  obtain ⟨it, fp, tn, J, H2, e, I2, T, st2, f2, W, ⟨m0, w0⟩, turn⟩ := h2
  subst e
  have stat : ∀ {H' : Hp}, (∀ b ∈ fp, H' b = none) → ∀ b ∈ fp, FpOk X pins H' b := fun hn b hb => ⟨hn b hb, (f2 b hb).2⟩
  refine codeAny_forLoop_any (fun n s' => ∃ i σ' H', Inv X pins σ' H' s' ∧ tn i s'.heap ∧ (∀ b ∈ fp, H' b = none) ∧ W i n σ' H') ?_ m0 ⟨0, σ, H2, I2, st2, fun b hb => (f2 b hb).1, w0⟩
  rintro n s3 ⟨i, σ3, H3, I3, st3, fr3, w3⟩
  rcases turn i n σ3 H3 w3 with ⟨stop, qn⟩ | ⟨go, N, hN, step⟩
  · refine wpAny_passesOwn hp (thn (T.done X rfl rfl rfl hc i pins s3 σ3 H3 X.xe I3 (stat fr3) st3 stop) fun r s4 zz45 => zz45.elim fun hr I4 => ?_)
    subst hr
    exact wpAny_execs_nil ⟨σ3, H3, I4, qn⟩
  · refine wpAny_passesOwn hp (thn (T.item X rfl rfl rfl hc i pins s3 σ3 H3 X.xe I3 (stat fr3) st3 go) fun r s4 zz46 => el2 zz46 fun u hr h4 => ?_)
    subst hr
    refine wpAny_passesOwn hp (thn h4 fun _ s5 zz47 => zz47.elim fun x zz48 => zz48.elim fun H5 zz49 => zz49.elim fun I5 zz50 => zz50.elim fun r5 zz51 => zz51.elim fun y5 zz52 => zz52.elim fun st5 fr5 => ?_)
    have I5' := I5.pinned (stat fr5) (T.obj _ _ st5)
    refine wpAny_passesOwn hp (thn (hg _ s5 σ3 H5 x u _ I5' r5 (step x H5 y5)) fun _ s6 zz53 => zz53.elim fun σ6 zz54 => zz54.elim fun H6 zz55 => zz55.elim fun I6 q6 => ?_)
    refine wpAny_passesOwn hp (thn (hb _ s6 σ6 H6 _ I6 q6) fun f s7 q7 => ?_)
    have again : ∀ {σ7 : St} {H7 : Hp}, Inv X (pins ++ pinsAt fp s5.heap) σ7 H7 s7 → N σ7 H7 → ∃ m, m < n ∧ ∃ i σ' H', Inv X pins σ' H' s7 ∧ tn i s7.heap ∧ (∀ b ∈ fp, H' b = none) ∧ W i m σ' H' := fun {σ7 H7} I7 n7 => by
      obtain ⟨m', hm, w7⟩ := hN σ7 H7 n7
      refine ⟨m', hm, i + 1, σ7, H7, I7.unpinned, T.keep _ _ _ st5 fun b hb o e => (I7.pin (b, o) (List.mem_append_right _ (List.mem_append_right _ (mem_pinsAt hb e)))).1, fun b hb => ?_, w7⟩
      obtain ⟨o, e, d⟩ := T.obj _ _ st5 b hb
      exact (I7.pin (b, o) (List.mem_append_right _ (List.mem_append_right _ (mem_pinsAt hb e)))).2.1
    cases f with
    | next => obtain ⟨σ7, H7, I7, n7⟩ := q7; exact again I7 n7
    | cont => obtain ⟨σ7, H7, I7, n7⟩ := q7; exact again I7 n7
    | brk => obtain ⟨σ7, H7, I7, q7⟩ := q7; exact ⟨σ7, H7, I7.unpinned, q7⟩
    | ret v => obtain ⟨x7, σ7, H7, I7, r7, q7⟩ := q7; exact ⟨x7, σ7, H7, I7.unpinned, r7, q7⟩
end
theorem while_by {c : TT} {tb : TS} {D : Ends} {σ : St} {H : Hp} (Pv : St → Hp → Prop) (μ : St → Hp → Nat) (h0 : Pv σ H)
    (hs : ∀ σ H, Pv σ H → c σ H fun b H1 => if b = true then tb { D with nx := fun σ' H' => Pv σ' H' ∧ μ σ' H' < μ σ H, ct := fun σ' H' => Pv σ' H' ∧ μ σ' H' < μ σ H, bk := D.nx } σ H1 else D.nx σ H1)
    (mono : ∀ σ H Q Q', (∀ b H1, Q b H1 → Q' b H1) → c σ H Q → c σ H Q') : tWhile c tb D σ H := by
  refine ⟨fun m σ H => m = μ σ H ∧ Pv σ H, ⟨_, rfl, h0⟩, ?_⟩
  rintro m σ H ⟨rfl, p⟩
  refine mono σ H _ _ (fun b H1 q => ?_) (hs σ H p)
  cases b with
  | true => exact ⟨_, fun σ' H' zz56 => zz56.elim fun p' l => ⟨_, l, rfl, p'⟩, q⟩
  | false => exact q
end L2
namespace L2
open PySem PySem.Spec PyProof.Rows
abbrev R2 := V → V → Hp → VK → Prop
def OpR (X : Cx) (f : Value → Value → Sem Value) (r : R2) : Prop :=
  ∀ (pins : List (Addr × Obj)) (s : Shared) (σ : St) (H : Hp) (x y : V) (v u : Value) (Q : VK), Inv X pins σ H s → RelV x v → RelV y u → r x y H Q →
    wpAny (model X.prog X.w) X.A (f v u) (EP X pins σ Q) X.xe s
def CallR (X : Cx) (f : Value) (r : List V → Hp → VK → Prop) : Prop :=
  ∀ (pins : List (Addr × Obj)) (s : Shared) (σ : St) (H : Hp) (xs : List V) (us : List Value) (Q : VK), Inv X pins σ H s → Vals xs us → r xs H Q →
    wpAny (model X.prog X.w) X.A (call f us) (EP X pins σ Q) X.xe s
def tOp (r : R2) (ta tb : TE) : TE := fun σ H Q => ta σ H fun x H1 => tb σ H1 fun y H2 => r x y H2 Q
def rI (C : Int → Int → Prop) (g : Int → Int → V) : R2 := fun x y H Q => ∃ i j, x = .int i ∧ y = .int j ∧ C i j ∧ Q (g i j) H
def rI0 (g : Int → Int → V) : R2 := fun x y H Q => ∃ i j, x = .int i ∧ y = .int j ∧ Q (g i j) H
section
variable {X : Cx} {a b c : Expr} {ta tb tc : TE} {pos : Pos}
theorem binT (ha : PE X a ta) (hb : PE X b tb) {pins : List (Addr × Obj)} {s : Shared} {σ : St} {H : Hp} {R : V → V → Hp → Prop} (I : Inv X pins σ H s)
    (h : ta σ H fun x H1 => tb σ H1 fun y H2 => R x y H2) {Q : Value → Shared → Prop} {f : Value → Value → Sem Value}
    (hf : ∀ v u s2 x y H2, Inv X pins σ H2 s2 → RelV x v → RelV y u → R x y H2 → wpAny (model X.prog X.w) X.A (f v u) Q X.xe s2) :
    wpAny (model X.prog X.w) X.A (eval a X.env) (fun v s₁ => wpAny (model X.prog X.w) X.A (eval b X.env) (fun u s₂ => wpAny (model X.prog X.w) X.A (f v u) Q X.xe s₂) X.xe s₁) X.xe s := by
  refine thn (ha pins s σ H _ I h) fun v s1 zz57 => el5 zz57 fun x H1 I1 r1 q1 => ?_
  refine thn (hb pins s1 σ H1 _ I1 q1) fun u s2 zz58 => el5 zz58 fun y H2 I2 r2 q2 => ?_
  exact hf v u s2 x y H2 I2 r1 r2 q2
theorem pe_op {op : Operator} {r : R2} (ho : OpR X (binaryOp op) r) (ha : PE X a ta) (hb : PE X b tb) : PE X (.BinOp a op b pos) (tOp r ta tb) := by
  intro pins s σ H Q I h
  exact wpAny_BinOp (binT ha hb I h fun v u s2 x y H2 I2 rx ry q => ho pins s2 σ H2 x y v u Q I2 rx ry q)
theorem opI {f : Value → Value → Sem Value} {C : Int → Int → Prop} {g : Int → Int → Int}
    (rule : ∀ (i j : Int) (t u : Tok) (s : Shared) (Q : Value → Shared → Prop) (E : Value → Shared → Prop), C i j → Q (.int (g i j) s.toks) { s with toks := s.toks + 1 } → wpAny (model X.prog X.w) X.A (f (.int i t) (.int j u)) Q E s) :
    OpR X f (rI C fun i j => .int (g i j)) := by
  intro pins s σ H x y v u Q I rx ry h
  obtain ⟨i, j, rfl, rfl, hc, q⟩ := h
  obtain ⟨t, rfl⟩ := rx
  obtain ⟨t', rfl⟩ := ry
  exact rule i j t t' s _ _ hc ⟨.int (g i j), H, I.tok _, ⟨_, rfl⟩, q⟩
theorem opI0 {f : Value → Value → Sem Value} {g : Int → Int → Int}
    (rule : ∀ (i j : Int) (t u : Tok) (s : Shared) (Q : Value → Shared → Prop) (E : Value → Shared → Prop), Q (.int (g i j) s.toks) { s with toks := s.toks + 1 } → wpAny (model X.prog X.w) X.A (f (.int i t) (.int j u)) Q E s) :
    OpR X f (rI0 fun i j => .int (g i j)) := by
  intro pins s σ H x y v u Q I rx ry h
  obtain ⟨i, j, rfl, rfl, q⟩ := h
  obtain ⟨t, rfl⟩ := rx
  obtain ⟨t', rfl⟩ := ry
  exact rule i j t t' s _ _ ⟨.int (g i j), H, I.tok _, ⟨_, rfl⟩, q⟩
theorem opB0 {f : Value → Value → Sem Value} {g : Int → Int → Bool}
    (rule : ∀ (i j : Int) (t u : Tok) (s : Shared) (Q : Value → Shared → Prop) (E : Value → Shared → Prop), Q (.bool (g i j)) s → wpAny (model X.prog X.w) X.A (f (.int i t) (.int j u)) Q E s) :
    OpR X f (rI0 fun i j => .bl (g i j)) := by
  intro pins s σ H x y v u Q I rx ry h
  obtain ⟨i, j, rfl, rfl, q⟩ := h
  obtain ⟨t, rfl⟩ := rx
  obtain ⟨t', rfl⟩ := ry
  exact rule i j t t' s _ _ ⟨.bl (g i j), H, I, rfl, q⟩
def CPow (i j : Int) : Prop := 0 ≤ j ∧ j ≤ 1000000 ∧ i.natAbs < 2 ^ 64
def CMul (i j : Int) : Prop := (-(2 ^ 64) < i ∧ i < 2 ^ 64) ∨ (-(2 ^ 64) < j ∧ j < 2 ^ 64)
theorem CMul.ok {i j : Int} (h : CMul i j) : IntMulOk i j := by
  rcases h with ⟨h1, h2⟩ | ⟨h1, h2⟩
  · exact .of_left (intBits_le_64 h1 h2)
  · exact .of_right (intBits_le_64 h1 h2)
theorem op_add : OpR X (binaryOp .Add) (rI0 fun i j => .int (i + j)) := opI0 fun _ _ _ _ _ _ _ q => add_int q
theorem op_mul : OpR X (binaryOp .Mult) (rI CMul fun i j => .int (i * j)) := opI fun _ _ _ _ _ _ _ hc q => mul_int q hc.ok
theorem op_mod : OpR X (binaryOp .Mod) (rI (fun _ j => 0 < j) fun i j => .int (i % j)) := opI fun i j _ _ _ _ _ hc q => by
  have h1 : (0 : Int) < j := hc
  exact mod_int' (by lia) (by rw [Int.fmod_eq_emod_of_nonneg i (by lia)]; exact q)
theorem op_pow : OpR X (binaryOp .Pow) (rI CPow fun i j => .int (i ^ j.toNat)) := opI fun _ _ _ _ _ _ _ hc q => pow_int_small hc.1 hc.2.1 hc.2.2 q
end
def scal : V → V → Bool
  | .non, .non => true | .non, .int _ => true | .int _, .non => true | .non, .bl _ => true | .bl _, .non => true | .non, .str _ => true | .str _, .non => true
  | .int _, .int _ => true | .bl _, .bl _ => true | .str _, .str _ => true | .byt _, .byt _ => true
  | .int _, .str _ => true | .str _, .int _ => true | .bl _, .str _ => true | .str _, .bl _ => true
  | _, _ => false
def rEq : R2 := fun x y H Q => scal x y = true ∧ Q (.bl (decide (x = y))) H
theorem dec_int {i j : Int} : decide (V.int i = V.int j) = (i == j) := by
  rw [Bool.eq_iff_iff]
  simp
theorem dec_bl {i j : Bool} : decide (V.bl i = V.bl j) = (i == j) := by
  rw [Bool.eq_iff_iff]
  simp
theorem dec_str {i j : Str} : decide (V.str i = V.str j) = (i == j) := by
  rw [Bool.eq_iff_iff]
  simp
theorem dec_byt {i j : Array UInt8} : decide (V.byt i = V.byt j) = (i.toList == j.toList) := by
  rw [Bool.eq_iff_iff]
  cases i
  cases j
  simp
section
variable {X : Cx} {a b c : Expr} {ta tb tc : TE} {pos : Pos}
theorem fin_bl {pins : List (Addr × Obj)} {σ : St} {H : Hp} {s : Shared} {Q : VK} {k k' : Bool} (I : Inv X pins σ H s) (q : Q (.bl k) H) (e : k = k') : EP X pins σ Q (.bool k') s := by
  subst e
  exact ⟨.bl k, H, I, rfl, q⟩
theorem op_eq : OpR X (compareOp .Eq) rEq := by
  intro pins s σ H x y v u Q I rx ry h
  obtain ⟨hs, q⟩ := h
  cases x with
  | non =>
    cases rx
    cases y with
    | non => cases ry; exact PySem.EqNone.eq_none_none (fin_bl I q (by simp))
    | bl j => cases ry; exact PySem.EqNone.eq_none_bool (fin_bl I q (by simp))
    | int j => obtain ⟨t', rfl⟩ := ry; exact PySem.EqNone.eq_none_int (fin_bl I q (by simp))
    | str j => obtain ⟨t', rfl⟩ := ry; exact PySem.EqNone.eq_none_str (fin_bl I q (by simp))
    | _ => exact absurd (show false = true from hs) Bool.false_ne_true
  | bl i =>
    cases rx
    cases y with
    | non => cases ry; exact PySem.EqNone.eq_bool_none (fin_bl I q (by simp))
    | bl j => cases ry; exact eq_bool (fin_bl I q dec_bl)
    | str j => obtain ⟨t', rfl⟩ := ry; exact PySem.EqMixed.eq_bool_str (fin_bl I q (by simp))
    | _ => exact absurd (show false = true from hs) Bool.false_ne_true
  | int i =>
    obtain ⟨t, rfl⟩ := rx
    cases y with
    | non => cases ry; exact PySem.EqNone.eq_int_none (fin_bl I q (by simp))
    | int j => obtain ⟨t', rfl⟩ := ry; exact eq_int (fin_bl I q dec_int)
    | str j => obtain ⟨t', rfl⟩ := ry; exact PySem.EqMixed.eq_int_str (fin_bl I q (by simp))
    | _ => exact absurd (show false = true from hs) Bool.false_ne_true
  | str i =>
    obtain ⟨t, rfl⟩ := rx
    cases y with
    | non => cases ry; exact PySem.EqNone.eq_str_none (fin_bl I q (by simp))
    | bl j => cases ry; exact PySem.EqMixed.eq_str_bool (fin_bl I q (by simp))
    | int j => obtain ⟨t', rfl⟩ := ry; exact PySem.EqMixed.eq_str_int (fin_bl I q (by simp))
    | str j => obtain ⟨t', rfl⟩ := ry; exact eq_str (fin_bl I q dec_str)
    | _ => exact absurd (show false = true from hs) Bool.false_ne_true
  | byt i =>
    obtain ⟨t, rfl⟩ := rx
    cases y with
    | byt j => obtain ⟨t', rfl⟩ := ry; exact PySem.W.eq_bytes (fin_bl I q dec_byt)
    | _ => exact absurd (show false = true from hs) Bool.false_ne_true
  | _ => cases y <;> exact absurd (show false = true from hs) Bool.false_ne_true
theorem op_lt : OpR X (compareOp .Lt) (rI0 fun i j => .bl (decide (i < j))) := opB0 fun _ _ _ _ _ _ _ q => lt_int q
theorem op_gt : OpR X (compareOp .Gt) (rI0 fun i j => .bl (decide (j < i))) := opB0 fun _ _ _ _ _ _ _ q => gt_int q
theorem op_ge : OpR X (compareOp .GtE) (rI0 fun i j => .bl (decide (j ≤ i))) := opB0 fun _ _ _ _ _ _ _ q => ge_int q
theorem nomark (b : Expr) {op : CmpOp} (h : op ≠ .In := by decide) (h2 : op ≠ .NotIn := by decide) : behindInMarks op b = false := by
  have e1 : (op == CmpOp.In) = false := by cases op <;> first | rfl | exact absurd rfl h
  have e2 : (op == CmpOp.NotIn) = false := by cases op <;> first | rfl | exact absurd rfl h2
  cases b <;> simp [behindInMarks, e1, e2]
theorem pe_cmpR {op : CmpOp} {r : R2} (ho : OpR X (compareOp op) r) (ha : PE X a ta) (hb : PE X b tb) (hm : behindInMarks op b = false) : PE X (.Compare a [op] [b] pos) (tOp r ta tb) := by
  intro pins s σ H Q I h
  exact wpAny_Compare1 (binT ha hb I h fun v u s2 x y H2 I2 rx ry q => ho pins s2 σ H2 x y v u Q I2 rx ry q) hm
def tTest (t : TE) : TT := fun σ H Q => t σ H fun x H' => ∃ k, x = .bl k ∧ Q k H'
theorem pt_cmpR {op : CmpOp} {r : R2} (ho : OpR X (compareOp op) r) (ha : PE X a ta) (hb : PE X b tb) (hm : behindInMarks op b = false) : PT X (.Compare a [op] [b] pos) (tTest (tOp r ta tb)) := by
  intro pins s σ H Q I h
  refine wpAny_isTrue_Compare1 (thn (ha pins s σ H _ I h) fun v s1 zz60 => el5 zz60 fun x H1 I1 r1 q1 => thn (hb pins s1 σ H1 _ I1 q1) fun u s2 zz61 => el5 zz61 fun y H2 I2 r2 q2 =>
    thn (ho pins s2 σ H2 x y v u _ I2 r1 r2 q2) fun c s3 zz62 => zz62.elim fun z zz63 => zz63.elim fun H3 zz64 => zz64.elim fun I3 zz65 => zz65.elim fun r3 zz66 => zz66.elim fun k zz67 => zz67.elim fun e q3 => ?_) hm
  subst e
  cases r3
  exact wpAny_truthy_bool ⟨H3, I3, q3⟩
theorem line63 : (sizeLine : Nat) < 2 ^ 63 := by rw [sizeLine_eq]; decide
theorem vals1 {x : V} {us : List Value} (r : Vals [x] us) : ∃ u, us = [u] ∧ RelV x u := by
  cases r with
  | cons r1 r2 => cases r2; exact ⟨_, rfl, r1⟩
theorem vals2 {x y : V} {us : List Value} (r : Vals [x, y] us) : ∃ u w', us = [u, w'] ∧ RelV x u ∧ RelV y w' := by
  cases r with
  | cons r1 r2 =>
    cases r2 with
    | cons r3 r4 => cases r4; exact ⟨_, _, rfl, r1, r3⟩
theorem call_abs : CallR X (.builtin "abs") (fun xs H Q => ∃ i, xs = [.int i] ∧ Q (.int (if i < 0 then -i else i)) H) := by
  intro pins s σ H xs us Q I r h
  obtain ⟨i, rfl, q⟩ := h
  obtain ⟨u, rfl, t, rfl⟩ := vals1 r
  exact call_abs_int fun u tk => ⟨.int (if i < 0 then -i else i), H, I.tok _, ⟨_, rfl⟩, q⟩
end
end L2
namespace L2
open PySem PySem.Spec PyProof.Rows
theorem lookIn_ns {h : Heap} {dx : Addr} {mA : Str → Option Value} (n : h.Ns1 dx mA) : ∃ od, h.get? dx = some od ∧ ∀ name, PySem.W.lookIn name od = some (mA name) := by
  obtain ⟨o, es, ep, ho, hd, hk, _, hm⟩ := n
  refine ⟨o, ho, fun name => ?_⟩
  have e := hm name
  unfold nsFind findBy at e
  rw [← Array.find?_toList] at e
  unfold PySem.W.lookIn
  rw [hd]
  dsimp only
  split
  · rename_i y q
    rw [q] at e
    exact congrArg some e
  · rename_i q
    rw [q] at e
    have a : es.toList.any (·.refKey) = false := by
      rw [List.any_eq_false]
      intro y hy
      obtain ⟨z, t, hkey⟩ := hk y (Array.mem_toList_iff.mp hy)
      simp [DictEntry.refKey, hkey]
    have a' : ¬ es.toList.any (·.refKey) = true := by rw [a]; exact Bool.false_ne_true
    rw [if_neg a']
    exact congrArg some e
section
variable {prog : Program} {w : World} {A : Around} {E : Value → Shared → Prop} {s : Shared} {K : PySem.W.Frag} {x dx C f : Addr} {mA : Str → Option Value} {name : Str} {v : Value}
end
theorem RelO.some_of {v : V} {o : Option Value} (r : RelO (some v) o) : ∃ u, o = some u ∧ RelV v u := by
  cases o with
  | none => exact (show False from r).elim
  | some u => exact ⟨u, rfl, r⟩
theorem handed_of {v : V} {u : Value} (r : RelV v u) : PySem.W.handedIn u = true := by
  cases v with
  | non => cases (show u = Value.none from r); rfl
  | bl b => cases (show u = Value.bool b from r); rfl
  | int i => obtain ⟨t, e⟩ := (show ∃ t, u = Value.int i t from r); cases e; rfl
  | str x => obtain ⟨t, e⟩ := (show ∃ t, u = Value.str x t from r); cases e; rfl
  | byt b => obtain ⟨t, e⟩ := (show ∃ t, u = Value.bytes b t from r); cases e; rfl
  | flt b => obtain ⟨t, e⟩ := (show ∃ t, u = Value.float b t from r); cases e; rfl
  | ref a => cases (show u = Value.ref a from r); rfl
  | ty n => cases (show u = Value.type n from r); rfl
section
variable {P : Program} {w : World} {H H' : Hp} {h h' : Heap} {a C dx : Addr} {fs fs' : List (Str × V)}
end
def NoAttr (K : PySem.W.Frag) (C : Addr) (f : Str) : Prop := PySem.W.findIn K (.ref C) f = some none
section
variable {X : Cx} {pins : List (Addr × Obj)} {σ : St} {H : Hp} {s : Shared} {a C dx : Addr} {fs : List (Str × V)} {f : Str} {v : V} {A : Around} {E : Value → Shared → Prop}
theorem attr_of {prog : Program} {w : World} {env : Env} {e : Expr} {f : Str} {pos : Pos} {s : Shared} {Q : Value → Shared → Prop} (hb : attributeBase e f env (eval e env) = eval e env)
    (h : wpAny (model prog w) A (eval e env) (fun o s₁ => wpAny (model prog w) A (getAttr o f true) Q E s₁) E s) : wpAny (model prog w) A (eval (.Attribute e f pos) env) Q E s :=
  Attribute_any_ h (by rw [arm_eval_Attribute, hb])
end
section
variable {X : Cx} {o e value : Expr} {f : Str} {pos pos' tpos : Pos} {ta tv : TE}
end
section
variable {X : Cx} {pins : List (Addr × Obj)} {σ : St} {H : Hp} {s : Shared} {A : Around} {E : Value → Shared → Prop} {Q : Value → Shared → Prop} {c : Value} {b : Bool}
end
end L2
namespace L2
open PySem PySem.Spec PyProof.Rows
structure Room (k : Nat) (A : Around) : Prop where
  hd : A.handled = none
  dp : A.depth + 3 * k + 5 < recursionLimit
  un : A.units + 16 * k + 200 < cLine
  gd : A.guards = some []
theorem Room.mono {j k : Nat} {A : Around} (r : Room k A) (h : j ≤ k) : Room j A := ⟨r.hd, by have := r.dp; lia, by have := r.un; lia, r.gd⟩
theorem Room.deeper {k : Nat} {A : Around} (r : Room (k + 1) A) (env : Env) : Room k (A.deeper env) :=
  ⟨r.hd, by have := r.dp; show A.depth + 1 + 3 * k + 5 < _; lia, by have := r.un; show A.units + 3 + 16 * k + 200 < _; lia, r.gd⟩
theorem make_depth {A : Around} {C : Addr} {us : List Value} {kw : List (Str × Value)} : (A.under (.builtin "type.__call__" ⟨.ref C :: us, kw⟩)).depth = A.depth + 1 := by
  first | rfl | simp [Around.under, Code.weight, Code.isCreation, Code.isGuard, Code.isCaller, Code.frames, Code.isFrame, guardIds]
theorem make_units {A : Around} {C : Addr} {us : List Value} {kw : List (Str × Value)} : (A.under (.builtin "type.__call__" ⟨.ref C :: us, kw⟩)).units = A.units + 1 := by
  first | rfl | simp [Around.under, Code.cUnits, Code.frames, Code.isFrame]
theorem Room.make {k : Nat} {A : Around} (r : Room (k + 1) A) (C : Addr) (us : List Value) (kw : List (Str × Value)) : Room k (A.under (.builtin "type.__call__" ⟨.ref C :: us, kw⟩)) :=
  ⟨r.hd, by have := r.dp; rw [make_depth]; lia, by have := r.un; rw [make_units]; lia, by first | exact r.gd | (show pushGuards _ A.guards = _; rw [r.gd]; rfl)⟩
theorem Room.depth {k : Nat} {A : Around} (r : Room k A) : A.depth < recursionLimit := by have := r.dp; lia
theorem Room.units {k : Nat} {A : Around} (r : Room k A) : A.units + 64 < cLine := by have := r.un; lia
def tNil : TA := fun _ H Q => Q [] H
def tCons (ta : TE) (tr : TA) : TA := fun σ H Q => ta σ H fun x H1 => tr σ H1 fun xs H2 => Q (x :: xs) H2
section
variable {X : Cx} {e : Expr} {es : List Expr} {te : TE} {t : TA} {pos : Pos}
theorem pa_nil : PA X [] tNil := fun _ _ _ _ H Q I h => Calls.spliced_nil ⟨[], H, I, .nil, h⟩
theorem pa_cons (ha : PE X e te) (hr : PA X es t) (hs : starEach (e :: es) X.env = (false, eval e X.env) :: starEach es X.env := by rfl) : PA X (e :: es) (tCons te t) := by
  intro pos pins s σ H Q I h
  rw [hs]
  show wpAny _ _ (spliced ((false, eval e X.env) :: backTo pos (starEach es X.env))) _ _ s
  refine Calls.spliced_cons (thn (ha pins s σ H _ I h) fun u s1 zz173 => el5 zz173 fun x H1 I1 r1 q1 => ?_)
  exact thn (hr pos pins s1 σ H1 _ I1 q1) fun us s2 zz174 => el5 zz174 fun xs H2 I2 r2 q2 => ⟨x :: xs, H2, I2, .cons r1 r2, q2⟩
def tTup (t : TA) : TE := fun σ H Q => t σ H fun xs H1 => xs.length ≤ sizeLine ∧ ∀ p, H1 p = none → Q (.ref p) (upd H1 p (.tup xs))
def tLst (t : TA) : TE := fun σ H Q => t σ H fun xs H1 => xs.length ≤ sizeLine ∧ ∀ p, H1 p = none → Q (.ref p) (upd H1 p (.lst xs))
theorem pe_tup {x1} (h : PA X es t) : PE X (.Tuple es x1 pos) (tTup t) := by
  intro pins s σ H Q I hq
  refine wpAny_Tuple_spliced (thn (h pos pins s σ H _ I hq) fun us s1 zz175 => zz175.elim fun xs zz176 => zz176.elim fun H1 zz177 => zz177.elim fun I1 zz178 => zz178.elim fun r zz179 => zz179.elim fun z q => ⟨by rw [← r.length]; exact z, ?_⟩)
  have hf : H1 s1.heap.objs.size = none := I1.hok.fresh (Nat.le_refl _)
  refine ⟨.ref s1.heap.objs.size, upd H1 s1.heap.objs.size (.tup xs), I1.laid (t' := s1.toks) (fun b u e => Heap.get?_push_of_some _ e) (Nat.le_refl _) ?_, rfl, q _ hf⟩
  exact ⟨z, us, r, ⟨_, Heap.get?_push_size _ rfl, rfl, _, rfl⟩⟩
theorem pe_lst (h : PA X es t) : PE X (.List es pos) (tLst t) := by
  intro pins s σ H Q I hq
  refine wpAny_List_spliced (thn (h pos pins s σ H _ I hq) fun us s1 zz180 => zz180.elim fun xs zz181 => zz181.elim fun H1 zz182 => zz182.elim fun I1 zz183 => zz183.elim fun r zz184 => zz184.elim fun z q => ⟨by rw [← r.length]; exact z, ?_⟩)
  have hf : H1 s1.heap.objs.size = none := I1.hok.fresh (Nat.le_refl _)
  refine ⟨.ref s1.heap.objs.size, upd H1 s1.heap.objs.size (.lst xs), I1.laid (t' := s1.toks) (fun b u e => Heap.get?_push_of_some _ e) (Nat.le_refl _) ?_, rfl, q _ hf⟩
  exact ⟨z, us, 0, r, Heap.get?_push_size _ rfl⟩
end
abbrev Sp := List V → Hp → VK → XK → Prop
abbrev CXT := List Env → Hp → Shared → XK → Value → Shared → Prop
structure Env0 (P : Program) (w : World) (K : PySem.W.Frag) (mg : Str → Option Value) (base : Heap) (A : Around) (outer : List Env) (s : Shared) (H : Hp) : Prop where
  frames : A.frames = some outer
  mod : Mod K mg base
  bs : ∀ b o, base.get? b = some o → s.heap.get? b = some o ∧ H b = none
  bsz : base.objs.size ≤ s.heap.objs.size
  funs : s.heap.FunFrames base outer
  frf : ∀ b ∈ frs outer, H b = none
  hok : HOk P w H s.heap
  bare : AllBare s.gens
def CE (outer : List Env) (P : Program) (w : World) (H : Hp) (s : Shared) (Q : VK) (u : Value) (s' : Shared) : Prop :=
  ∃ v H', s'.os = s.os ∧ AllBare s'.gens ∧ Un (frs outer) [] H H' s.heap s'.heap ∧ HOk P w H' s'.heap ∧ RelV v u ∧ Q v H'
def CR (CX : CXT) (outer : List Env) (P : Program) (w : World) (H : Hp) (s : Shared) (Q : VK) (E : XK) (r : Result) (s' : Shared) : Prop :=
  match r with
  | .ok (.ret u) => CE outer P w H s Q u s'
  | .ok _ => False
  | .error e => CX outer H s E e s'
structure FnOk (P : Program) (w : World) (K : PySem.W.Frag) (mg : Str → Option Value) (base : Heap) (CX : CXT) (k : Nat) (f : Addr) (fd : FuncData) (ps : List Str) (sp : Sp) : Prop where
  len : ∀ vs H Q E, sp vs H Q E → vs.length = ps.length
  run : ∀ (A : Around) (outer : List Env) (s : Shared) (H : Hp) (args : Args) (us : List Value) (vs : List V) (Q : VK) (E : XK), Room k A → Env0 P w K mg base A outer s H → BindsTo s fd args (ps.zip us) → Vals vs us → sp vs H Q E →
    codeAny (model P w) A (.call (.ref f) args) (CR CX outer P w H s Q E) s
theorem FnOk.imp {P : Program} {w : World} {K : PySem.W.Frag} {mg : Str → Option Value} {base : Heap} {CX : CXT} {k : Nat} {f : Addr} {fd : FuncData} {ps : List Str} {sp sp' : Sp} (F : FnOk P w K mg base CX k f fd ps sp)
    (h : ∀ vs H Q E, sp' vs H Q E → sp vs H Q E) : FnOk P w K mg base CX k f fd ps sp' :=
  ⟨fun vs H Q E q => F.len vs H Q E (h _ _ _ _ q), fun A outer s H args us vs Q E hr he hb hv hs => F.run A outer s H args us vs Q E hr he hb hv (h _ _ _ _ hs)⟩
theorem Env0.make {P : Program} {w : World} {K : PySem.W.Frag} {mg : Str → Option Value} {base : Heap} {A : Around} {outer : List Env} {s : Shared} {H : Hp} (e : Env0 P w K mg base A outer s H) (C : Addr) (us : List Value) (kw : List (Str × Value)) :
    Env0 P w K mg base (A.under (.builtin "type.__call__" ⟨.ref C :: us, kw⟩)) outer s H := ⟨by first | exact e.frames | (simpa [Around.under, Code.envs, Code.isFrame, pushEnvs] using e.frames), e.mod, e.bs, e.bsz, e.funs, e.frf, e.hok, e.bare⟩
section
variable {X : Cx} {pins : List (Addr × Obj)} {σ : St} {H : Hp} {s s' : Shared}
theorem Inv.env0 (I : Inv X pins σ H s) : Env0 X.prog X.w X.K X.mg X.base X.A X.stack s H :=
  ⟨I.ok.frames, I.ok.mod, I.bs, Nat.le_trans I.ok.bsz I.sz, I.stack, I.stkFree, I.hok, I.bare⟩
theorem Inv.after {Q : VK} {u : Value} (I : Inv X pins σ H s) (h : CE X.stack X.prog X.w H s Q u s') : EP X pins σ Q u s' := by
  obtain ⟨v, H', os, bare, un, hok, r, q⟩ := h
  obtain ⟨hh, g, d, t, os'⟩ := s'
  obtain rfl : os' = s.os := os
  exact ⟨v, H', I.call (h' := hh) (g' := g) (d' := d) (t' := t) (ch := []) un hok bare (fun b z => absurd z (by simp)), r, q⟩
end
def tCall (sp : Sp) (dvs : List V) (E : XK) (t : TA) : TE := fun σ H Q => t σ H fun vs H1 => sp (vs ++ dvs) H1 Q E
def Binds (K : PySem.W.Frag) (fd : FuncData) (ps : List Str) (ds : List Value) : Prop :=
  ∀ (s : Shared) (us : List Value), K.In s.heap → (us ++ ds).length = ps.length → BindsTo s fd ⟨us, []⟩ (ps.zip (us ++ ds))
theorem Binds.all {K : PySem.W.Frag} {fd : FuncData} {ps : List Str} (h : ∀ us : List Value, us.length = ps.length → bindArgs fd ⟨us, []⟩ = pure (ps.zip us)) : Binds K fd ps [] := fun s us _ hl => by
  rw [List.append_nil] at hl ⊢
  exact .of_eq (h us hl)
def Passes (CX : CXT) (X : Cx) (E : XK) : Prop := ∀ (pins : List (Addr × Obj)) (σ : St) (H : Hp) (s : Shared) (e : Value) (s' : Shared), Inv X pins σ H s → CX X.stack H s E e s' → X.xe e s'
section
variable {X : Cx} {CX : CXT} {k : Nat} {f C : Addr} {fd : FuncData} {ps : List Str} {sp : Sp} {dvs : List V} {ds : List Value} {E : XK} {x m : Str} {p pos apos : Pos} {e o : Expr} {es : List Expr} {ta : TE} {t : TA}
theorem run_fn {pins : List (Addr × Obj)} {σ : St} {H : Hp} {s : Shared} {Q : VK} {us : List Value} {vs : List V} (F : FnOk X.prog X.w X.K X.mg X.base CX k f fd ps sp) (hr : Room k X.A) (hb : Binds X.K fd ps ds) (hd : Vals dvs ds) (hx : Passes CX X E)
    (I : Inv X pins σ H s) (r : Vals vs us) (h : sp (vs ++ dvs) H Q E) : wpAny (model X.prog X.w) X.A (call (.ref f) us) (EP X pins σ Q) X.xe s := by
  have r2 : Vals (vs ++ dvs) (us ++ ds) := r.append hd
  have hl : (us ++ ds).length = ps.length := by rw [← r2.length]; exact F.len _ _ _ _ h
  refine wpAny_call (codeAny_mono (F.run X.A X.stack s H ⟨us, []⟩ (us ++ ds) (vs ++ dvs) Q E hr I.env0 (hb s us I.kIn hl) r2 h) fun r s' hq => ?_)
  cases r with
  | error e => exact hx pins σ H s e s' I hq
  | ok fl =>
    cases fl with
    | ret u => exact I.after hq
    | next => exact False.elim hq
    | brk => exact False.elim hq
    | cont => exact False.elim hq
theorem pe_call (F : FnOk X.prog X.w X.K X.mg X.base CX k f fd ps sp) (hr : Room k X.A) (hg : Gl X x) (hm : X.mg x = some (.ref f)) (hk : PySem.W.keepIn X.K (.ref f) = true) (hb : Binds X.K fd ps ds) (hd : Vals dvs ds) (hx : Passes CX X E)
    (ha : PA X (e :: es) t) (hdb : (x == ("__debug__" : Str)) = false := by decide) (he : starEach (e :: es) X.env = (false, eval e X.env) :: starEach es X.env := by rfl) (hpl : (backTo pos (starEach es X.env)).any (·.1) = false := by rfl) :
    PE X (.Call (.Name x p) (e :: es) [] pos) (tCall sp dvs E t) := by
  intro pins s σ H Q I h
  refine wpAny_Call_Name_kw (ld_glob I hg hm ?_ hdb)
  refine PySem.W.callWith_K (h₀ := X.base) I.ok.mod.kin hk (thn (ha pos pins s σ H _ I h) fun us s1 zz185 => el5 zz185 fun vs H1 I1 r q => ⟨I1.kIn, ?_⟩) he hpl
  exact run_fn F hr hb hd hx I1 r q
end
section
variable {X : Cx} {CX : CXT} {k : Nat} {f C : Addr} {fd : FuncData} {ps ks : List Str} {sp : Sp} {E : XK} {x m : Str} {p pos apos kpos : Pos} {e o : Expr} {es : List Expr} {kws : List Keyword} {te ta : TE} {t tk : TA} {nm : Option Str}
variable {g : List Value → List Value → List Value} {gV : List V → List V → List V}
end
structure FnScope (N P : List Str) (sc : Scope) : Prop where
  kind : sc.kind = .function
  co : sc.isCoroutine = false
  gen : sc.isGenerator = false
  nd : N.Nodup
  pre : N.take P.length = P
  par : ∀ x ∈ P, sc.names.lookup x = some .local ∨ sc.names.lookup x = some .cell
  nofree : ∀ y ∈ sc.names, y.2 ≠ .free
theorem bindL_out {kindOf : Str → Option NameKind} {x : Str} : ∀ {binds : List (Str × Value)} {m : Str → Option Value}, (∀ v, (x, v) ∉ binds) → bindL kindOf binds m x = m x
  | [], _, _ => rfl
  | (n, v) :: r, m, h => by
    unfold bindL
    rw [bindL_out fun w hw => h w (List.mem_cons_of_mem _ hw)]
    split
    · have : x ≠ n := by rintro rfl; exact h v List.mem_cons_self
      simp [this]
    · rfl
theorem bindC_out {kindOf : Str → Option NameKind} {x : Str} : ∀ {binds : List (Str × Value)} {m : Str → Option Value}, (∀ v, (x, v) ∉ binds) → bindC kindOf binds m x = m x
  | [], _, _ => rfl
  | (n, v) :: r, m, h => by
    unfold bindC
    rw [bindC_out fun w hw => h w (List.mem_cons_of_mem _ hw)]
    split
    · rfl
    · have : x ≠ n := by rintro rfl; exact h v List.mem_cons_self
      simp [this]
theorem bindL_get {kindOf : Str → Option NameKind} {x : Str} {v : Value} : ∀ {P : List Str} {vs : List Value} {i : Nat} {m : Str → Option Value}, P.Nodup → P[i]? = some x → vs[i]? = some v → kindOf x = some .local →
    bindL kindOf (P.zip vs) m x = some v
  | [], _, _, _, _, h, _, _ => by simp at h
  | _ :: _, [], _, _, _, _, h, _ => by simp at h
  | p :: P, w :: vs, 0, m, nd, h1, h2, hk => by
    simp at h1 h2; subst h1; subst h2
    show bindL kindOf ((p, w) :: P.zip vs) m p = _
    unfold bindL
    rw [bindL_out fun v hv => (List.nodup_cons.mp nd).1 (List.of_mem_zip hv).1, if_pos hk]
    simp
  | p :: P, w :: vs, i + 1, m, nd, h1, h2, hk => by
    show bindL kindOf ((p, w) :: P.zip vs) m x = _
    unfold bindL
    exact bindL_get (i := i) (List.nodup_cons.mp nd).2 (by simpa using h1) (by simpa using h2) hk
theorem bindC_get {kindOf : Str → Option NameKind} {x : Str} {v : Value} : ∀ {P : List Str} {vs : List Value} {i : Nat} {m : Str → Option Value}, P.Nodup → P[i]? = some x → vs[i]? = some v → kindOf x ≠ some .local →
    bindC kindOf (P.zip vs) m x = some v
  | [], _, _, _, _, h, _, _ => by simp at h
  | _ :: _, [], _, _, _, _, h, _ => by simp at h
  | p :: P, w :: vs, 0, m, nd, h1, h2, hk => by
    simp at h1 h2; subst h1; subst h2
    show bindC kindOf ((p, w) :: P.zip vs) m p = _
    unfold bindC
    rw [bindC_out fun v hv => (List.nodup_cons.mp nd).1 (List.of_mem_zip hv).1, if_neg hk]
    simp
  | p :: P, w :: vs, i + 1, m, nd, h1, h2, hk => by
    show bindC kindOf ((p, w) :: P.zip vs) m x = _
    unfold bindC
    exact bindC_get (i := i) (List.nodup_cons.mp nd).2 (by simpa using h1) (by simpa using h2) hk
def start (N : List Str) (vs : List V) : St := vs.map some ++ List.replicate (N.length - vs.length) none
def cxOf (CX : CXT) (P : Program) (w : World) (K : PySem.W.Frag) (mg : Str → Option Value) (base : Heap) (N : List Str) (qual : Str) (scope : Scope) (f : Addr) (cd : Value) (A : Around) (outer : List Env) (s : Shared) (H : Hp) (E : XK) : Cx where
  prog := P
  w := w
  K := K
  mg := mg
  base := base
  A := A.deeper (envOfC qual scope s.heap.objs.size f cd)
  N := N
  s₀ := s
  H₀ := H
  env := envOfC qual scope s.heap.objs.size f cd
  outer := outer
  stack := envOfC qual scope s.heap.objs.size f cd :: outer
  ex := []
  calm := true
  fn := fun _ => true
  pn := []
  xe := fun e s' => wpAny (model P w) (A.deeper (envOfC qual scope s.heap.objs.size f cd)) (leaving (envOfC qual scope s.heap.objs.size f cd) e) (fun _ s'' => CX outer H s E e s'') (fun e' s'' => CX outer H s E e' s'') s'
theorem cell_has {sc : Scope} {n : Nat} {x : Str} (h : sc.names.lookup x = some .cell) : ∃ c, (cellsFrom n sc.names []).lookup x = some c := by
  have q := PySem.W.cellsFrom_some sc.names n [] (.inl h)
  exact Option.isSome_iff_exists.mp q
theorem inv_start {CX : CXT} {P : Program} {w : World} {K : PySem.W.Frag} {mg : Str → Option Value} {base : Heap} {N ps : List Str} {qual : Str} {scope : Scope} {f : Addr} {cd : Value} {A : Around} {outer : List Env} {s s1 : Shared} {H : Hp} {E : XK} {us : List Value} {vs : List V}
    (S : FnScope N ps scope) (hd : A.handled = none) (e0 : Env0 P w K mg base A outer s H) (hl : vs.length = ps.length) (r : Vals vs us)
    (x : InCallC s s.heap.objs.size (bindL (envOfC qual scope s.heap.objs.size f cd).kindOf (ps.zip us) fun _ => none) (cellsFrom (s.heap.objs.size + 1) scope.names []) (bindC (envOfC qual scope s.heap.objs.size f cd).kindOf (ps.zip us) fun _ => none) s1) :
    Inv (cxOf CX P w K mg base N qual scope f cd A outer s H E) [] (start N vs) H s1 := by
  have hpl : ps.length ≤ N.length := by have := congrArg List.length S.pre; rw [List.length_take] at this; lia
  obtain ⟨h1, tk, rfl, hk⟩ := x.done
  have noA : ∀ b : Addr, b ∉ (cxOf CX P w K mg base N qual scope f cd A outer s H E).ex := fun b z => absurd (show b ∈ ([] : List Addr) from z) (by simp)
  refine ⟨⟨e0.mod, S.kind, rfl, rfl, Nat.le_refl _, fun y z c h1 h2 => ?_, fun y hy => ?_, fun y c _ h => ?_, fun _ => hd, Around.frames_deeper e0.frames, .inr ⟨rfl, rfl⟩, fun b z => absurd z (noA b), e0.bs, e0.bsz, fun b _ _ => noA b, fun b z => absurd z (noA b), e0.funs, e0.frf⟩,
    rfl, e0.bare, Un.kept hk, ⟨_, x.toInCall.ns, fun i y v h1 h2 h3 => ?_⟩, fun y c h => ⟨_, x.cell y c h⟩, e0.hok.fresh (Nat.le_refl _), fun y c h => ?_, fun p hp => absurd (show p ∈ ([] : List (Addr × Obj)) from hp) (by simp), e0.hok.kept hk, ?_⟩
  · exact name_of_addr x.apart (PySem.mem_of_lookup h1) (PySem.mem_of_lookup h2)
  · have hy : scope.names.lookup y = some .cell ∨ scope.names.lookup y = some .free := hy
    rcases hy with hy | hy
    · exact cell_has hy
    · exact absurd rfl (S.nofree _ (PySem.mem_of_lookup hy))
  · exact Nat.le_of_lt (x.above y c (PySem.mem_of_lookup h))
  · have hi : i < vs.length := by
      unfold start at h2
      by_cases hi : i < vs.length
      · exact hi
      · rw [List.getElem?_append_right (by simpa using hi)] at h2
        rw [List.getElem?_replicate] at h2
        split at h2 <;> cases h2
    have ha : vs[i]? = some v := by
      unfold start at h2
      rw [List.getElem?_append_left (by simpa using hi), List.getElem?_map] at h2
      cases e : vs[i]? with
      | none => rw [e] at h2; cases h2
      | some a => rw [e] at h2; cases h2; rfl
    obtain ⟨u, hu, rv⟩ := r.get ha
    have hp : ps[i]? = some y := by
      rw [← S.pre, List.getElem?_take_of_lt (by lia)]; exact h1
    have ndP : ps.Nodup := by rw [← S.pre]; exact S.nd.sublist (List.take_sublist _ _)
    refine ⟨u, rv, ?_⟩
    rcases S.par y (List.mem_of_getElem? hp) with k | k
    · exact .inl ⟨k, bindL_get ndP hp hu k⟩
    · obtain ⟨c, e⟩ := cell_has (n := s.heap.objs.size + 1) k
      refine .inr ⟨.inl k, c, e, ?_⟩
      have q := x.cell y c e
      rw [bindC_get ndP hp hu (by show scope.names.lookup y ≠ _; rw [k]; decide)] at q
      exact q
  · exact e0.hok.fresh (Nat.le_of_lt (x.above y c (PySem.mem_of_lookup h)))
  · unfold start
    show _ = N.length
    rw [List.length_append, List.length_map, List.length_replicate]
    lia
theorem fn_of {CX : CXT} {P : Program} {w : World} {K : PySem.W.Frag} {mg : Str → Option Value} {base : Heap} {k : Nat} {f : Addr} {name qual : Str} {params : Arguments} {body : List Stmt} {scope : Scope} {dV kV doc pm cdv ct oc : Value} {an od : Option Addr}
    {osl : Array (Option Value)} {N ps : List Str} {sp : Sp} (lk : K.lookup f = some ⟨oc, od, .func (PySem.W.fnOf name qual params body scope dV kV doc pm an cdv ct), osl⟩) (hcd : PySem.W.codeIn K cdv qual = true) (S : FnScope N ps scope)
    (len : ∀ vs H Q E, sp vs H Q E → vs.length = ps.length)
    (hbody : ∀ (A : Around) (outer : List Env) (s : Shared) (H : Hp) (vs : List V) (Q : VK) (E : XK), Room k (A.deeper (envOfC qual scope s.heap.objs.size f cdv)) → sp vs H Q E →
      ∃ t, PSs (cxOf CX P w K mg base N qual scope f cdv A outer s H E) body t ∧ t { nx := fun _ H' => Q .non H', rt := Q } (start N vs) H) :
    FnOk P w K mg base CX (k + 1) f (PySem.W.fnOf name qual params body scope dV kV doc pm an cdv ct) ps sp := by
  refine ⟨len, fun A outer s H args us vs Q E hr e0 hb r hsp => ?_⟩
  have hl := len _ _ _ _ hsp
  have KX : K.In s.heap := e0.mod.kin.keeps fun b o e => (e0.bs b o e).1
  have lim : s.heap.NoLimit := e0.mod.nolimit.keeps fun b o e => (e0.bs b o e).1
  have hkind : ∀ y ∈ ps.zip us, scope.names.lookup y.1 = some .local ∨ (scope.names.lookup y.1 = some .cell ∧ ((cellsFrom (s.heap.objs.size + 1) scope.names []).lookup y.1).isSome = true) := fun ⟨n, v⟩ hy => by
    rcases S.par n (List.of_mem_zip hy).1 with q | q
    · exact .inl q
    · exact .inr ⟨q, PySem.W.cellsFrom_some _ _ _ (.inl q)⟩
  refine codeAny_call_function hr.depth (KX _ _ lk) rfl S.co S.gen rfl (PySem.W.codeRec_of KX hcd) (hb _ _ _ _ ?_)
  refine wpAny_newFunctionEnv_cells S.kind hkind fun env he s1 x => ?_
  subst he
  refine ⟨lim.keeps x.toInCall.keep, codeAny_func ?_⟩
  obtain ⟨t, ht, hq⟩ := hbody A outer s H vs Q E (hr.deeper _) hsp
  have I : Inv (cxOf CX P w K mg base N qual scope f cdv A outer s H E) [] (start N vs) H s1 := inv_start S hr.hd e0 hl r x
  refine wpAny_mono (ht [] s1 (start N vs) H _ I hq) (fun fl s' hs => ?_) fun e s' hs => hs
  have fin : ∀ {σ' : St} {H' : Hp} {v : V} {u : Value}, Inv (cxOf CX P w K mg base N qual scope f cdv A outer s H E) [] σ' H' s' → RelV v u → Q v H' → CE outer P w H s Q u s' :=
    fun {σ' H' v u} J rv q => ⟨v, H', J.os, J.bare, J.base, J.hok, rv, q⟩
  cases fl with
  | ret u =>
    obtain ⟨v, σ', H', J, rv, q⟩ := hs
    exact fin J rv q
  | next =>
    obtain ⟨σ', H', J, q⟩ := hs
    exact fin (v := V.non) (u := Value.none) J rfl q
  | brk =>
    obtain ⟨_, _, _, q⟩ := hs
    exact False.elim q
  | cont =>
    obtain ⟨_, _, _, q⟩ := hs
    exact False.elim q
end L2
namespace L2
open PySem PySem.Spec PyProof.Rows
section
variable {X : Cx} {x : Str} {p pos : Pos} {e : Expr} {es : List Expr} {t : TA} {id T : String} {r : List V → Hp → VK → Prop}
def tCB (r : List V → Hp → VK → Prop) (t : TA) : TE := fun σ H Q => t σ H fun vs H1 => r vs H1 Q
theorem pe_callB (hc : CallR X (.builtin id) r) (hg : Gl X x) (hm : X.mg x = none) (hv : bootBuiltins x = some (.builtin id)) (ha : PA X (e :: es) t) (hn : x ≠ "__name__" := by decide) (hdb : (x == ("__debug__" : Str)) = false := by decide)
    (he : starEach (e :: es) X.env = (false, eval e X.env) :: starEach es X.env := by rfl) (hpl : (backTo pos (starEach es X.env)).any (·.1) = false := by rfl) : PE X (.Call (.Name x p) (e :: es) [] pos) (tCB r t) := by
  intro pins s σ H Q I h
  refine wpAny_Call_Name_kw (ld_blt I hg hm hv ?_ hn hdb)
  exact PyProof.Rows.callWith_builtin1 (thn (ha pos pins s σ H _ I h) fun us s1 zz213 => el5 zz213 fun vs H1 I1 r1 q1 => hc pins s1 σ H1 vs us Q I1 r1 q1) he hpl
theorem pe_callTy (hc : CallR X (.type T) r) (hg : Gl X x) (hm : X.mg x = none) (hv : bootBuiltins x = some (.type T)) (ha : PA X (e :: es) t) (hn : x ≠ "__name__" := by decide) (hdb : (x == ("__debug__" : Str)) = false := by decide)
    (he : starEach (e :: es) X.env = (false, eval e X.env) :: starEach es X.env := by rfl) (hpl : (backTo pos (starEach es X.env)).any (·.1) = false := by rfl) : PE X (.Call (.Name x p) (e :: es) [] pos) (tCB r t) := by
  intro pins s σ H Q I h
  refine wpAny_Call_Name_kw (ld_blt I hg hm hv ?_ hn hdb)
  exact PyProof.Rows.callWith_type1 (thn (ha pos pins s σ H _ I h) fun us s1 zz214 => el5 zz214 fun vs H1 I1 r1 q1 => hc pins s1 σ H1 vs us Q I1 r1 q1) he hpl
end
end L2
namespace HT
open PySem PyProof.Rows
section
open PySem.SeqAt
open PySem.AutoSeq1 (wpAny_loadPart')
open PySem.MeetsSeq PySem.MeetsSeq2 PySem.MeetsSeq3
end
section
variable {prog : Program} {w : World} {A : Around} {E : Value → Shared → Prop} {s : Shared}
def sIx (n d : Nat) : Option Int → Nat
  | none => d
  | some v => if v < 0 then (v + (n : Int)).toNat else min v.toNat n
end
end HT
namespace L2
open PySem PySem.Spec PyProof.Rows
abbrev TO := St → Hp → (Option Int → Hp → Prop) → Prop
def PO (X : Cx) (e : Option Expr) (t : TO) : Prop :=
  ∀ (pins : List (Addr × Obj)) (s : Shared) (σ : St) (H : Hp) (Q : Option Int → Hp → Prop), Inv X pins σ H s → t σ H Q →
    wpAny (model X.prog X.w) X.A (evalPart e X.env) (fun u s' => ∃ o H', Inv X pins σ H' s' ∧ IsPart u o ∧ Q o H') X.xe s
def tNoPart : TO := fun _ H Q => Q none H
def tPart (t : TE) : TO := fun σ H Q => t σ H fun x H1 => ∃ i, x = .int i ∧ Q (some i) H1
section
variable {X : Cx} {e : Expr} {te : TE} {lo hi : Option Expr} {tl th : TO} {pos p2 : Pos}
theorem po_none : PO X none tNoPart := by
  intro pins s σ H Q I h
  rw [evalPart_none]
  exact wpAny_pure ⟨none, H, I, .none, h⟩
theorem po_some (h : PE X e te) : PO X (some e) (tPart te) := by
  intro pins s σ H Q I hw
  rw [evalPart_some]
  refine thn (h pins s σ H _ I hw) fun u s1 zz215 => el5 zz215 fun x H1 I1 r1 q1 => ?_
  obtain ⟨i, rfl, q⟩ := q1
  obtain ⟨t, rfl⟩ := r1
  exact ⟨some i, H1, I1, .int i t, q⟩
def SlR (X : Cx) (r : V → Option Int → Option Int → Hp → VK → Prop) : Prop :=
  ∀ (pins : List (Addr × Obj)) (s : Shared) (σ : St) (H : Hp) (x : V) (v vl vu : Value) (lo hi : Option Int) (sl : Addr) (Q : VK), Inv X pins σ H s → RelV x v → s.heap.IsSliceOf sl vl vu .none → IsPart vl lo → IsPart vu hi → r x lo hi H Q →
    ∃ T id, typeLookup (.type T) "__getitem__" = pure (some (.builtin id)) ∧ s.TypeIs v T ∧ wpAny (model X.prog X.w) X.A (getItem v (.ref sl)) (EP X pins σ Q) X.xe s
def tSl (r : V → Option Int → Option Int → Hp → VK → Prop) (te : TE) (tl th : TO) : TE := fun σ H Q => te σ H fun x H1 => tl σ H1 fun l H2 => th σ H2 fun u H3 => r x l u H3 Q
theorem pe_slice {r : V → Option Int → Option Int → Hp → VK → Prop} (hr : SlR X r) (he : PE X e te) (hl : PO X lo tl) (hu : PO X hi th) : PE X (.Subscript e (.Slice lo hi none p2) pos) (tSl r te tl th) := by
  intro pins s σ H Q I h
  refine Subscript_ (thn (he pins s σ H _ I h) fun v s1 zz216 => el5 zz216 fun x H1 I1 r1 q1 => ?_)
  refine wpAny_Slice (thn (hl pins s1 σ H1 _ I1 q1) fun vl s2 zz217 => el5 zz217 fun l H2 I2 pl q2 => thn (hu pins s2 σ H2 _ I2 q2) fun vu s3 zz218 => el5 zz218 fun u H3 I3 pu q3 => ?_)
  rw [evalPart_none]
  refine wpAny_pure ?_
  have I4 : Inv X pins σ H3 { s3 with heap := s3.heap.push { cls := .type "slice", data := .fields #[vl, vu, .none] } } := I3.kept (t' := s3.toks) fun b ob q => Heap.get?_push_of_some _ q
  obtain ⟨T, id, hT, ht, hg⟩ := hr pins { s3 with heap := s3.heap.push { cls := .type "slice", data := .fields #[vl, vu, .none] } } σ H3 x v vl vu l u s3.heap.objs.size Q I4 r1 (Heap.IsSliceOf.new ..) pl pu q3
  show wpAny (model X.prog X.w) X.A (subscriptTail e (.Slice lo hi none p2) v (.ref s3.heap.objs.size)) (EP X pins σ Q) X.xe { s3 with heap := s3.heap.push { cls := .type "slice", data := .fields #[vl, vu, .none] } }
  exact tail_any (ops := [.ref s3.heap.objs.size, v]) ht hT hg (by with_unfolding_all rfl)
def cutV (xs : List V) (lo hi : Option Int) : List V := (xs.drop (HT.sIx xs.length 0 lo)).take (HT.sIx xs.length xs.length hi - HT.sIx xs.length 0 lo)
theorem cutV_length (xs : List V) (lo hi : Option Int) : (cutV xs lo hi).length ≤ xs.length := by
  unfold cutV
  rw [List.length_take, List.length_drop]
  lia
end
end L2
namespace L2
open PySem PySem.Spec PyProof.Rows
def ixN (n : Nat) (i : Int) : Option Nat := if 0 ≤ i then (if i < n then some i.toNat else none) else if -(n : Int) ≤ i then some (i + n).toNat else none
def atI {α : Type} (xs : List α) (i : Int) : Option α := (ixN xs.length i).bind fun j => xs[j]?
theorem ixN_seq {n : Nat} {i : Int} {j : Nat} (h : ixN n i = some j) : seqIndex? i n = some j ∧ j < n ∧ -(n : Int) ≤ i ∧ i < n := by
  unfold ixN at h
  by_cases h0 : 0 ≤ i
  · rw [if_pos h0] at h
    by_cases h1 : i < n
    · rw [if_pos h1] at h
      have e : i.toNat = j := Option.some.inj h
      exact ⟨by rw [seqIndex_of h0 h1, e], by lia, by lia, h1⟩
    · rw [if_neg h1] at h; cases h
  · rw [if_neg h0] at h
    by_cases h1 : -(n : Int) ≤ i
    · rw [if_pos h1] at h
      have e : (i + n).toNat = j := Option.some.inj h
      exact ⟨by rw [seqIndex_neg (by lia) h1, e], by lia, h1, by lia⟩
    · rw [if_neg h1] at h; cases h
theorem atI_get {α : Type} {xs : List α} {i : Int} {v : α} (h : atI xs i = some v) : ∃ j, seqIndex? i xs.length = some j ∧ xs[j]? = some v ∧ j < xs.length ∧ -(xs.length : Int) ≤ i ∧ i < xs.length := by
  unfold atI at h
  cases e : ixN xs.length i with
  | none => rw [e] at h; cases h
  | some j =>
    rw [e] at h
    obtain ⟨h1, h2, h3, h4⟩ := ixN_seq e
    exact ⟨j, h1, h, h2, h3, h4⟩
theorem atI_nat {α : Type} {xs : List α} {j : Nat} {v : α} (h : xs[j]? = some v) : atI xs (j : Int) = some v := by
  have hj : j < xs.length := (List.getElem?_eq_some_iff.mp h).1
  have e : ixN xs.length (j : Int) = some j := by
    unfold ixN
    rw [if_pos (by lia), if_pos (by lia)]; simp
  unfold atI; rw [e]; exact h
def PlainIx (b : Expr) : Prop := ∀ o i, subscripted b false o i = operate [o, i] (getItem o i)
def IxR (X : Cx) (r : R2) : Prop :=
  ∀ (value slice : Expr) (pins : List (Addr × Obj)) (s : Shared) (σ : St) (H : Hp) (x y : V) (v u : Value) (Q : VK), Inv X pins σ H s → RelV x v → RelV y u → r x y H Q →
    subscripted slice false v u = operate [v, u] (getItem v u) → wpAny (model X.prog X.w) X.A (subscriptTail value slice v u) (EP X pins σ Q) X.xe s
def MtR (X : Cx) (id : String) (r : V → List V → Hp → VK → Prop) : Prop :=
  ∀ (pins : List (Addr × Obj)) (s : Shared) (σ : St) (H : Hp) (x : V) (xs : List V) (v : Value) (us : List Value) (Q : VK), Inv X pins σ H s → RelV x v → Vals xs us → r x xs H Q →
    wpAny (model X.prog X.w) X.A (call (.builtin id) (v :: us)) (EP X pins σ Q) X.xe s
section
variable {X : Cx} {a b : Expr} {ta tb : TE} {pos : Pos}
theorem pe_ix {r : R2} (hr : IxR X r) (ha : PE X a ta) (hb : PE X b tb) (hs : PlainIx b) : PE X (.Subscript a b pos) (tOp r ta tb) := by
  intro pins s σ H Q I h
  exact Subscript_ (binT ha hb I h fun v u s2 x y H2 I2 rx ry q => hr a b pins s2 σ H2 x y v u Q I2 rx ry q (hs _ _))
def rIxL (K : PySem.W.Frag) : R2 := fun x y H Q => ∃ p xs i v, x = .ref p ∧ y = .int i ∧ SqL K H p xs ∧ atI xs i = some v ∧ Q v H
theorem ix_list : IxR X (rIxL X.K) := by
  intro value slice pins s σ H x y v u Q I rx ry h hs
  obtain ⟨p, xs, i, z, rfl, rfl, hq, he, q⟩ := h
  cases rx
  obtain ⟨t, rfl⟩ := ry
  obtain ⟨its, r, pl, hz⟩ := I.list hq
  obtain ⟨j, h1, h2, h3, h4, h5⟩ := atI_get he
  obtain ⟨w, ew, rw'⟩ := r.get h2
  have hl := r.length
  have hn := line63
  have fin : EP X pins σ Q w s := ⟨z, H, I, rw', q⟩
  by_cases h0 : 0 ≤ i
  · have hj : i.toNat = j := by
      rw [seqIndex_of h0 h5] at h1
      exact Option.some.inj h1
    exact item_listR pl.isList h0 (by lia) (by rw [hj]; simpa using ew) fin hs
  · have hj : (i + (its.toArray.size : Int)).toNat = j := by
      rw [seqIndex_neg (by lia) h4] at h1
      rw [List.size_toArray, ← hl]
      exact Option.some.inj h1
    exact subscriptTail_builtinR (x := w) pl.isList.typeIs slot_list_getitem.lookup
      (wpAny_getItem_list_neg (Q := fun r s' => r = w ∧ EP X pins σ Q r s') pl.isList (by lia) (by rw [List.size_toArray] <;> lia) (by lia) (by rw [hj]; simpa using ew) ⟨rfl, fin⟩) hs
theorem mapSeq_set (its : List Value) (n j : Nat) (u : Value) : Obj.mapSeq (·.setIfInBounds j u) { cls := .type "list", data := .seq its.toArray n } = { cls := .type "list", data := .seq (its.set j u).toArray n } := by
  simp [Obj.mapSeq]
theorem Inv.lst {pins : List (Addr × Obj)} {σ : St} {H : Hp} {s : Shared} {p : Addr} {xs : List V} (I : Inv X pins σ H s) (h : H p = some (.lst xs)) :
    ∃ (its : List Value) (n : Nat), Vals xs its ∧ s.heap.get? p = some { cls := .type "list", data := .seq its.toArray n } ∧ xs.length ≤ sizeLine := by
  obtain ⟨z, its, n, r, e⟩ := I.hok p _ h
  exact ⟨its, n, r, e, z⟩
theorem Inv.lstUpd {pins : List (Addr × Obj)} {σ : St} {H : Hp} {s : Shared} {p : Addr} {xs ys : List V} {its its' : List Value} {n n' : Nat} {f : Obj → Obj} (I : Inv X pins σ H s) (h : H p = some (.lst xs))
    (ho : s.heap.get? p = some { cls := .type "list", data := .seq its.toArray n }) (hf : f { cls := .type "list", data := .seq its.toArray n } = { cls := .type "list", data := .seq its'.toArray n' }) (r : Vals ys its') (hz : ys.length ≤ sizeLine) (t : Nat) :
    Inv X pins σ (upd H p (.lst ys)) { s with heap := s.heap.update p f, toks := t } := by
  have e : (s.heap.update p f).get? p = some { cls := .type "list", data := .seq its'.toArray n' } := by
    rw [Heap.get?_update_self f ho (by rw [hf] <;> rfl), hf]
  refine I.write (x := p) (e := p) (by rw [h]; trivial) (.inl rfl) (fun b u hb q => (Heap.get?_update_other _ _ (Ne.symm hb)).trans q) ⟨_, e⟩ ?_
  exact ⟨hz, its', n', r, e⟩
def rSetL : V → V → V → Hp → (Hp → Prop) → Prop := fun o i v H Q => ∃ p xs k j, o = .ref p ∧ i = .int k ∧ H p = some (.lst xs) ∧ ixN xs.length k = some j ∧ Q (upd H p (.lst (xs.set j v)))
theorem set_list : PSet X rSetL := by
  intro pins s σ H o i v ov iv u Q I ro ri rv h
  obtain ⟨p, xs, k, j, rfl, rfl, hp, hj, q⟩ := h
  cases ro
  obtain ⟨t, rfl⟩ := ri
  obtain ⟨its, n, r, ho, hz⟩ := I.lst hp
  obtain ⟨h1, h2, h3, h4⟩ := ixN_seq hj
  have hl := r.length
  have hn := line63
  have I' : Inv X pins σ (upd H p (.lst (xs.set j v))) { s with heap := s.heap.update p (Obj.mapSeq (·.setIfInBounds j u)) } :=
    I.lstUpd hp ho (mapSeq_set its n j u) (r.set rv j) (by rw [List.length_set]; exact hz) s.toks
  by_cases h0 : 0 ≤ k
  · have hk : k.toNat = j := by
      rw [seqIndex_of h0 h4] at h1
      exact Option.some.inj h1
    exact PySem.W.ki_setAt ho h0 (by lia) (by rw [List.size_toArray, ← hl]; exact h4) (by rw [hk]; exact ⟨_, I', q⟩)
  · have hk : (k + (its.toArray.size : Int)).toNat = j := by
      rw [seqIndex_neg (by lia) h3] at h1
      rw [List.size_toArray, ← hl]
      exact Option.some.inj h1
    exact PySem.W.ki_setBack ho (by lia) (by rw [List.size_toArray, ← hl]; exact h3) (by lia) (by rw [hk]; exact ⟨_, I', q⟩)
theorem slice_bounds (lo hi : Option Int) (n : Nat) : (sliceBounds lo hi none n).1 = ((HT.sIx n 0 lo : Nat) : Int) ∧ (sliceBounds lo hi none n).2.1 = ((HT.sIx n n hi : Nat) : Int) ∧ (sliceBounds lo hi none n).2.2 = 1 := by
  refine ⟨?_, ?_, rfl⟩
  · cases lo with
    | none => simp [sliceBounds, HT.sIx]
    | some i =>
      simp only [sliceBounds, HT.sIx, Option.getD_none, show (1 : Int) > 0 by decide, if_true]
      by_cases h : i < 0
      · simp only [h, if_true] <;> lia
      · simp only [h, if_false] <;> lia
  · cases hi with
    | none => simp [sliceBounds, HT.sIx]
    | some i =>
      simp only [sliceBounds, HT.sIx, Option.getD_none, show (1 : Int) > 0 by decide, if_true]
      by_cases h : i < 0
      · simp only [h, if_true] <;> lia
      · simp only [h, if_false] <;> lia
theorem slicePick_cut (its : List Value) (lo hi : Option Int) : slicePick its.toArray lo hi none = ((its.drop (HT.sIx its.length 0 lo)).take (HT.sIx its.length its.length hi - HT.sIx its.length 0 lo)).toArray := by
  obtain ⟨h1, h2, h3⟩ := slice_bounds lo hi its.toArray.size
  unfold slicePick
  rw [h1, h2, h3]
  simp only [sliceRange_one, pick_run, List.size_toArray] <;> rfl
def rSlL (K : PySem.W.Frag) : V → Option Int → Option Int → Hp → VK → Prop := fun x lo hi H Q => ∃ a xs, x = .ref a ∧ SqL K H a xs ∧ ∀ p, H p = none → Q (.ref p) (upd H p (.lst (cutV xs lo hi)))
theorem sl_list : SlR X (rSlL X.K) := by
  intro pins s σ H x v vl vu lo hi sl Q I rx hs pl pu h
  obtain ⟨a, xs, rfl, hx, q⟩ := h
  cases rx
  obtain ⟨its, r, ht, hz⟩ := I.list hx
  have hlen := r.length
  refine ⟨"list", _, slot_list_getitem.lookup, ht.isList.typeIs, ?_⟩
  refine wpAny_getItem_list_slice ht.isList hs pl pu .none (by simp) ?_ (by rw [List.size_toArray] <;> lia)
  rw [slicePick_cut, ← hlen]
  refine ⟨.ref s.heap.objs.size, _, I.laid (t' := s.toks) (o := .lst (cutV xs lo hi)) (fun b ob q => Heap.get?_push_of_some _ q) (Nat.le_refl _) ?_, rfl, q _ (I.hok.fresh (Nat.le_refl _))⟩
  exact ⟨Nat.le_trans (cutV_length xs lo hi) hz, _, 0, (r.drop (HT.sIx xs.length 0 lo)).take (HT.sIx xs.length xs.length hi - HT.sIx xs.length 0 lo), Heap.get?_push_size _ rfl⟩
def eqV : V → V → Bool
  | .non, .non => true
  | .bl a, .bl b => a == b
  | .bl a, .int b => (if a then 1 else 0) == b
  | .int a, .bl b => a == (if b then 1 else 0)
  | .int a, .int b => a == b
  | .str a, .str b => a == b
  | _, _ => false
def inV (x : V) (xs : List V) : Bool := xs.any fun y => eqV y x
theorem call_len_seq : CallR X (.builtin "len") (fun xs H Q => ∃ p ys, xs = [.ref p] ∧ (SqL X.K H p ys ∨ SqT X.K H p ys) ∧ Q (.int ys.length) H) := by
  intro pins s σ H xs us Q I r h
  obtain ⟨p, ys, rfl, hq, q⟩ := h
  obtain ⟨u, rfl, rx⟩ := vals1 r
  cases rx
  have hn := line63
  rcases hq with hq | hq
  · obtain ⟨its, r', pl, hz⟩ := I.list hq
    have hlen := r'.length
    exact Calls.call_len_list pl.isList (by simp only [List.size_toArray] <;> lia) ⟨.int ys.length, H, I.tok _, ⟨s.toks + 1, by rw [List.size_toArray, hlen]⟩, q⟩
  · obtain ⟨its, r', pl, hz⟩ := I.tuple hq
    have hlen := r'.length
    exact len_tuple pl (by simp only [List.size_toArray] <;> lia) ⟨.int ys.length, H, I.tok _, ⟨s.toks + 1, by rw [List.size_toArray, hlen]⟩, q⟩
theorem call_list_of : CallR X (.type "list") (fun xs H Q => ∃ p ys, xs = [.ref p] ∧ (SqL X.K H p ys ∨ SqT X.K H p ys) ∧ ∀ l, H l = none → Q (.ref l) (upd H l (.lst ys))) := by
  intro pins s σ H xs us Q I r h
  obtain ⟨p, ys, rfl, hq, q⟩ := h
  obtain ⟨u, rfl, rx⟩ := vals1 r
  cases rx
  have fin : ∀ (its : List Value), Vals ys its → ys.length ≤ sizeLine → ∀ (h' : Heap) (c' : Nat), (∀ b o', s.heap.get? b = some o' → h'.get? b = some o') →
      h'.get? s.heap.objs.size = some { cls := .type "list", dict := none, data := .seq its.toArray c', slots := #[] } → EP X pins σ Q (.ref s.heap.objs.size) { s with heap := h' } := fun its r' hz h' c' kp e =>
    ⟨.ref s.heap.objs.size, _, I.laid (t' := s.toks) kp (Nat.le_refl _) (show ObjOk X.prog X.w _ h' _ (.lst ys) from ⟨hz, its, c', r', e⟩), rfl, q _ (I.hok.fresh (Nat.le_refl _))⟩
  rcases hq with hq | hq
  · obtain ⟨its, r', pl, hz⟩ := I.list hq
    have hlen := r'.length
    obtain ⟨o, ho, hc, n, hd⟩ := pl.isList
    exact call_list_seq p (.inl rfl) ho hc hd (fun h' c' kp e => fin its r' hz h' c' kp e) (by simp only [List.size_toArray] <;> lia)
  · obtain ⟨its, r', pl, hz⟩ := I.tuple hq
    have hlen := r'.length
    obtain ⟨o, ho, hc, n, hd⟩ := pl
    exact call_list_seq p (.inr rfl) ho hc hd (fun h' c' kp e => fin its r' hz h' c' kp e) (by simp only [List.size_toArray] <;> lia)
variable {o e : Expr} {es : List Expr} {to : TE} {t : TA} {name : Str} {apos cpos : Pos} {T id : String} {r : V → List V → Hp → VK → Prop}
end
end L2
namespace L2
open PySem PySem.Spec PyProof.Rows
section
variable {X : Cx} {pins : List (Addr × Obj)} {σ : St} {H : Hp} {s : Shared} {l b : Addr} {xs ys zs : List V}
theorem Inv.lnew {its : List Value} {t' : Nat} (I : Inv X pins σ H s) (hv : Vals ys its) (hz : ys.length ≤ sizeLine) :
    Inv X pins σ (upd H s.heap.objs.size (.lst ys)) { s with heap := s.heap.push { cls := .type "list", data := .seq its.toArray }, toks := t' } :=
  I.laid (fun _ _ q => Heap.get?_push_of_some _ q) (Nat.le_refl _) ⟨hz, its, 0, hv, Heap.get?_push_size _ rfl⟩
theorem Inv.fresh (I : Inv X pins σ H s) : H s.heap.objs.size = none := I.hok.fresh (Nat.le_refl _)
theorem Inv.lstM (I : Inv X pins σ H s) (hH : H l = some (.lst xs)) : xs.length ≤ sizeLine ∧ ∃ (its : List Value) (n : Nat), Vals xs its ∧ xs.length = its.length ∧ s.heap.get? l = some { cls := .type "list", data := .seq its.toArray n } := by
  obtain ⟨z, its, n, r, e⟩ := I.hok l _ hH
  exact ⟨z, its, n, r, r.length, e⟩
end
section
variable {X : Cx}
def rCat : R2 := fun x y H Q => ∃ l b xs zs, x = .ref l ∧ y = .ref b ∧ H l = some (.lst xs) ∧ H b = some (.lst zs) ∧ xs.length + zs.length ≤ sizeLine ∧ ∀ p, H p = none → Q (.ref p) (upd H p (.lst (xs ++ zs)))
theorem op_cat : OpR X (binaryOp .Add) rCat := by
  intro pins s σ H x y v u Q I rx ry h
  obtain ⟨l, b, xs, zs, rfl, rfl, hH, hB, hz, q⟩ := h
  cases rx
  cases ry
  obtain ⟨z, its, n, r, hl, e⟩ := I.lstM hH
  obtain ⟨z2, its2, n2, r2, hl2, e2⟩ := I.lstM hB
  refine PySem.P.add_list e e2 ?_ (by rw [List.size_toArray, List.size_toArray]; lia)
  have ea : its.toArray ++ its2.toArray = (its ++ its2).toArray := by simp
  rw [ea]
  exact ⟨.ref _, _, I.lnew (t' := s.toks) (r.append r2) (by rw [List.length_append]; lia), rfl, q _ I.fresh⟩
end
section
variable {prog : Program} {w : World} {A : Around} {E : Value → Shared → Prop} {s : Shared}
set_option maxRecDepth 100000 in
end
section
variable {X : Cx}
end
end L2
namespace Att
open PySem PySem.W PySem.Calls PyProof.Rows
theorem ints_of_wellAll {P : Params} {h : Heap} : ∀ (ns : List Int) (vs : List Value), WellAll P h vs (ns.map WData.int) → IntsAre vs ns := by
  intro ns
  induction ns with
  | nil =>
    intro vs w
    rw [List.map_nil] at w
    cases w
    exact .nil
  | cons n ns ih =>
    intro vs w
    rw [List.map_cons] at w
    cases w with
    | cons a b =>
      cases a
      exact .cons _ _ (ih _ b)
theorem script_of {l : OpenLaw} {n : Nat} (hn : l.most = some n) {P : Params} {h : Heap} {args : List WData} {vals : List Value}
    (hpre : l.row.toRowW.claim.pre args = true) (hwl : WellAll P h vals args) :
    ∃ a vs ns, vals = [Value.ref a] ∧ args = [WData.list (ns.map WData.int)] ∧ h.get? a = some { cls := .type "list", data := .seq vs.toArray } ∧ IntsAre vs ns ∧ ns.length ≤ n := by
  have hsh : WShape.hasAll [] args [.list .int] = true := (pre_splitW hpre).1
  have hc : l.pre.holds [] { args := args } = true := (pre_splitW hpre).2
  obtain ⟨d, r, rfl, h1, h2⟩ := hasAllW_cons hsh
  obtain rfl := hasAllW_nil h2
  obtain ⟨xs, rfl, h3⟩ := hasW_list h1
  obtain ⟨ns, rfl⟩ := items_int h3
  have hlen : ns.length ≤ n := by
    unfold OpenLaw.pre at hc
    have h4 : (WTm.not (.lt (.lit (.int (n : Int))) (.len (.arg 0)))).holds [] { args := [.list (ns.map .int)] } = true := by
      have h4 := (holds_andW hc).1
      rw [hn] at h4
      exact h4
    have h5 := condW_of h4 (w_not (w_lt w_lit (w_len_list (w_arg rfl))))
    rw [List.length_map] at h5
    refine Nat.le_of_not_lt fun q => ?_
    have q' : (n : Int) < ((ns.length : Nat) : Int) := by lia
    first
      | (rw [decide_eq_true q'] at h5; exact absurd h5 (by decide))
      | (simp at h5; lia)
  cases hwl with
  | cons w1 w2 =>
    cases w2
    cases w1 with
    | list ho hall => exact ⟨_, _, ns, rfl, rfl, ho, ints_of_wellAll ns _ hall, hlen⟩
theorem post_true (l : OpenLaw) (args : List WData) : l.row.toRowW.claim.post args (.bool true) args = true :=
  postW_of (r := l.row.toRowW) (X := (true == true))
    (show WShape.has [] (.bool true) .bool = true by first | rfl | decide | simp [WShape.has, WShape.arms, WShape.armsAll])
    (show (WTm.eq .res (.lit (.bool true))).value [] { args := args, res := some (.bool true), after := args } = some (.bool (true == true)) from w_eq_bool (w_res rfl) w_lit) rfl
theorem attach_call {l : OpenLaw} {n : Nat} {q : Program} {loose : List Str} {XP : (Str → Option Value) → Heap → Prop} {YP : World → Heap → Prop} {d : DefRec}
    (hn : l.most = some n) (hdf : d.params.defaults = [])
    (call : ∀ (w : World) (s₀ s₁ : Shared) (mg mb : Str → Option Value) (fa : Addr) (o : Obj) (pm cd doc : Value) (a : Addr) (vs : List Value) (ns : List Int),
      Ground q loose [] XP w s₀ mg mb s₁.heap → YP w s₁.heap →
      s₁.heap.get? fa = some o → o.data = .func (docDef d.name d.params d.body d.scope pm cd doc) → s₁.heap.CodeRec cd d.name → mg d.name = some (.ref fa) →
      s₁.heap.get? a = some { cls := .type "list", data := .seq vs.toArray } → IntsAre vs ns → ns.length ≤ n → s₁.gens = #[] →
      codeAny (model l.prog w) callerA (.call (.ref fa) ⟨[.ref a], []⟩) (fun r s' => r = .ok (.ret (.bool true)) ∧ OldK s₁.heap s'.heap ∧ s'.os = s₁.os ∧ AllBare s'.gens) s₁) :
    WalkO q loose XP YP l.row.toRowW d [] (fun f vs => PySem.call f vs) := by
  intro w s₀ s₁ mg mb G Y fa o pm cd doc dV kV ho hd hcd hD hmg hg args vals as hpre hlay hrd hwl hlo
  obtain rfl : dV = .none := Dflts.none hD hdf
  obtain rfl : kV = .none := Dflts.noKw hD
  obtain ⟨a, vs, ns, rfl, rfl, hobj, hints, hlen⟩ := script_of hn hpre hwl
  refine enter_call (codeAny_mono (call w s₀ s₁ mg mb fa o pm cd doc a vs ns G Y ho (fd_plain hd) hcd hmg hobj hints hlen hg) fun r s' hq => ?_)
  obtain ⟨rfl, h2, h3, h4⟩ := hq
  exact ⟨.inl ⟨.bool true, .bool true, [], rfl, fun _ => rfl, .bool true, post_true l _, fun _ => ⟨List.Pairwise.nil, fun _ hm => (nomatch hm)⟩⟩, h2, h3, h4⟩
section
variable {prog : Program} {w : World} {A : Around} {E : Value → Shared → Prop} {s : Shared} {K : Frag}
def ledger (h : Heap) (L d : Addr) : List (Addr × Obj) := (List.range h.objs.size).filterMap fun a => if a = L ∨ a = d then none else (h.get? a).map fun o => (a, o)
end
end Att
namespace L2
open PySem PySem.Spec PyProof.Rows
theorem vals_ints : ∀ {vs : List Value} {ns : List Int}, IntsAre vs ns → Vals (ns.map V.int) vs
  | _, _, .nil => .nil
  | _, _, .cons n t h => .cons ⟨t, rfl⟩ (vals_ints h)
def Only (H : Hp) : Prop := ∀ b, H b = none ∨ ∃ o xs, H b = some (.frz o (.lst xs))
theorem law_call {P : Program} {w : World} {K : PySem.W.Frag} {mg mb : Str → Option Value} {CX : CXT} {k : Nat} {fa a : Addr} {fd : FuncData} {x : Str} {sp : Sp} {s₁ : Shared} {vs : List Value} {ns : List Int}
    (KX : K.In s₁.heap) (hns : s₁.heap.Ns mainGlobals mg) (hb : s₁.heap.Ns builtinsNs mb) (hbb : ∀ x : Str, x ≠ "__name__" → mb x = bootBuiltins x) (hlim : s₁.heap.NoLimit) (hg : s₁.gens = #[])
    (ha : s₁.heap.get? a = some { cls := .type "list", data := .seq vs.toArray }) (hi : IntsAre vs ns) (hl : ns.length ≤ sizeLine) (hr : Room k callerA)
    (F : ∀ base : Heap, K.In base → base.Ns mainGlobals mg → FnOk P w K mg base CX k fa fd [x] sp) (hbind : ∀ (s : Shared) (u : Value), BindsTo s fd ⟨[u], []⟩ [(x, u)])
    (hsp : ∀ H : Hp, Only H → SqL K H a (ns.map V.int) → sp [.ref a] H (fun v _ => v = .bl true) fun _ _ _ => False)
    (hCX : ∀ H e s', CX [] H s₁ (fun _ _ _ => False) e s' → False) :
    codeAny (model P w) callerA (.call (.ref fa) ⟨[.ref a], []⟩) (fun r s' => r = .ok (.ret (.bool true)) ∧ OldK s₁.heap s'.heap ∧ s'.os = s₁.os ∧ AllBare s'.gens) s₁ := by
  have rv := vals_ints hi
  have lenV := hi.length
  have core : ∀ H : Hp, Only H → SqL K H a (ns.map V.int) → HOk P w H s₁.heap → (∀ b, H b ≠ none → b = a) → (H a ≠ none → K.lookup a = none) →
      codeAny (model P w) callerA (.call (.ref fa) ⟨[.ref a], []⟩) (fun r s' => r = .ok (.ret (.bool true)) ∧ OldK s₁.heap s'.heap ∧ s'.os = s₁.os ∧ AllBare s'.gens) s₁ := by
    intro H hO hS hok hA hK
    have base_of : ∀ {b : Addr} {o : Obj}, s₁.heap.get? b = some o → H b = none → (hidT s₁.heap H).get? b = some o := fun e n => hidT_get e n
    have noA : ∀ {b : Addr} {o : Obj} {es : Array DictEntry} {ep : Nat}, s₁.heap.get? b = some o → o.data = .dict es ep → H b = none := fun {b o es ep} e d => by
      cases q : H b with
      | none => rfl
      | some u =>
        have e' : b = a := hA b (by rw [q]; simp)
        subst e'
        rw [ha] at e; cases e
        have d' : Data.seq vs.toArray _ = Data.dict es ep := d
        cases d'
    have nsK : ∀ {b : Addr} {m : Str → Option Value}, s₁.heap.Ns b m → (hidT s₁.heap H).Ns b m := fun {b m} ⟨o, es, ep, e, d, r⟩ => ⟨o, es, ep, base_of e (noA e d), d, r⟩
    have hKb : K.In (hidT s₁.heap H) := fun b o e => base_of (KX b o e) (by
      cases q : H b with
      | none => rfl
      | some u =>
        have e' : b = a := hA b (by rw [q]; simp)
        subst e'
        rw [hK (by rw [q]; simp)] at e; cases e)
    have hM : Mod K mg (hidT s₁.heap H) := ⟨hKb, nsK hns, ⟨mb, nsK hb, hbb⟩, let ⟨mc, h1, h2⟩ := hlim; ⟨mc, nsK h1, h2⟩⟩
    have e0 : Env0 P w K mg (hidT s₁.heap H) callerA [] s₁ H := ⟨rfl, hM, fun b o e => of_hidT e, Nat.le_of_eq (hidT_size _ _), trivial, fun b hb => absurd (show b ∈ ([] : List Addr) from hb) (by simp), hok, .of_eq hg⟩
    refine codeAny_mono ((F _ hKb (nsK hns)).run callerA [] s₁ H ⟨[.ref a], []⟩ [.ref a] [.ref a] _ _ hr e0 (hbind s₁ (.ref a)) (.cons rfl .nil) (hsp H hO hS)) fun r s' h => ?_
    cases r with
    | error e => exact (hCX H e s' h).elim
    | ok fl =>
      cases fl with
      | next => exact False.elim h
      | brk => exact False.elim h
      | cont => exact False.elim h
      | ret u =>
        obtain ⟨v, H', os, bare, un, hok', r', q⟩ := h
        have q' : v = .bl true := q
        subst q'
        obtain rfl : u = Value.bool true := r'
        refine ⟨rfl, OldK.of_keep fun b o e => ?_, os, bare⟩
        cases q : H b with
        | none => exact un.keep b o e q (by intro z; exact absurd (show b ∈ ([] : List Addr) from z) (by simp)) (by simp)
        | some u =>
          rcases hO b with z | ⟨ob, xs, z⟩
          · rw [q] at z; cases z
          · have z2 := un.frzs b ob _ z
            obtain ⟨e1, _⟩ := hok b _ z
            obtain ⟨e2, _⟩ := hok' b _ z2
            rw [e] at e1; cases e1
            exact e2
  cases hk : K.lookup a with
  | some o =>
    have e := KX a o hk
    rw [ha] at e
    cases e
    refine core (fun _ => none) (fun _ => .inl rfl) (.inr ⟨_, vs.toArray, _, hk, rfl, rfl, rfl, by rw [List.size_toArray, lenV]; exact hl, by simpa using rv⟩) (fun b u z => by have z' : (none : Option HO) = some u := z; cases z') (fun b z => absurd rfl z) fun z => absurd rfl z
  | none =>
    refine core (fun b => if b = a then some (.frz { cls := .type "list", data := .seq vs.toArray } (.lst (ns.map V.int))) else none) (fun b => ?_) (.inl (.inr ⟨{ cls := .type "list", data := .seq vs.toArray }, if_pos rfl⟩)) (fun b u z => ?_) (fun b z => ?_) fun _ => hk
    · by_cases hb : b = a
      · exact .inr ⟨_, _, if_pos hb⟩
      · exact .inl (if_neg hb)
    · by_cases hb : b = a
      · have z' := (if_pos hb).symm.trans z
        cases z'
        subst hb
        exact ⟨ha, by rw [List.length_map]; exact hl, vs, _, rv, ha⟩
      · have z' := (if_neg hb).symm.trans z
        cases z'
    · by_cases hb : b = a
      · exact hb
      · exact absurd (if_neg hb) z
end L2
namespace L2
open PySem PySem.Spec PyProof.Rows
theorem walk_of {l : PySem.W.OpenLaw} {n k : Nat} {q : Program} {loose : List Str} {XP : (Str → Option Value) → Heap → Prop} {YP : World → Heap → Prop} {d : DefRec} {K : Params → PySem.W.Frag} {CX : World → CXT} {sp : World → Sp} {x : Str}
    (hn : l.most = some n) (hn2 : n ≤ sizeLine) (hdf : d.params.defaults = []) (hr : Room k callerA)
    (hY : ∀ (w : World) (h : Heap), YP w h → (K w.params).In h)
    (F : ∀ (w : World) (mg : Str → Option Value) (fa : Addr) (h : Heap), (K w.params).In h → h.Ns mainGlobals mg → mg d.name = some (.ref fa) →
      ∃ fd : FuncData, (∀ (s : Shared) (u : Value), BindsTo s fd ⟨[u], []⟩ [(x, u)]) ∧
        ∀ base : Heap, (K w.params).In base → base.Ns mainGlobals mg → FnOk l.prog w (K w.params) mg base (CX w) k fa fd [x] (sp w))
    (hsp : ∀ (w : World) (H : Hp) (a : Addr) (ns : List Int), ns.length ≤ n → Only H → SqL (K w.params) H a (ns.map V.int) → sp w [.ref a] H (fun v _ => v = .bl true) fun _ _ _ => False)
    (hCX : ∀ (w : World) (H : Hp) (s : Shared) (e : Value) (s' : Shared), CX w [] H s (fun _ _ _ => False) e s' → False) :
    PySem.W.WalkO q loose XP YP l.row.toRowW d [] (fun f vs => PySem.call f vs) := by
  refine Att.attach_call hn hdf fun w s₀ s₁ mg mb fa o pm cd doc a vs ns G Y ho hd hcd hmg hobj hints hlen hg => ?_
  have KX := hY w _ Y
  obtain ⟨fd, hb, hF⟩ := F w mg fa _ KX G.T.g hmg
  exact law_call KX G.T.g G.T.b G.T.builtins G.T.nolimit hg hobj hints (Nat.le_trans hlen hn2) hr hF hb (fun H hO hS => hsp w H a ns hlen hO hS) fun H e s' => hCX w H s₁ e s'
end L2
namespace L2
open PySem PySem.Spec PyProof.Rows
def defArgs (s : Stmt) : Arguments := match s with
  | .FunctionDef _ a _ _ _ _ _ _ _ _ => a
  | _ => { posonlyargs := [], args := [], vararg := none, kwonlyargs := [], kw_defaults := [], kwarg := none, defaults := [] }
def defBody (s : Stmt) : List Stmt := match s with
  | .FunctionDef _ _ b _ _ _ _ _ _ _ => b
  | _ => []
def defScope (s : Stmt) : Scope := match s with
  | .FunctionDef _ _ _ _ _ _ sc _ _ _ => sc
  | _ => { kind := .function, names := [], isGenerator := false, isCoroutine := false }
abbrev CX0 : CXT := fun _ _ _ _ _ _ => False
abbrev E0 : XK := fun _ _ _ => False
theorem pass0 {X : Cx} : Passes CX0 X E0 := fun _ _ _ _ _ _ _ h => h.elim
structure Fun (K : PySem.W.Frag) (x qual : Str) (st : Stmt) (f : Addr) (fd : FuncData) : Prop where
  ex : ∃ (oc : Value) (od : Option Addr) (kV doc pm : Value) (an : Option Addr) (cdv ct : Value) (osl : Array (Option Value)),
    fd = PySem.W.fnOf x qual (defArgs st) (defBody st) (defScope st) .none kV doc pm an cdv ct ∧ K.lookup f = some ⟨oc, od, .func fd, osl⟩ ∧ PySem.W.codeIn K cdv qual = true
  kp : PySem.W.keepIn K (.ref f) = true
section
variable {P : Program} {w : World} {K : PySem.W.Frag} {mg : Str → Option Value} {base : Heap}
theorem Fun.ok {x qual : Str} {st : Stmt} {f : Addr} {fd : FuncData} {N ps : List Str} {k : Nat} {sp : Sp} (F : Fun K x qual st f fd) (S : FnScope N ps (defScope st)) (len : ∀ vs H Q E, sp vs H Q E → vs.length = ps.length)
    (hbody : ∀ (cdv : Value) (A : Around) (outer : List Env) (s : Shared) (H : Hp) (vs : List V) (Q : VK) (E : XK), Room k (A.deeper (envOfC qual (defScope st) s.heap.objs.size f cdv)) → sp vs H Q E →
      ∃ t, PSs (cxOf CX0 P w K mg base N qual (defScope st) f cdv A outer s H E).nox (defBody st) t ∧ t { nx := fun _ H' => Q .non H', rt := Q } (start N vs) H) : FnOk P w K mg base CX0 (k + 1) f fd ps sp := by
  obtain ⟨oc, od, kV, doc, pm, an, cdv, ct, osl, rfl, lk, hcd⟩ := F.ex
  refine fn_of lk hcd S len fun A outer s H vs Q E hr hsp => ?_
  obtain ⟨t, h, q⟩ := hbody cdv A outer s H vs Q E hr hsp
  exact ⟨t, h.nox, q⟩
theorem Fun.binds {x qual : Str} {st : Stmt} {f : Addr} {fd : FuncData} {ps : List Str} (F : Fun K x qual st f fd)
    (h : ∀ (kV doc pm : Value) (an : Option Addr) (cdv ct : Value) (us : List Value), us.length = ps.length → bindArgs (PySem.W.fnOf x qual (defArgs st) (defBody st) (defScope st) .none kV doc pm an cdv ct) ⟨us, []⟩ = pure (ps.zip us)) : Binds K fd ps [] := by
  obtain ⟨oc, od, kV, doc, pm, an, cdv, ct, osl, rfl, lk, hcd⟩ := F.ex
  exact .all (h kV doc pm an cdv ct)
theorem fun_mk {x qual : Str} {st : Stmt} {f : Addr} {oc : Value} {od an : Option Addr} {osl : Array (Option Value)} {kV doc pm cdv ct : Value} (l : K.lookup f = some ⟨oc, od, .func (PySem.W.fnOf x qual (defArgs st) (defBody st) (defScope st) .none kV doc pm an cdv ct), osl⟩)
    (c : PySem.W.codeIn K cdv qual = true) (k : PySem.W.keepIn K (.ref f) = true) : Fun K x qual st f (PySem.W.fnOf x qual (defArgs st) (defBody st) (defScope st) .none kV doc pm an cdv ct) := ⟨⟨oc, od, kV, doc, pm, an, cdv, ct, osl, rfl, l, c⟩, k⟩
end
theorem small1000 {n : Nat} (h : n ≤ 1000) : n < sizeLine := Nat.lt_of_le_of_lt h (by decide)
section
variable {X : Cx}
theorem pv (i : Nat) {x : Str} {pos : Pos} (hN : X.N[i]? = some x := by rfl) (hv : Vis X.env.scope x := by first | exact Or.inl rfl | exact Or.inr (Or.inl rfl) | exact Or.inr (Or.inr rfl)) (hd : (x == ("__debug__" : Str)) = false := by decide)
    (hcd : (x == ("__classdict__" : Str)) = false := by decide) : PE X (.Name x pos) (tVar i) := pe_var hN hv hd hcd
end
theorem iteF {A B : Prop} (h : B) : if false = true then A else B := by
  rw [if_neg Bool.false_ne_true]
  exact h
theorem iteT {A B : Prop} (h : A) : if true = true then A else B := by
  rw [if_pos rfl]
  exact h
theorem ite2 {c A B : Prop} [Decidable c] (h1 : c → A) (h2 : ¬ c → B) : if c then A else B := by
  by_cases h : c
  · rw [if_pos h]
    exact h1 h
  · rw [if_neg h]
    exact h2 h
def Same (H H' : Hp) : Prop := ∀ b o, H b = some o → H' b = some o
theorem Same.refl (H : Hp) : Same H H := fun _ _ h => h
end L2
set_option maxHeartbeats 4000000
namespace L2
open PySem PySem.Spec PyProof.Rows
def closOf (cells : List (Str × Addr)) : List (Str × NameKind) → List (Str × Addr) → List (Str × Addr)
  | [], cs => cs
  | (n, k) :: r, cs => closOf cells r (if k == .free then (n, (cells.lookup n).getD 0) :: cs else cs)
theorem closureFor_eq {scope : Scope} {env : Env} (h : ∀ y ∈ scope.names, y.2 = .free → ∃ c, env.cells.lookup y.1 = some c) : closureFor scope env = pure (closOf env.cells scope.names []) := by
  have key : ∀ (l : List (Str × NameKind)) (cs : List (Str × Addr)), (∀ y ∈ l, y.2 = .free → ∃ c, env.cells.lookup y.1 = some c) →
      (forIn l cs fun (x : Str × NameKind) (r : List (Str × Addr)) => if (x.2 == NameKind.free) = true then do let a ← cellOf env x.1; pure (ForInStep.yield ((x.1, a) :: r)) else pure (ForInStep.yield r) : Sem (List (Str × Addr))) = pure (closOf env.cells l cs) := by
    intro l
    induction l with
    | nil => intro cs _; rfl
    | cons y r ih =>
      intro cs hl
      obtain ⟨n, k⟩ := y
      rw [List.forIn_cons]
      by_cases hk : k = .free
      · subst hk
        obtain ⟨c, hc⟩ := hl (n, .free) List.mem_cons_self rfl
        have hc' : env.cells.lookup n = some c := hc
        have e1 : cellOf env n = pure c := by unfold cellOf; rw [hc']
        simp only [beq_self_eq_true, if_true, e1, pure_bind]
        rw [ih _ fun z hz => hl z (List.mem_cons_of_mem _ hz)]
        show _ = pure (closOf env.cells r (if (NameKind.free == NameKind.free) = true then (n, (env.cells.lookup n).getD 0) :: cs else cs))
        rw [hc']
        rfl
      · have hb : (k == NameKind.free) = false := by simpa using hk
        simp only [hb, Bool.false_eq_true, if_false, pure_bind]
        rw [ih _ fun z hz => hl z (List.mem_cons_of_mem _ hz)]
        show _ = pure (closOf env.cells r (if (k == NameKind.free) = true then (n, (env.cells.lookup n).getD 0) :: cs else cs))
        rw [hb]
        rfl
  have k2 := key scope.names [] h
  have e : closureFor scope env = ((forIn scope.names [] fun (x : Str × NameKind) (r : List (Str × Addr)) => if (x.2 == NameKind.free) = true then do let a ← cellOf env x.1; pure (ForInStep.yield ((x.1, a) :: r)) else pure (ForInStep.yield r) : Sem (List (Str × Addr))) >>= fun cs => pure cs) := rfl
  rw [e, k2]
  rfl
theorem closOf_sub {cells : List (Str × Addr)} : ∀ {l : List (Str × NameKind)} {cs : List (Str × Addr)}, (∀ y ∈ l, y.2 = .free → ∃ c, cells.lookup y.1 = some c) → (∀ x c, cs.lookup x = some c → cells.lookup x = some c) →
    ∀ x c, (closOf cells l cs).lookup x = some c → cells.lookup x = some c
  | [], _, _, h, x, c, e => h x c e
  | (n, k) :: r, cs, hl, h, x, c, e => by
    unfold closOf at e
    refine closOf_sub (l := r) (fun z hz => hl z (List.mem_cons_of_mem _ hz)) (fun y d q => ?_) x c e
    split at q
    · rename_i hk
      obtain ⟨c0, hc0⟩ := hl (n, k) List.mem_cons_self (by simpa using hk)
      have hc0' : cells.lookup n = some c0 := hc0
      rw [hc0'] at q
      rw [List.lookup_cons] at q
      split at q
      · rename_i hb
        have := eq_of_beq hb
        subst this
        rw [hc0']
        exact q
      · exact h y d q
    · exact h y d q
theorem closOf_keeps {cells : List (Str × Addr)} {x : Str} : ∀ {l : List (Str × NameKind)} {cs : List (Str × Addr)}, (∃ c, cs.lookup x = some c) → ∃ c, (closOf cells l cs).lookup x = some c
  | [], _, h => h
  | (n, k) :: r, cs, h => by
    unfold closOf
    refine closOf_keeps (l := r) ?_
    split
    · rw [List.lookup_cons]
      split
      · exact ⟨_, rfl⟩
      · exact h
    · exact h
theorem closOf_has {cells : List (Str × Addr)} {x : Str} : ∀ {l : List (Str × NameKind)} {cs : List (Str × Addr)}, (x, NameKind.free) ∈ l → ∃ c, (closOf cells l cs).lookup x = some c
  | (n, k) :: r, cs, h => by
    unfold closOf
    rcases List.mem_cons.mp h with e | h
    · injection e with e1 e2
      subst e1 e2
      refine closOf_keeps (l := r) ?_
      simp only [beq_self_eq_true, if_true]
      rw [List.lookup_cons]
      simp
    · exact closOf_has (l := r) h
structure CA where
  s : Shared
  H : Hp
  C : Addr
  fp : List Addr
abbrev cxComp (X : Cx) (scope : Scope) (N' : List Str) (a : CA) : Cx where
  prog := X.prog
  w := X.w
  K := X.K
  mg := X.mg
  base := X.base
  A := X.A
  N := N'
  s₀ := a.s
  H₀ := a.H
  env := compEnvC scope (closOf X.env.cells scope.names []) a.C X.env
  outer := X.stack
  stack := X.stack
  ex := a.fp
  fn := fun _ => false
  calm := X.calm
  pn := []
  xe := fun _ _ => False
structure CompSc (N N' : List Str) (osc scope : Scope) (j : Nat) (x : Str) : Prop where
  nd : N'.Nodup
  at_ : N'[j]? = some x
  sub : ∀ (i : Nat) y, i ≠ j → N'[i]? = some y → N[i]? = some y
  len : N'.length ≤ N.length + 1
  kind : scope.kind = .function
  cell : ∀ y ∈ scope.names, y.2 ≠ .cell
  names : ∀ y ∈ scope.names, y.2 = .local → scope.names.lookup y.1 = some .local
  only : ∀ y ∈ scope.names, y.2 = .local → y.1 = x ∨ y.1 ∉ N'
  loc : scope.names.lookup x = some .local
  okind : osc.kind = .function
  free : ∀ y ∈ scope.names, y.2 = .free → osc.names.lookup y.1 = some .cell
def compOk (N : List Str) (osc scope : Scope) (x : Str) : Bool :=
  decide (N ++ [x]).Nodup && decide (scope.kind = .function) && decide (osc.kind = .function) && (scope.names.lookup x == some .local) &&
    scope.names.all fun y => match y.2 with
      | .cell => false
      | .local => scope.names.lookup y.1 == some .local && (y.1 == x || !((N ++ [x]).contains y.1))
      | .free => osc.names.lookup y.1 == some .cell
      | _ => true
theorem CompSc.new {N : List Str} {osc scope : Scope} {x : Str} (h : compOk N osc scope x = true) : CompSc N (N ++ [x]) osc scope N.length x := by
  unfold compOk at h
  simp only [Bool.and_eq_true, decide_eq_true_eq, List.all_eq_true, beq_iff_eq] at h
  obtain ⟨⟨⟨⟨h1, h2⟩, h3⟩, h4⟩, h5⟩ := h
  refine ⟨h1, by simp, fun i y ne e => ?_, by simp, h2, fun y hy e => ?_, fun y hy e => ?_, fun y hy e => ?_, h4, h3, fun y hy e => ?_⟩
  · by_cases hi : i < N.length
    · rw [List.getElem?_append_left hi] at e; exact e
    · rw [List.getElem?_append_right (by lia)] at e
      cases q : i - N.length with
      | zero => exact absurd (by lia) ne
      | succ k => rw [q] at e; simp at e
  · have := h5 y hy; rw [e] at this; cases this
  · have := h5 y hy
    rw [e] at this
    simp only [Bool.and_eq_true, beq_iff_eq] at this
    exact this.1
  · have := h5 y hy
    rw [e] at this
    simp only [Bool.and_eq_true, Bool.or_eq_true, beq_iff_eq, Bool.not_eq_true', List.contains_eq_mem, decide_eq_false_iff_not] at this
    exact this.2
  · have := h5 y hy
    rw [e] at this
    simp only [beq_iff_eq] at this
    exact this
def padS (n j : Nat) (σ : St) : St := ((σ ++ [none]).take n).set j none
theorem padS_get {n j i : Nat} {σ : St} {v : V} (h : (padS n j σ)[i]? = some (some v)) : i ≠ j ∧ σ[i]? = some (some v) := by
  unfold padS at h
  by_cases e : i = j
  · subst e
    rw [List.getElem?_set] at h
    simp only [if_true] at h
    split at h <;> cases h
  · refine ⟨e, ?_⟩
    rw [List.getElem?_set_ne (Ne.symm e)] at h
    have h2 : (σ ++ [none])[i]? = some (some v) := by
      by_cases hi : i < n
      · rw [List.getElem?_take_of_lt hi] at h; exact h
      · rw [List.getElem?_eq_none (by rw [List.length_take]; lia)] at h; cases h
    by_cases hi : i < σ.length
    · rw [List.getElem?_append_left hi] at h2; exact h2
    · rw [List.getElem?_append_right (by lia)] at h2
      cases q : i - σ.length with
      | zero => rw [q] at h2; cases h2
      | succ k => rw [q] at h2; cases h2
theorem padS_len {n j : Nat} {σ : St} (h : n ≤ σ.length + 1) : (padS n j σ).length = n := by
  unfold padS
  rw [List.length_set, List.length_take, List.length_append]
  simp; lia
theorem lookup_relabel_free {env : Env} : ∀ {names : List (Str × NameKind)} {x : Str}, ((names.map fun (n, k) => if (k == NameKind.free && env.scope.kind == .function && env.kindOf n == some .cell) then (n, NameKind.cell) else (n, k)).lookup x = some .cell ∨
    (names.map fun (n, k) => if (k == NameKind.free && env.scope.kind == .function && env.kindOf n == some .cell) then (n, NameKind.cell) else (n, k)).lookup x = some .free) → (∀ y ∈ names, y.2 ≠ .cell) → (x, NameKind.free) ∈ names
  | [], _, h, _ => by rcases h with h | h <;> cases h
  | (n, k) :: r, x, h, hc => by
    rw [List.map_cons] at h
    dsimp only at h
    by_cases hk : (k == NameKind.free && env.scope.kind == .function && env.kindOf n == some .cell) = true
    · rw [if_pos hk] at h
      simp only [List.lookup_cons] at h
      cases hx : x == n with
      | true =>
        have e := eq_of_beq hx
        subst e
        have k' : k = .free := by
          rw [Bool.and_eq_true, Bool.and_eq_true] at hk
          simpa using hk.1.1
        subst k'
        exact List.mem_cons_self
      | false =>
        simp only [hx] at h
        exact List.mem_cons_of_mem _ (lookup_relabel_free h fun y hy => hc y (List.mem_cons_of_mem _ hy))
    · rw [if_neg hk] at h
      simp only [List.lookup_cons] at h
      cases hx : x == n with
      | true =>
        have e := eq_of_beq hx
        subst e
        simp only [hx] at h
        rcases h with h | h
        · exact absurd (Option.some.inj h) (hc (x, k) List.mem_cons_self)
        · have := Option.some.inj h
          subst this
          exact List.mem_cons_self
      | false =>
        simp only [hx] at h
        exact List.mem_cons_of_mem _ (lookup_relabel_free h fun y hy => hc y (List.mem_cons_of_mem _ hy))
theorem lookup_relabel_loc {env : Env} : ∀ {names : List (Str × NameKind)} {x : Str}, (names.map fun (n, k) => if (k == NameKind.free && env.scope.kind == .function && env.kindOf n == some .cell) then (n, NameKind.cell) else (n, k)).lookup x = some .local → (x, NameKind.local) ∈ names
  | [], _, h => by cases h
  | (n, k) :: r, x, h => by
    rw [List.map_cons] at h
    dsimp only at h
    by_cases hk : (k == NameKind.free && env.scope.kind == .function && env.kindOf n == some .cell) = true
    · rw [if_pos hk] at h
      simp only [List.lookup_cons] at h
      cases hx : x == n with
      | true => simp only [hx] at h; cases h
      | false =>
        simp only [hx] at h
        exact List.mem_cons_of_mem _ (lookup_relabel_loc h)
    · rw [if_neg hk] at h
      simp only [List.lookup_cons] at h
      cases hx : x == n with
      | true =>
        have e := eq_of_beq hx
        subst e
        simp only [hx] at h
        have := Option.some.inj h
        subst this
        exact List.mem_cons_self
      | false =>
        simp only [hx] at h
        exact List.mem_cons_of_mem _ (lookup_relabel_loc h)
section
variable {X : Cx} {pins : List (Addr × Obj)} {σ : St} {H : Hp} {s : Shared}
structure Own (X : Cx) (pins : List (Addr × Obj)) (H : Hp) (C : Addr) : Prop where
  no : H C = none
  ne : C ≠ X.env.locals
  ab : X.s₀.heap.objs.size ≤ C
  ce : ∀ x c, X.env.cells.lookup x = some c → c ≠ C
  pi : ∀ p ∈ X.pn ++ pins, p.1 ≠ C
theorem Inv.own {C : Addr} {H' : Hp} (I : Inv X pins σ H s) (h : s.heap.objs.size ≤ C) (hn : H' C = none) : Own X pins H' C := by
  refine ⟨hn, Nat.ne_of_gt (Nat.lt_of_lt_of_le I.lt h), Nat.le_trans I.sz h, fun x c e z => ?_, fun p hp z => ?_⟩
  · obtain ⟨v, q⟩ := I.cell x c e
    exact absurd (Nat.lt_of_lt_of_le q.lt (by rw [z]; exact h)) (Nat.lt_irrefl _)
  · exact absurd (Nat.lt_of_lt_of_le (Heap.lt_size (I.pin p hp).1) (by rw [z]; exact h)) (Nat.lt_irrefl _)
theorem Inv.own_turn {C : Addr} {h' : Heap} (I : Inv X pins σ H s) (o : Own X pins H C) (hs : Heap.SameBut C s.heap h') : Inv X pins σ H { s with heap := h' } :=
  I.turned (t' := s.toks) (fun b ob hb e => (hs.2 b hb).trans e) o.no o.ne (.inr o.ab) o.ce o.pi
theorem Inv.track {D : Addr} {ys : List V} {its : List Value} {n : Nat} (I : Inv X pins σ H s) (o : Own X pins H D) (e : s.heap.get? D = some { cls := .type "list", data := .seq its.toArray n }) (r : Vals ys its) (hz : ys.length ≤ sizeLine) :
    Inv X pins σ (upd H D (.lst ys)) s := by
  have nD : ∀ b u, H b = some u → b ≠ D := fun b u q z => by rw [z, o.no] at q; cases q
  have hok : HOk X.prog X.w (upd H D (.lst ys)) s.heap := fun b u q => by
    by_cases hb : b = D
    · subst hb
      rw [upd_same] at q
      cases q
      exact ⟨hz, its, n, r, e⟩
    · rw [upd_ne hb] at q
      exact (I.hok b u q).stay (fun _ _ _ z => z) (fun c z => by rw [upd_ne (nD c _ z)]; exact z) fun c xs z => by rw [upd_ne (nD c _ z)]; exact z
  have := I.step (H' := upd H D (.lst ys)) (h' := s.heap) (g' := s.gens) (t' := s.toks) (d' := s.drawn) (ch := [D]) (fun b hb => by
      have e' : b = D := by simpa using hb
      subst e'
      exact ⟨.inr o.ab, o.ne, o.ce, o.pi⟩) (fun b ob _ _ _ q _ => q) (fun b ob _ _ _ q _ => ⟨ob.slots, q⟩) (fun b ob hc q z => by rw [upd_ne (by simpa using hc)]; exact z) (fun b ob _ q => ⟨ob, q⟩)
    (fun b xs q => by rw [upd_ne (nD b _ q)]; exact q) (fun b ob u q => by rw [upd_ne (nD b _ q)]; exact q) (fun b ps q => ⟨#[], by rw [upd_ne (nD b _ q), q]; simp⟩) (fun m z => z) hok I.bare
  exact this
end
end L2
namespace L2
open PySem PySem.Spec PyProof.Rows
section
variable {prog : Program} {w : World} {A : Around} {R : Result → Shared → Prop} {s : Shared}
theorem compLoop_go {elt target iter : Expr} {ifs : List Expr} {scope : Scope} {pos : Pos} {it acc : Value} {env : Env} (I : Nat → Shared → Prop)
    (turn : ∀ n s, I n s → ∀ E : Value → Shared → Prop, wpAny (model prog w) A (pyNext it) (fun r s₁ => match r with
      | none => R (.ok .next) s₁
      | some v => wpAny (model prog w) A (letOwnedTupleGo target it v) (fun _ s₁' => wpAny (model prog w) A (assign target env v) (fun _ s₂ =>
          wpAny (model prog w) A (forIn ifs true fun c r => if r = true then do let ok ← isTrue c env (eval c env); pure (ForInStep.yield ok) else pure (ForInStep.yield r)) (fun ok s₃ =>
            if ok = true then wpAny (model prog w) A (eval elt env) (fun x s₄ =>
              wpAny (model prog w) A (call (.builtin "list.append") [acc, x]) (fun _ s₅ => ∃ m, m < n ∧ I m s₅) E s₄) E s₃
            else ∃ m, m < n ∧ I m s₃) E s₂) E s₁') E s₁) E s)
    (n : Nat) (h : I n s) :
    codeAny (model prog w) A (.compLoop (.ListComp elt [⟨target, iter, ifs, 0⟩] scope pos) 0 it acc env) R s := by
  refine codeAny_loop rfl I (fun n s hI => ?_) n h
  show wpAny _ A ((compTurn (.ListComp elt [⟨target, iter, ifs, 0⟩] scope pos) 0 it acc env).onRaise (fun x => do noteFrame x env; theTreesLotGoes x)) _ _ s
  refine wpAny_noted ?_
  rw [compTurn_list]
  refine wpAny_bind (wpAny_standAt (wpAny_bind (wpAny_mono (turn n s hI _) (fun r s₁ h₁ => ?_) fun _ _ h' => h')))
  cases r with
  | none => exact wpAny_pure h₁
  | some v =>
    refine wpAny_bind (wpAny_mono h₁ (fun _ s₁' h₁' => ?_) fun _ _ h' => h')
    refine wpAny_bind (wpAny_mono h₁' (fun _ s₂ h₂ => wpAny_bind (wpAny_mono h₂ (fun ok s₃ h₃ => ?_) fun _ _ h' => h')) fun _ _ h' => h')
    cases ok with
    | false => exact wpAny_pure ⟨rfl, h₃⟩
    | true =>
      exact wpAny_bind (wpAny_bind (wpAny_mono h₃ (fun x s₄ h₄ => wpAny_bind (wpAny_mono h₄ (fun _ s₅ h₅ => wpAny_pure (wpAny_pure ⟨rfl, h₅⟩)) fun _ _ h' => h')) fun _ _ h' => h'))
end
def PTs (X : Cx) (ifs : List Expr) (t : TT) : Prop :=
  ∀ (pins : List (Addr × Obj)) (s : Shared) (σ : St) (H : Hp) (Q : Bool → Hp → Prop), Inv X pins σ H s → t σ H Q →
    wpAny (model X.prog X.w) X.A (forIn ifs true fun c r => if r = true then do let ok ← isTrue c X.env (eval c X.env); pure (ForInStep.yield ok) else pure (ForInStep.yield r)) (TP X pins σ Q) X.xe s
def tTrue : TT := fun _ H Q => Q true H
theorem pts_nil {X : Cx} : PTs X [] tTrue := fun _ _ _ H _ I h => wpAny_tests_nil ⟨H, I, h⟩
def RComp (σ : St) (n j : Nat) (tt : CA → TT) (te : CA → TE) (J : It) (H1 : Hp) (Q : List V → Hp → Prop) : Prop :=
  ∃ W : Nat → Nat → List V → Hp → Prop, (∃ m, W 0 m [] H1) ∧ ∀ i m ys H, W i m ys H → ys.length ≤ sizeLine ∧
    ((J.stop i H ∧ Q ys H) ∨ (J.go i H ∧ ∃ N : List V → Hp → Prop, (∀ ys' H', N ys' H' → ∃ m', m' < m ∧ W (i + 1) m' ys' H') ∧
      ∀ x H', J.yld i H x H' → ∀ a : CA, tt a ((padS n j σ).set j (some x)) H' fun b H2 => if b = true then te a ((padS n j σ).set j (some x)) H2 fun y H3 => N (ys ++ [y]) H3 else N ys H2))
def tComp (wi : TI) (n j : Nat) (tt : CA → TT) (te : CA → TE) : TE := fun σ H Q => wi σ H fun J H1 => RComp σ n j tt te J H1 fun ys H2 => ∀ p, H2 p = none → Q (.ref p) (upd H2 p (.lst ys))
section
variable {X : Cx} {pins : List (Addr × Obj)} {σ : St} {H : Hp} {s : Shared}
theorem comp_core {elt iter : Expr} {x : Str} {px pos : Pos} {ifs : List Expr} {scope : Scope} {N' : List Str} {j : Nat} {tt : CA → TT} {te : CA → TE} {it : Addr} {fp : List Addr} {tn : Nat → Heap → Prop} {J : It} {Q : List V → Hp → Prop}
    {RR : Value → Addr → Result → Shared → Prop} {E : Value → Shared → Prop}
    (S : CompSc X.N N' X.env.scope scope j x) (hc : X.calm = true)
    (ht : ∀ a : CA, PTs (cxComp X scope N' a) ifs (tt a)) (he : ∀ a : CA, PE (cxComp X scope N' a) elt (te a))
    (I : Inv X pins σ H s) (T : Turn X.prog X.w X.K (.Name x px) J fp it tn) (st : tn 0 s.heap) (f2 : ∀ b ∈ fp, FpOk X pins H b) (h : RComp σ N'.length j tt te J H Q)
    (hRR : ∀ (D C : Addr) (ys : List V) (H' : Hp) (s' : Shared) (m : Str → Option Value), s'.heap.Ns C m → Own X pins (upd H' D (.lst ys)) C → Inv X pins σ (upd H' D (.lst ys)) s' → H' D = none → Q ys H' → RR (.ref D) C (.ok .next) s') :
    wpAny (model X.prog X.w) X.A (newList []) (fun acc s₃ => wpAny (model X.prog X.w) X.A (newFunctionEnv scope X.env.globals (closOf X.env.cells scope.names []) [] X.env.qual none .none (some X.env)) (fun cenv s₄ =>
      codeAny (model X.prog X.w) X.A (.compStart (.ListComp elt [⟨.Name x px, iter, ifs, 0⟩] scope pos) 0 (.ref it) acc { cenv with scope := relabel scope X.env }) (RR acc cenv.locals) s₄) E s₃) E s := by
  refine wpAny_newObj_type (wpAny_newFunctionEnv S.cell (by intro y hy; simp at hy) (fun h₁ hns₁ hsb₁ => ?_) S.kind)
  dsimp only at hns₁ hsb₁ ⊢
  generalize hH2 : s.heap.push { cls := .type "list", dict := none, data := .seq ([] : List Value).toArray } = H2 at hns₁ hsb₁ ⊢
  have hC : H2.objs.size = s.heap.objs.size + 1 := by rw [← hH2, Heap.size_push]
  have hDC : s.heap.objs.size ≠ H2.objs.size := by rw [hC]; exact Nat.ne_of_lt (Nat.lt_succ_self _)
  have hCle : s.heap.objs.size ≤ H2.objs.size := by rw [hC]; exact Nat.le_succ _
  have below : ∀ b, b < s.heap.objs.size → b ≠ H2.objs.size ∧ b ≠ s.heap.objs.size := fun b hb => ⟨by rw [hC]; exact Nat.ne_of_lt (Nat.lt_succ_of_lt hb), Nat.ne_of_lt hb⟩
  have old : ∀ b o, s.heap.get? b = some o → h₁.get? b = some o := fun b o e => hsb₁.extBut b o (below b (Heap.lt_size e)).1 (Heap.get?_push_of_some _ (hH2 ▸ Heap.get?_push_of_some _ e))
  have hacc : h₁.get? s.heap.objs.size = some { cls := .type "list", data := .seq ([] : List Value).toArray } := hsb₁.extBut _ _ hDC (Heap.get?_push_of_some _ (hH2 ▸ Heap.get?_push_size _ rfl))
  have fplt : ∀ b ∈ fp, b < s.heap.objs.size := fun b hb => let ⟨_, e, _⟩ := T.obj 0 _ st b hb; Heap.lt_size e
  have hcells : ∀ y ∈ scope.names, y.2 = .free → ∃ c, X.env.cells.lookup y.1 = some c := fun y hy e => I.ok.has y.1 (.inl (S.free y hy e))
  have sub : ∀ y c, (closOf X.env.cells scope.names []).lookup y = some c → X.env.cells.lookup y = some c := closOf_sub hcells (fun y c e => by cases e)
  let a : CA := ⟨s, H, H2.objs.size, fp⟩
  have ok : (cxComp X scope N' a).Ok := by
    refine ⟨I.ok.mod, S.kind, I.ok.glob, I.ok.blt, hCle, fun y z c e1 e2 => I.ok.inj y z c (sub y c e1) (sub z c e2), fun y hy => ?_, fun y c z => ?_, I.ok.hd, I.ok.frames, .inl rfl, fun b hb => ⟨(below b (fplt b hb)).1, fun y c e => (f2 b hb).2.2.2.2.1 y c (sub y c e)⟩, I.bs,
      Nat.le_trans I.ok.bsz I.sz, fun b o e hb => ?_, fun b hb z => ?_, I.stack, I.stkFree⟩
    · exact closOf_has (lookup_relabel_free hy S.cell)
    · cases z
    · rcases (f2 b hb).2.2.2.1 with z | z
      · exact I.ok.noex b o e z
      · exact absurd (Nat.lt_of_lt_of_le (Heap.lt_size (I.ok.bs b o e).1) z) (Nat.lt_irrefl _)
    · rcases List.mem_cons.mp (I.stkSub b z) with e | e
      · exact (f2 b hb).2.1 e
      · exact (f2 b hb).2.2.1 e
  have look : ∀ (h' : Heap) (m' : Str → Option Value), (∀ y c, X.env.cells.lookup y = some c → ∀ v, s.heap.IsCell c v → h'.IsCell c v) → ∀ (i : Nat) (y : Str) (v : V), N'[i]? = some y → (padS N'.length j σ)[i]? = some (some v) →
      Vis (relabel scope X.env) y → ∃ u, RelV v u ∧ Look (compEnvC scope (closOf X.env.cells scope.names []) H2.objs.size X.env) h' m' y u := by
    intro h' m' kc i y v e1 e2 e3
    obtain ⟨ne, e4⟩ := padS_get e2
    have e5 := S.sub i y ne e1
    have hy : (y, NameKind.free) ∈ scope.names := by
      rcases e3 with e3 | e3 | e3
      · rcases S.only _ (lookup_relabel_loc e3) rfl with z | z
        · exact absurd (nodup_ix S.nd e1 (by rw [S.at_]; exact congrArg some z.symm)) ne
        · exact absurd (List.mem_of_getElem? e1) z
      · exact lookup_relabel_free (.inl e3) S.cell
      · exact lookup_relabel_free (.inr e3) S.cell
    have kcell : X.env.scope.names.lookup y = some .cell := S.free _ hy rfl
    obtain ⟨m0, hn0, hl0⟩ := I.loc
    obtain ⟨u, r, l⟩ := hl0 i y v e5 e4 (.inr (.inl kcell))
    refine ⟨u, r, .inr ⟨?_, ?_⟩⟩
    · rcases e3 with e3 | e3 | e3
      · rcases S.only _ (lookup_relabel_loc e3) rfl with z | z
        · exact absurd (nodup_ix S.nd e1 (by rw [S.at_]; exact congrArg some z.symm)) ne
        · exact absurd (List.mem_of_getElem? e1) z
      · exact .inl e3
      · exact .inr e3
    · rcases l with ⟨k, _⟩ | ⟨k, c, e, z⟩
      · have k' : X.env.scope.names.lookup y = some .local := k
        rw [kcell] at k'; cases k'
      · obtain ⟨c', e'⟩ := closOf_has (cells := X.env.cells) (cs := []) hy
        have e'' := sub y c' e'
        rw [e] at e''
        cases e''
        exact ⟨c, e', kc y c e _ z⟩
  have cellOld : ∀ y c, X.env.cells.lookup y = some c → ∀ v, s.heap.IsCell c v → h₁.IsCell c v := fun y c _ v zz232 => el2 zz232 fun o ho hd => ⟨o, old c o ho, hd⟩
  have fr0 : ∀ b, s.heap.objs.size ≤ b → H b = none := fun b hb => I.hok.fresh hb
  have noPn : ∀ p, p ∉ (cxComp X scope N' a).pn ++ ([] : List (Addr × Obj)) := fun p hp => by simp at hp
  have I0 : Inv (cxComp X scope N' a) [] (padS N'.length j σ) H { s with heap := h₁, toks := s.toks + ([] : List (Str × Value)).length } := by
    refine ⟨ok, rfl, I.bare, Un.kept old, ⟨_, hns₁, look h₁ _ cellOld⟩, fun y c e => ?_, fr0 _ hCle, fun y c e => I.freeC y c (sub y c e), fun p hp => absurd hp (noPn p), I.hok.kept old, padS_len (by rw [I.len]; exact S.len)⟩
    obtain ⟨v, z⟩ := I.cell y c (sub y c e)
    exact ⟨v, cellOld y c (sub y c e) v z⟩
  obtain ⟨W, ⟨m0, w0⟩, turn⟩ := h
  have loop : ∀ s₃ : Shared, s₃ = { s with heap := h₁, toks := s.toks + ([] : List (Str × Value)).length } →
      codeAny (model X.prog X.w) X.A (.compLoop (.ListComp elt [⟨.Name x px, iter, ifs, 0⟩] scope pos) 0 (.ref it) (.ref s.heap.objs.size) (compEnvC scope (closOf X.env.cells scope.names []) H2.objs.size X.env)) (RR (.ref s.heap.objs.size) H2.objs.size) s₃ := by
    rintro s₃ rfl
    refine compLoop_go (fun k s' => ∃ (i : Nat) (ys : List V) (its : List Value) (n : Nat) (H' : Hp), Inv (cxComp X scope N' a) [] (padS N'.length j σ) H' s' ∧ s'.heap.get? s.heap.objs.size = some { cls := .type "list", data := .seq its.toArray n } ∧ Vals ys its ∧
      H' s.heap.objs.size = none ∧ tn i s'.heap ∧ (∀ b ∈ fp, H' b = none) ∧ W i k ys H') ?_ m0
      ⟨0, [], [], 0, H, I0, hacc, .nil, fr0 _ (Nat.le_refl _), T.keep _ _ _ st fun b hb o e => old b o e, fun b hb => (f2 b hb).1, w0⟩
    rintro k s' ⟨i, ys, its, n, H', I', hD, rv, nD', st', fr', w'⟩ E'
    obtain ⟨hz, hw⟩ := turn i k ys H' w'
    have ownD : Own (cxComp X scope N' a) [] H' s.heap.objs.size := ⟨nD', hDC, Nat.le_refl _, fun y c e z => by
      obtain ⟨v, q⟩ := I.cell y c (sub y c e)
      exact absurd q.lt (by rw [z]; exact Nat.lt_irrefl _), fun p hp => absurd hp (noPn p)⟩
    have fpok : ∀ (pl : List (Addr × Obj)) (H'' : Hp), (∀ b ∈ fp, H'' b = none) → (∀ p ∈ pl, p.1 ∉ fp) → ∀ b ∈ fp, FpOk (cxComp X scope N' a) pl H'' b := fun pl H'' hn hpl b hb =>
      ⟨hn b hb, (below b (fplt b hb)).1, fun z => by
        rcases List.mem_cons.mp (I.stkSub b z) with e | e
        · exact (f2 b hb).2.1 e
        · exact (f2 b hb).2.2.1 e, .inl hb, fun y c e => (f2 b hb).2.2.2.2.1 y c (sub y c e), fun p hp z => by
        have hp' : p ∈ pl := by simpa using hp
        exact hpl p hp' (z ▸ hb)⟩
    have nDfp : s.heap.objs.size ∉ fp := fun z => absurd (fplt _ z) (Nat.lt_irrefl _)
    have pinD : ∀ p ∈ ([(s.heap.objs.size, { cls := .type "list", data := .seq its.toArray n })] : List (Addr × Obj)), s'.heap.get? p.1 = some p.2 ∧ H' p.1 = none ∧ p.1 ≠ (cxComp X scope N' a).env.locals ∧ p.1 ∉ (cxComp X scope N' a).fs ∧ ∀ v, p.2.data ≠ .cell v := fun p hp => by
      have e : p = (s.heap.objs.size, { cls := .type "list", data := .seq its.toArray n }) := by simpa using hp
      subst e
      refine ⟨hD, nD', hDC, fun z => ?_, fun v z => by cases z⟩
      rcases List.mem_cons.mp (I.stkSub _ z) with e | e
      · exact absurd I.lt (by rw [← e]; exact Nat.lt_irrefl _)
      · exact I.nofs (Nat.le_refl _) e
    have Ip := I'.pins_of pinD
    have hpl : ∀ p ∈ ([(s.heap.objs.size, { cls := .type "list", data := .seq its.toArray n })] : List (Addr × Obj)), p.1 ∉ fp := fun p hp => by
      have e : p = (s.heap.objs.size, { cls := .type "list", data := .seq its.toArray n }) := by simpa using hp
      subst e
      exact nDfp
    rcases hw with ⟨stop, q⟩ | ⟨go, N, hN, step⟩
    · refine thn (T.done (cxComp X scope N' a) rfl rfl rfl hc i _ s' _ H' E' Ip (fpok _ H' fr' hpl) st' stop) fun r s4 zz233 => zz233.elim fun hr I4 => ?_
      subst hr
      have hD4 := (I4.pin (s.heap.objs.size, { cls := .type "list", data := .seq its.toArray n }) (by simp)).1
      have J4 : Inv X pins σ H' s4 := I.call' (ch := fp) I4.os I4.base I4.hok I4.bare fun b hb => ⟨(f2 b hb).2.2.2.1, (f2 b hb).2.1, (f2 b hb).2.2.2.2.1, (f2 b hb).2.2.2.2.2⟩
      obtain ⟨m4, hn4, _⟩ := I4.loc
      have hC4 : H' H2.objs.size = none := I4.free
      exact hRR _ _ ys H' s4 m4 hn4 (I.own hCle (by rw [upd_ne (Ne.symm hDC)]; exact hC4)) (J4.track (I.own (Nat.le_refl _) nD') hD4 rv hz) nD' q
    · refine thn (T.item (cxComp X scope N' a) rfl rfl rfl hc i _ s' _ H' E' Ip (fpok _ H' fr' hpl) st' go) fun r s5 zz234 => el2 zz234 fun u hr h5 => ?_
      subst hr
      refine thn h5 fun _ s6 zz235 => zz235.elim fun xv zz236 => zz236.elim fun H6 zz237 => zz237.elim fun I6 zz238 => zz238.elim fun r6 zz239 => zz239.elim fun y6 zz240 => zz240.elim fun st6 fr6 => ?_
      have I6' := I6.pinned (fpok _ H6 fr6 hpl) (T.obj _ _ st6)
      refine wpAny_assign_Name (store_ok I6' S.nd S.at_ (.inl (lookup_relabel_local S.loc)) r6 (fun s7 I7 => ?_) (.inr (lookup_relabel_local S.loc)))
      have wk : ∀ (i : Nat) v, (padS N'.length j σ)[i]? = some (some v) → ((padS N'.length j σ).set j (some xv))[i]? = some (some v) := fun i v e => by
        rw [List.getElem?_set_ne (Ne.symm (padS_get e).1)]; exact e
      refine wpAny_mono (ht a _ s7 _ H6 _ I7 (step xv H6 y6 a)) (fun ok s8 zz241 => el2 zz241 fun H8 I8 q8 => ?_) fun _ _ z => z.elim
      have tnk : ∀ {H9 : Hp} {s9 : Shared} {σ9 : St}, Inv (cxComp X scope N' a) ([(s.heap.objs.size, { cls := .type "list", data := .seq its.toArray n })] ++ pinsAt fp s6.heap) σ9 H9 s9 → tn (i + 1) s9.heap ∧ (∀ b ∈ fp, H9 b = none) ∧ s9.heap.get? s.heap.objs.size = some { cls := .type "list", data := .seq its.toArray n } ∧ H9 s.heap.objs.size = none := fun {H9 s9 σ9} I9 => by
        refine ⟨T.keep _ _ _ st6 fun b hb o e => (I9.pin (b, o) (List.mem_append_right _ (List.mem_append_right _ (mem_pinsAt hb e)))).1, fun b hb => ?_, ?_⟩
        · obtain ⟨o, e, d⟩ := T.obj _ _ st6 b hb
          exact (I9.pin (b, o) (List.mem_append_right _ (List.mem_append_right _ (mem_pinsAt hb e)))).2.1
        · have z := I9.pin (s.heap.objs.size, { cls := .type "list", data := .seq its.toArray n }) (List.mem_append_right _ (List.mem_append_left _ (by simp)))
          exact ⟨z.1, z.2.1⟩
      cases ok with
      | false =>
        obtain ⟨m', hm, w8⟩ : ∃ m', m' < k ∧ W (i + 1) m' ys H8 := hN _ _ (by simpa using q8)
        obtain ⟨t1, t2, t3, t4⟩ := tnk I8
        exact ⟨m', hm, i + 1, ys, its, n, H8, (I8.pins_of (pins' := []) fun p hp => nomatch hp).weak (by rw [List.length_set]) wk, t3, rv, t4, t1, t2, w8⟩
      | true =>
        have q8' := q8
        simp only [if_true] at q8'
        refine wpAny_mono (he a _ s8 _ H8 _ I8 q8') (fun u9 s9 zz242 => el5 zz242 fun v9 H9 I9 r9 q9 => ?_) fun _ _ z => z.elim
        obtain ⟨m', hm, w9⟩ := hN _ _ q9
        obtain ⟨t1, t2, t3, t4⟩ := tnk I9
        have hl := rv.length
        refine append_at (hsz := by show its.toArray.size ≤ sizeLine; rw [List.size_toArray, ← hl]; exact hz) t3 fun h' hs' hD' => ?_
        have J9 := ((I9.pins_of (pins' := []) fun p hp => nomatch hp).weak (σ' := padS N'.length j σ) (by rw [List.length_set]) wk).own_turn (C := s.heap.objs.size) ⟨t4, ownD.ne, ownD.ab, ownD.ce, ownD.pi⟩ hs'
        refine ⟨m', hm, i + 1, ys ++ [v9], its ++ [u9], n + 1, H9, J9, ?_, Vals.append rv (.cons r9 .nil), t4, T.keep _ _ _ t1 fun b hb o e => (hs'.2 b fun z => nDfp (z ▸ hb)).trans e, t2, w9⟩
        rw [List.push_toArray] at hD'
        exact hD'
  exact codeAny_compStart_list (loop _ rfl) (T.self _ 0 _ _ _ (T.keep _ _ _ st fun b hb o e => old b o e) (loop _ rfl))
theorem pe_comp {elt iter : Expr} {x : Str} {px pos : Pos} {ifs : List Expr} {scope : Scope} {N' : List Str} {j : Nat} {wi : TI} {tt : CA → TT} {te : CA → TE} {osc : Scope} {N : List Str}
    (S : CompSc N N' osc scope j x) (hc : X.calm = true) (hi : PI X (.Name x px) iter wi) (ht : ∀ a : CA, PTs (cxComp X scope N' a) ifs (tt a)) (he : ∀ a : CA, PE (cxComp X scope N' a) elt (te a))
    (ho : X.env.scope = osc := by rfl) (hN : X.N = N := by rfl) (hs : ∀ x, foldedSetIterable iter X.env x = pure x := by intro _; rfl) : PE X (.ListComp elt [⟨.Name x px, iter, ifs, 0⟩] scope pos) (tComp wi N'.length j tt te) := by
  subst ho hN
  intro pins s σ H Q I h
  rw [eval_ListComp]
  have hcells : ∀ y ∈ scope.names, y.2 = .free → ∃ c, X.env.cells.lookup y.1 = some c := fun y hy e => I.ok.has y.1 (.inl (S.free y hy e))
  refine wpAny_comprehension_free (use := none) rfl hs (closureFor_eq hcells) S.kind S.names (wpAny_mono (hi pins s σ H _ I h) (fun xv s₁ h₁ => wpAny_mono h₁ (fun itv s₂ h₂ => ?_) fun _ _ e => e) fun _ _ e => e)
  obtain ⟨it, fp, tn, J, H2, rfl, I2, T, st2, f2, q2⟩ := h₂
  refine comp_core (RR := fun acc C => compPost (model X.prog X.w) X.A X.xe none (EP X pins σ Q) acc C) S hc ht he I2 T st2 f2 q2 ?_
  intro D C ys H' s' m hn own I' hD q
  refine ⟨m, hn, fun h' hs' => ⟨.ref D, _, I'.own_turn own hs', rfl, q D hD⟩⟩
end
end L2
namespace L2
open PySem PySem.Spec PyProof.Rows
end L2
namespace L2
open PySem PySem.Spec PyProof.Rows
section
variable {X : Cx}
def CDivB (_ j : Int) : Prop := 0 < j ∧ j < 100000000000000000000000000000000000000000000000000000000000000
theorem op_fdivB : OpR X (binaryOp .FloorDiv) (rI CDivB fun i j => .int (i / j)) := opI fun i j _ _ _ _ _ hc q => by
  have h1 : (0 : Int) < j := hc.1
  have h2 : j < 2 ^ 250 := Int.lt_trans hc.2 (by decide)
  refine floordiv_int (by lia) (by rw [Int.fdiv_eq_ediv_of_nonneg i (by lia)]; exact q) (.inl (PyProof.noPylong_of_log2 ?_))
  have h3 : j.natAbs < 2 ^ 250 := by
    have : ((j.natAbs : Nat) : Int) < ((2 ^ 250 : Nat) : Int) := by
      rw [Int.natAbs_of_nonneg (Int.le_of_lt h1)]
      exact h2
    exact Int.ofNat_lt.mp this
  have h4 : j.natAbs ≠ 0 := by lia
  exact Nat.lt_trans ((Nat.log2_lt h4).mpr h3) (by decide)
end
mutual
inductive DatV (K : PySem.W.Frag) (H : Hp) : V → PyData → Prop
  | non : DatV K H .non .none
  | bl (b) : DatV K H (.bl b) (.bool b)
  | int (i) : DatV K H (.int i) (.int i)
  | str (x) : DatV K H (.str x) (.str x)
  | lst {a xs ds} : SqL K H a xs → DatVs K H xs ds → DatV K H (.ref a) (.list ds)
  | tup {a xs ds} : SqT K H a xs → DatVs K H xs ds → DatV K H (.ref a) (.tuple ds)
inductive DatVs (K : PySem.W.Frag) (H : Hp) : List V → List PyData → Prop
  | nil : DatVs K H [] []
  | cons {x xs d ds} : DatV K H x d → DatVs K H xs ds → DatVs K H (x :: xs) (d :: ds)
end
section
variable {X : Cx} {pins : List (Addr × Obj)} {σ : St} {H : Hp} {s : Shared}
mutual
theorem DatV.reads (I : Inv X pins σ H s) : ∀ {x : V} {d : PyData} {u : Value}, DatV X.K H x d → RelV x u → ∃ as, Reads s.heap u d as
  | _, _, _, .non, r => by cases r; exact ⟨_, .none⟩
  | _, _, _, .bl b, r => by cases r; exact ⟨_, .bool b⟩
  | _, _, _, .int i, r => by obtain ⟨t, rfl⟩ := r; exact ⟨_, .int i t⟩
  | _, _, _, .str x, r => by obtain ⟨t, rfl⟩ := r; exact ⟨_, .str x t⟩
  | _, _, _, .lst hq hs, r => by
    cases r
    obtain ⟨its, rv, pl, hz⟩ := I.list hq
    obtain ⟨as, ra⟩ := DatVs.reads I hs rv
    obtain ⟨o, e, c, n, d⟩ := pl.isList
    exact ⟨_, .list e c d (by simpa using ra)⟩
  | _, _, _, .tup hq hs, r => by
    cases r
    obtain ⟨its, rv, pl, hz⟩ := I.tuple hq
    obtain ⟨as, ra⟩ := DatVs.reads I hs rv
    obtain ⟨o, e, c, n, d⟩ := pl
    exact ⟨_, .tuple e c d (by simpa using ra)⟩
theorem DatVs.reads (I : Inv X pins σ H s) : ∀ {xs : List V} {ds : List PyData} {us : List Value}, DatVs X.K H xs ds → Vals xs us → ∃ as, ReadsAll s.heap us ds as
  | _, _, _, .nil, .nil => ⟨_, .nil⟩
  | _, _, _, .cons h t, .cons r rs => by
    obtain ⟨as, ra⟩ := DatV.reads I h r
    obtain ⟨bs, rb⟩ := DatVs.reads I t rs
    exact ⟨_, .cons ra rb⟩
end
end
section
variable {X : Cx}
def rEqD (K : PySem.W.Frag) (neg : Bool) : R2 := fun x y H Q => ∃ da db, DatV K H x da ∧ DatV K H y db ∧ da.canLay0 = true ∧ db.canLay0 = true ∧ min da.depth db.depth ≤ 64 ∧ Q (.bl (if neg then !PyData.eqv da db else PyData.eqv da db)) H
theorem op_eqD (hu : X.A.units + 64 < cLine) : OpR X (compareOp .Eq) (rEqD X.K false) := by
  intro pins s σ H x y v u Q I rx ry h
  obtain ⟨da, db, d1, d2, c1, c2, hd, q⟩ := h
  obtain ⟨as, ra⟩ := d1.reads I rx
  obtain ⟨bs, rb⟩ := d2.reads I ry
  exact SeqAt.compareEq_reads ra rb c1 c2 (by lia) ⟨.bl _, H, I, rfl, q⟩
theorem op_neD (hu : X.A.units + 64 < cLine) : OpR X (compareOp .NotEq) (rEqD X.K true) := by
  intro pins s σ H x y v u Q I rx ry h
  obtain ⟨da, db, d1, d2, c1, c2, hd, q⟩ := h
  obtain ⟨as, ra⟩ := d1.reads I rx
  obtain ⟨bs, rb⟩ := d2.reads I ry
  exact SeqAt.compareNe_reads ra rb c1 c2 (by lia) ⟨.bl _, H, I, rfl, q⟩
end
end L2
namespace L2
open PySem PySem.Spec PyProof.Rows
section
variable {X : Cx}
theorem get_list : PGet X (fun o i H Q => ∃ p xs j v, o = .ref p ∧ i = .int j ∧ 0 ≤ j ∧ SqL X.K H p xs ∧ atI xs j = some v ∧ Q v H) := by
  intro pins s σ H o i ov iv Q I r1 r2 h
  obtain ⟨p, xs, j, v, rfl, rfl, h0, hq, he, q⟩ := h
  cases r1
  obtain ⟨t, rfl⟩ := r2
  obtain ⟨its, r, pl, hz⟩ := I.list hq
  obtain ⟨k, h1, h2, h3, h4, h5⟩ := atI_get he
  obtain ⟨w, ew, rw'⟩ := r.get h2
  have hl := r.length
  have hn := line63
  have hj : j.toNat = k := by
    rw [seqIndex_of h0 h5] at h1
    exact Option.some.inj h1
  exact wpAny_getItem_list pl.isList h0 (by lia) (by rw [hj]; simpa using ew) ⟨v, H, I, rw', q⟩
theorem ps_mid {st : Stmt} {t : TS} (h : PS X st t) : PS X st (fun D σ H => ∃ M : St → Hp → Prop, t { D with nx := M } σ H ∧ ∀ σ' H', M σ' H' → D.nx σ' H') := by
  intro pins s σ H D I q
  obtain ⟨M, q1, q2⟩ := q
  refine thn (h pins s σ H _ I q1) fun f s' z => ?_
  cases f with
  | next => obtain ⟨σ', H', I', m⟩ := z; exact ⟨σ', H', I', q2 _ _ m⟩
  | brk => exact z
  | cont => exact z
  | ret v => exact z
end
end L2
namespace L2
open PySem PySem.Spec PyProof.Rows
theorem bt_list : bootBuiltins "list" = some (.type "list") := by decide +kernel
theorem bt_abs : bootBuiltins "abs" = some (.builtin "abs") := by decide +kernel
theorem bt_isinstance : bootBuiltins "isinstance" = some (.builtin "isinstance") := by decide +kernel
theorem bt_len : bootBuiltins "len" = some (.builtin "len") := by decide +kernel
end L2
namespace L2
open PySem PySem.Spec PyProof.Rows
section
variable {es : List Expr} {env : Env}
theorem se_Constant {c j p} : starEach (.Constant c j p :: es) env = (false, eval (.Constant c j p) env) :: starEach es env := by rfl
theorem se_Name {c p} : starEach (.Name c p :: es) env = (false, eval (.Name c p) env) :: starEach es env := by rfl
theorem se_BinOp {a o b p} : starEach (.BinOp a o b p :: es) env = (false, eval (.BinOp a o b p) env) :: starEach es env := by rfl
theorem se_Call {a o b p} : starEach (.Call a o b p :: es) env = (false, eval (.Call a o b p) env) :: starEach es env := by rfl
theorem se_Subscript {a o p} : starEach (.Subscript a o p :: es) env = (false, eval (.Subscript a o p) env) :: starEach es env := by rfl
theorem se_Attribute {a o p} : starEach (.Attribute a o p :: es) env = (false, eval (.Attribute a o p) env) :: starEach es env := by rfl
theorem se_ListComp {a b c p} : starEach (.ListComp a b c p :: es) env = (false, eval (.ListComp a b c p) env) :: starEach es env := by rfl
theorem np_nil {pos : Pos} : (backTo pos (starEach [] env)).any (·.1) = false := by rfl
theorem np_cons {pos : Pos} {e : Expr} (hs : starEach (e :: es) env = (false, eval e env) :: starEach es env) (h : (backTo pos (starEach es env)).any (·.1) = false) : (backTo pos (starEach (e :: es) env)).any (·.1) = false := by
  rw [hs]
  exact h
end
end L2
namespace L2
open PySem PySem.Spec PyProof.Rows
section
variable {X : Cx} {pos : Pos}
end
end L2
namespace L2
open PySem PySem.Spec PyProof.Rows
section
variable {X : Cx}
end
end L2
namespace L2
open PySem PySem.Spec PyProof.Rows
section
variable {X : Cx}
end
end L2
namespace L2
open PySem PySem.Spec PyProof.Rows
section
variable {X : Cx}
end
end L2
namespace L2
open PySem PySem.Spec PyProof.Rows
section
variable {X : Cx} {pins : List (Addr × Obj)} {σ : St} {H : Hp} {s : Shared} {h' : Heap}
end
section
variable {X : Cx}
end
end L2
namespace L2
open PySem PySem.Spec PyProof.Rows
section
variable {X : Cx} {pins : List (Addr × Obj)} {σ : St} {H : Hp} {s : Shared}
end
end L2
namespace L2
open PySem PySem.Spec PyProof.Rows
section
variable {X : Cx} {pins : List (Addr × Obj)} {σ : St} {H : Hp} {s : Shared}
end
end L2
namespace L2
open PySem PySem.Spec PyProof.Rows
section
variable {X : Cx}
end
end L2
namespace L2
open PySem PySem.Spec PyProof.Rows
section
variable {X : Cx}
end
end L2
namespace L2
open PySem PySem.Spec PyProof.Rows
section
variable {X : Cx}
end
end L2
namespace L2
open PySem PySem.Spec PyProof.Rows
section
variable {prog : Program} {w : World} {A : Around} {E : Value → Shared → Prop} {s : Shared}
end
section
variable {X : Cx}
end
end L2
namespace L2
open PySem PySem.Spec PyProof.Rows
section
variable {X : Cx} {pins : List (Addr × Obj)} {σ : St} {H : Hp} {s : Shared}
end
end L2
namespace L2
open PySem PySem.Spec PyProof.Rows
section
variable {prog : Program} {w : World} {A : Around} {E : Value → Shared → Prop} {s : Shared}
end
section
variable {prog : Program} {w : World} {A : Around} {R : Result → Shared → Prop} {I : Addr} {fp wr : List Addr} {n : Nat} {P : Nat → Value → Prop} {St : Nat → Heap → Prop}
end
section
variable {X : Cx}
end
end L2
namespace L2
open PySem PySem.Spec PyProof.Rows
section
variable {X : Cx} {pins : List (Addr × Obj)} {σ : St} {H : Hp} {s : Shared} {h' : Heap}
end
section
variable {X : Cx}
end
end L2
namespace L2
open PySem PySem.Spec PyProof.Rows
section
variable {X : Cx} {tg : Expr}
end
end L2
namespace L2
open PySem PySem.Spec PyProof.Rows
section
variable {prog : Program} {w : World} {A : Around} {R : Result → Shared → Prop} {I : Addr} {fp wr : List Addr} {n : Nat} {P : Nat → Value → Prop} {St : Nat → Heap → Prop}
end
section
variable {X : Cx}
end
end L2
namespace L2
open PySem PySem.Spec PyProof.Rows
section
variable {prog : Program} {w : World} {A : Around} {R : Result → Shared → Prop} {I : Addr} {fp wr : List Addr} {n : Nat} {P : Nat → Value → Prop} {St : Nat → Heap → Prop}
end
section
variable {X : Cx}
end
end L2
namespace My
open PySem L2
def Hd (H : Hp) (a l : Addr) : Prop := ∃ (ns : List Int) (p b c u v : Int), H l = some (.lst (ns.map V.int)) ∧ 0 ≤ p ∧ H a = some (.lst [.ref l, .int p, .int b, .int c, .int u, .int v])
def Kp (a : Addr) (H H' : Hp) : Prop := ∀ b o, H b = some o → b ≠ a → H' b = some o
theorem Kp.refl (a : Addr) (H : Hp) : Kp a H H := fun _ _ e _ => e
theorem Kp.trans {a : Addr} {H H1 H2 : Hp} (x : Kp a H H1) (y : Kp a H1 H2) : Kp a H H2 := fun b o e n => y b o (x b o e n) n
theorem ne_hand {H : Hp} {a l : Addr} {ns : List Int} {xs : List V} (hl : H l = some (.lst (ns.map V.int))) (ha : H a = some (.lst (.ref l :: xs))) : l ≠ a := ne_of hl ha (by
  intro e
  injection e with e
  cases ns with
  | nil => cases e
  | cons n r => injection e with e1; cases e1)
theorem Hd.at1 {H : Hp} {a l : Addr} (h : Hd H a l) : ∃ o, H a = some o := let ⟨_, _, _, _, _, _, _, _, e⟩ := h; ⟨_, e⟩
theorem Hd.at2 {H : Hp} {a l : Addr} (h : Hd H a l) : ∃ o, H l = some o := let ⟨_, _, _, _, _, _, e, _⟩ := h; ⟨_, e⟩
theorem Hd.ne {H : Hp} {a l p : Addr} (h : Hd H a l) (hp : H p = none) : p ≠ a ∧ p ≠ l := by
  obtain ⟨o, e⟩ := h.at1
  obtain ⟨o', e'⟩ := h.at2
  exact ⟨(ne_of_none e hp).symm, (ne_of_none e' hp).symm⟩
theorem Hd.wr {H : Hp} {a l p : Addr} {o : HO} (h : Hd H a l) (n1 : p ≠ a) (n2 : p ≠ l) : Hd (upd H p o) a l := by
  obtain ⟨ns, q, b, c, u, v, h1, h2, h3⟩ := h
  exact ⟨ns, q, b, c, u, v, by rw [upd_ne n2.symm]; exact h1, h2, by rw [upd_ne n1.symm]; exact h3⟩
theorem Hd.lay {H : Hp} {a l p : Addr} {o : HO} (h : Hd H a l) (hp : H p = none) : Hd (upd H p o) a l := h.wr (h.ne hp).1 (h.ne hp).2
theorem _root_.L2.Same.lay {p : Addr} {H H1 : Hp} {o : HO} (x : Same H H1) (h : H1 p = none) : Same H (upd H1 p o) := fun b u e => by
  have e1 := x b u e
  rw [upd_ne (ne_of_none e1 h)]; exact e1
theorem atI_ints {ns : List Int} {p : Int} (h0 : 0 ≤ p) (h1 : p < (ns.length : Int)) : ∃ z, atI (ns.map V.int) p = some (.int z) := by
  obtain ⟨n, rfl⟩ := Int.eq_ofNat_of_zero_le h0
  have hp : n < ns.length := by lia
  exact ⟨ns[n], atI_nat (by rw [List.getElem?_map, List.getElem?_eq_getElem hp]; rfl)⟩
def spHand (K : PySem.W.Frag) : Sp := fun vs H Q _ => ∃ (a : Addr) (ns : List Int), vs = [.ref a] ∧ SqL K H a (ns.map V.int) ∧ ∀ (p l : Addr) (H' : Hp), H p = none → H l = none → Hd H' p l → Same H H' → Q (.ref p) H'
def spNext : Sp := fun vs H Q _ => ∃ a l, vs = [.ref a] ∧ Hd H a l ∧ ∀ (r : Int) (H' : Hp), Hd H' a l → Kp a H H' → Q (.int r) H'
def spTake : Sp := fun vs H Q _ => ∃ a l, vs = [.ref a] ∧ Hd H a l ∧ ∀ (H' : Hp), Hd H' a l → Kp a H H' → Q .non H'
def spDraw : Sp := fun vs H Q _ => ∃ a l m, vs = [.ref a, .int m] ∧ Hd H a l ∧ 0 < m ∧ m < 100000000000000000000000000000000000000000000000000000000000000 ∧ ∀ (r : Int) (H' : Hp), 0 ≤ r → r < m → Hd H' a l → Kp a H H' → Q (.int r) H'
end My
namespace My
open PySem L2
def dEn (ks : List (List Int)) : List (List Key × V) := ks.map fun k => (k.map Sum.inl, V.bl true)
def dEm (ks : List (List Int × Int)) : List (List Key × V) := ks.map fun p => (p.1.map Sum.inl, V.int p.2)
def keyT (k : List Int) : PyData := .tuple (k.map PyData.int)
inductive DiU : HO → List (PyData × PyData) → Prop
  | t : DiU (.dT []) []
  | k (i j : Int) : DiU (.dK [(Sum.inl i, V.int j)]) [(.int i, .int j)]
  | f (o : Obj) (ks : List (List Int)) : DiU (.frz o (.dT (dEn ks))) ((.none, .none) :: ks.map fun k => (keyT k, .bool true))
mutual
inductive ThV (F : Addr → Prop) (H : Hp) : V → PyData → Prop
  | non : ThV F H .non .none
  | bl (b) : ThV F H (.bl b) (.bool b)
  | int (i) : ThV F H (.int i) (.int i)
  | str (x) : ThV F H (.str x) (.str x)
  | lst {a xs ds} : F a → H a = some (.lst xs) → ThVs F H xs ds → ThV F H (.ref a) (.list ds)
  | tup {a xs ds} : F a → H a = some (.tup xs) → ThVs F H xs ds → ThV F H (.ref a) (.tuple ds)
  | dic {a u kvs} : F a → H a = some u → DiU u kvs → ThV F H (.ref a) (.dict kvs)
inductive ThVs (F : Addr → Prop) (H : Hp) : List V → List PyData → Prop
  | nil : ThVs F H [] []
  | cons {x xs d ds} : ThV F H x d → ThVs F H xs ds → ThVs F H (x :: xs) (d :: ds)
end
mutual
theorem ThV.mv {F G : Addr → Prop} {H H' : Hp} (f : ∀ b o, F b → H b = some o → G b ∧ H' b = some o) : ∀ {v : V} {d : PyData}, ThV F H v d → ThV G H' v d
  | _, _, .non => .non
  | _, _, .bl b => .bl b
  | _, _, .int i => .int i
  | _, _, .str x => .str x
  | _, _, .lst n e t => .lst (f _ _ n e).1 (f _ _ n e).2 (ThVs.mv f t)
  | _, _, .tup n e t => .tup (f _ _ n e).1 (f _ _ n e).2 (ThVs.mv f t)
  | _, _, .dic n e t => .dic (f _ _ n e).1 (f _ _ n e).2 t
theorem ThVs.mv {F G : Addr → Prop} {H H' : Hp} (f : ∀ b o, F b → H b = some o → G b ∧ H' b = some o) : ∀ {vs : List V} {ds : List PyData}, ThVs F H vs ds → ThVs G H' vs ds
  | _, _, .nil => .nil
  | _, _, .cons x t => .cons (ThV.mv f x) (ThVs.mv f t)
end
theorem ThVs.same {F : Addr → Prop} {H H' : Hp} {v : List V} {d : List PyData} (t : ThVs F H v d) (s : Same H H') : ThVs F H' v d := t.mv fun b o z e => ⟨z, s b o e⟩
theorem ThVs.append {F : Addr → Prop} {H : Hp} {xs : List V} {ds : List PyData} {ys : List V} {es : List PyData} (t : ThVs F H xs ds) (y : ThVs F H ys es) : ThVs F H (xs ++ ys) (ds ++ es) := by
  induction xs generalizing ds with
  | nil => cases t; exact y
  | cons v xs ih =>
    cases t with
    | cons x t => exact .cons x (ih t)
theorem ThVs.len {F : Addr → Prop} {H : Hp} {xs : List V} {ds : List PyData} (t : ThVs F H xs ds) : xs.length = ds.length := by
  induction xs generalizing ds with
  | nil => cases t; rfl
  | cons v xs ih =>
    cases t with
    | cons x t => rw [List.length_cons, List.length_cons, ih t]
mutual
theorem ThV.dat {K : PySem.W.Frag} {F : Addr → Prop} {H : Hp} : ∀ {v : V} {d : PyData}, ThV F H v d → d.canLay0 = true → DatV K H v d
  | _, _, .non, _ => .non
  | _, _, .bl b, _ => .bl b
  | _, _, .int i, _ => .int i
  | _, _, .str x, _ => .str x
  | _, _, .lst _ e t, h => .lst (SqL.of e) (ThVs.dat t (by rw [PyData.canLay0] at h; exact h))
  | _, _, .tup _ e t, h => .tup (SqT.of e) (ThVs.dat t (by rw [PyData.canLay0] at h; exact h))
  | _, _, .dic _ _ _, h => by rw [PyData.canLay0] at h; cases h
theorem ThVs.dat {K : PySem.W.Frag} {F : Addr → Prop} {H : Hp} : ∀ {vs : List V} {ds : List PyData}, ThVs F H vs ds → PyData.canLayAll0 ds = true → DatVs K H vs ds
  | _, _, .nil, _ => .nil
  | _, _, .cons x t, h => by
    rw [PyData.canLayAll0, Bool.and_eq_true] at h
    exact .cons (ThV.dat x h.1) (ThVs.dat t h.2)
end
end My
namespace My
open PySem L2
structure DC where
  F : Addr → Prop
  hand : Option (Addr × Addr)
  H0 : Hp
def Kq (h : Option (Addr × Addr)) (H H' : Hp) : Prop := ∀ b o, H b = some o → (∀ q, h = some q → b ≠ q.1) → H' b = some o
def Hq (h : Option (Addr × Addr)) (H : Hp) : Prop := ∀ q, h = some q → Hd H q.1 q.2
section
variable {h : Option (Addr × Addr)} {H H1 H2 H' : Hp} {p : Addr} {o : HO}
theorem Kq.refl : Kq h H H := fun _ _ e _ => e
theorem Kq.trans (a : Kq h H H1) (b : Kq h H1 H2) : Kq h H H2 := fun c o e n => b c o (a c o e n) n
theorem Kq.same (s : Same H H') : Kq h H H' := fun b o e _ => s b o e
theorem Kq.fr {b : Addr} (k : Kq h H H') (q : Hq h H') (e : H' b = none) : H b = none := by
  cases z : H b with
  | none => rfl
  | some o =>
    by_cases c : ∀ p, h = some p → b ≠ p.1
    · rw [k b o z c] at e; cases e
    · refine absurd (fun p hp hb => ?_) c
      obtain ⟨o', e'⟩ := (q p hp).at1
      rw [hb, e'] at e; cases e
theorem Kq.lay (hp : H p = none) : Kq h H (upd H p o) := Kq.same ((Same.refl H).lay hp)
theorem Hq.lay (q : Hq h H) (hp : H p = none) : Hq h (upd H p o) := fun z hz => (q z hz).lay hp
end
inductive Rws (G F : Addr → Prop) (H : Hp) : List Addr → List (List PyData) → Prop
  | nil : Rws G F H [] []
  | cons {b vs as ds dss} : G b → H b = some (.lst vs) → ThVs F H vs ds → Rws G F H as dss → Rws G F H (b :: as) (ds :: dss)
theorem Rws.mv {G F G' F' : Addr → Prop} {H H' : Hp} {as : List Addr} {dss : List (List PyData)} (t : Rws G F H as dss) (f : ∀ b o, F b → H b = some o → F' b ∧ H' b = some o) (g : ∀ b o, G b → H b = some o → G' b ∧ H' b = some o) : Rws G' F' H' as dss := by
  induction t with
  | nil => exact .nil
  | cons x e y _ ih => exact .cons (g _ _ x e).1 (g _ _ x e).2 (y.mv f) ih
theorem Rws.mvl {G F G' F' : Addr → Prop} {H H' : Hp} {as : List Addr} {dss : List (List PyData)} (t : Rws G F H as dss) (f : ∀ b o, F b → H b = some o → F' b ∧ H' b = some o) (g : ∀ b ys, G b → H b = some (.lst ys) → G' b ∧ H' b = some (.lst ys)) : Rws G' F' H' as dss := by
  induction t with
  | nil => exact .nil
  | cons x e y _ ih => exact .cons (g _ _ x e).1 (g _ _ x e).2 (y.mv f) ih
def DiAt (H : Hp) (a : Addr) (ks : List (List Int)) : Bool → Prop
  | false => H a = some (.dT (dEn ks))
  | true => ∃ o, H a = some (.frz o (.dT (dEn ks)))
theorem DiAt.mv {H H' : Hp} {a : Addr} {ks : List (List Int)} {f : Bool} (h : DiAt H a ks f) (k : ∀ o, H a = some o → H' a = some o) : DiAt H' a ks f := by
  cases f with
  | false => exact k _ h
  | true => obtain ⟨o, h⟩ := h; exact ⟨o, k _ h⟩
def DmAt (H : Hp) (a : Addr) (ks : List (List Int × Int)) : Bool → Prop
  | false => H a = some (.dT (dEm ks))
  | true => ∃ o, H a = some (.frz o (.dT (dEm ks)))
theorem DmAt.mv {H H' : Hp} {a : Addr} {ks : List (List Int × Int)} {f : Bool} (h : DmAt H a ks f) (k : ∀ o, H a = some o → H' a = some o) : DmAt H' a ks f := by
  cases f with
  | false => exact k _ h
  | true => obtain ⟨o, h⟩ := h; exact ⟨o, k _ h⟩
inductive Sl where
  | no
  | sh (d : PyData)
  | ow (ds : List PyData)
  | bo (ds : List PyData)
  | hd
  | o2 (dss : List (List PyData))
  | b2 (dss : List (List PyData))
  | di (f : Bool) (ks : List (List Int))
  | dm (f : Bool) (kvs : List (List Int × Int))
  | bd (d : PyData)
  | ot (d : PyData)
abbrev Z (col : Addr → Nat) : Addr → Prop := fun b => col b = 0
abbrev Le (C : DC) : Addr → Prop := fun b => C.H0 b ≠ none ∧ ∀ q, C.hand = some q → b ≠ q.1
abbrev Ow (C : DC) (col : Addr → Nat) (H : Hp) (i : Nat) : Addr → Prop := fun b => (col b = 2 * i + 3 ∧ C.H0 b = none) ∨ (col b = 0 ∧ ∃ xs, H b = some (.tup xs))
def SlR (C : DC) (col : Addr → Nat) (H : Hp) (i : Nat) (o : Option V) : Sl → Prop
  | .no => True
  | .sh d => ∃ v, o = some v ∧ ThV (Z col) H v d
  | .ow ds => ∃ a vs, o = some (.ref a) ∧ col a = 2 * i + 3 ∧ C.H0 a = none ∧ H a = some (.lst vs) ∧ ThVs (Z col) H vs ds
  | .bo ds => ∃ a vs, o = some (.ref a) ∧ col a ≤ 1 ∧ (∀ q, C.hand = some q → a ≠ q.1) ∧ H a = some (.lst vs) ∧ ThVs (Z col) H vs ds
  | .hd => ∃ q, C.hand = some q ∧ o = some (.ref q.1)
  | .o2 dss => ∃ a as, o = some (.ref a) ∧ (col a = 2 * i + 3 ∧ C.H0 a = none) ∧ H a = some (.lst (as.map V.ref)) ∧ (a :: as).Nodup ∧ Rws (fun b => col b = 2 * i + 3 ∧ C.H0 b = none) (Z col) H as dss
  | .b2 dss => ∃ a as, o = some (.ref a) ∧ (col a ≤ 1 ∧ ∀ q, C.hand = some q → a ≠ q.1) ∧ H a = some (.lst (as.map V.ref)) ∧ Rws (fun b => col b ≤ 1 ∧ ∀ q, C.hand = some q → b ≠ q.1) (Z col) H as dss
  | .di f ks => ∃ a, o = some (.ref a) ∧ col a = 2 * i + 3 ∧ C.H0 a = none ∧ DiAt H a ks f
  | .dm f ks => ∃ a, o = some (.ref a) ∧ col a = 2 * i + 3 ∧ C.H0 a = none ∧ DmAt H a ks f
  | .bd d => ∃ v, o = some v ∧ ThV (Le C) C.H0 v d
  | .ot d => ∃ v, o = some v ∧ ThV (Ow C col H i) H v d
inductive Pe where
  | v (v : V) (d : PyData)
  | n (a : Addr) (o : HO)
  | s (vs : List V) (ds : List PyData)
  | o (c : Nat) (as : List Addr) (dss : List (List PyData))
  | w (v : V) (d : PyData)
def PeR (C : DC) (col : Addr → Nat) (H : Hp) : Pe → Prop
  | .v v d => ThV (Z col) H v d
  | .n a o => col a ≤ 1 ∧ (∀ q, C.hand = some q → a ≠ q.1) ∧ H a = some o
  | .s vs ds => ThVs (Z col) H vs ds
  | .o c as dss => as.Nodup ∧ Rws (fun b => col b = 2 * c + 2 ∧ C.H0 b = none) (Z col) H as dss
  | .w v d => ThV (Le C) C.H0 v d
structure RelC (C : DC) (col : Addr → Nat) (ρ : List Sl) (σ : St) (P : List Pe) (H : Hp) : Prop where
  fresh : ∀ b, H b = none → col b = 0
  inF : ∀ b, col b = 0 → C.F b
  hnd : ∀ q, C.hand = some q → col q.1 = 1
  sl : ∀ i s, ρ[i]? = some s → SlR C col H i (σ[i]?).join s
  pd : ∀ p ∈ P, PeR C col H p
  kq : Kq C.hand C.H0 H
  hq : Hq C.hand H
  hq0 : Hq C.hand C.H0
  nf : (∀ b, C.H0 b = none → C.F b) ∧ ∀ b xs, C.H0 b = some (.tup xs) → C.F b
  len : ρ.length = σ.length
def Rel (C : DC) (ρ : List Sl) (σ : St) (P : List Pe) (H : Hp) : Prop := ∃ col, RelC C col ρ σ P H
section
variable {C : DC} {col col' : Addr → Nat} {ρ : List Sl} {σ : St} {P P' : List Pe} {H H' : Hp} {v : V} {d : PyData} {o : HO} {p : Addr}
theorem RelC.notH (r : RelC C col ρ σ P H) {b : Addr} (hb : col b ≠ 1) : ∀ q, C.hand = some q → b ≠ q.1 := fun q hq e => hb (e ▸ r.hnd q hq)
theorem RelC.mv (r : RelC C col ρ σ P H) (k : Kq C.hand H H') (q : Hq C.hand H') : RelC C col ρ σ P H' := by
  have mv0 : ∀ b o, Z col b → H b = some o → Z col b ∧ H' b = some o := fun b o z e => ⟨z, k b o e (r.notH (by rw [show col b = 0 from z]; decide))⟩
  refine ⟨fun b e => r.fresh b (k.fr q e), r.inF, r.hnd, fun i s e => ?_, fun p hp => ?_, r.kq.trans k, q, r.hq0, r.nf, r.len⟩
  · have h := r.sl i s e
    cases s with
    | no => trivial
    | sh d => obtain ⟨v, e1, t⟩ := h; exact ⟨v, e1, t.mv mv0⟩
    | ow ds => obtain ⟨a, vs, e1, c, n, e2, t⟩ := h; exact ⟨a, vs, e1, c, n, k a _ e2 (r.notH (by lia)), t.mv mv0⟩
    | bo ds => obtain ⟨a, vs, e1, c, n, e2, t⟩ := h; exact ⟨a, vs, e1, c, n, k a _ e2 n, t.mv mv0⟩
    | hd => exact h
    | o2 dss => obtain ⟨a, as, e1, c, e2, nd, t⟩ := h; exact ⟨a, as, e1, c, k a _ e2 (r.notH (by lia)), nd, t.mv mv0 fun b o g e => ⟨g, k b o e (r.notH (by have := g.1; lia))⟩⟩
    | b2 dss => obtain ⟨a, as, e1, c, e2, t⟩ := h; exact ⟨a, as, e1, c, k a _ e2 c.2, t.mv mv0 fun b o g e => ⟨g, k b o e g.2⟩⟩
    | di f ks => obtain ⟨a, e1, c, n, e2⟩ := h; exact ⟨a, e1, c, n, e2.mv fun o e => k a o e (r.notH (by lia))⟩
    | dm f ks => obtain ⟨a, e1, c, n, e2⟩ := h; exact ⟨a, e1, c, n, e2.mv fun o e => k a o e (r.notH (by lia))⟩
    | bd d => exact h
    | ot d =>
      obtain ⟨v, e1, t⟩ := h
      refine ⟨v, e1, t.mv fun b o g e => ?_⟩
      have e' : H' b = some o := k b o e (r.notH (by rcases g with g | g <;> (have := g.1; lia)))
      exact ⟨g.imp id fun ⟨c, xs, z⟩ => ⟨c, xs, by rw [e] at z; rw [e']; exact z⟩, e'⟩
  · have h := r.pd p hp
    cases p with
    | v v d => exact ThV.mv mv0 h
    | n a o => exact ⟨h.1, h.2.1, k a o h.2.2 h.2.1⟩
    | s vs ds => exact ThVs.mv mv0 h
    | o c as dss => exact ⟨h.1, h.2.mv mv0 fun b o g e => ⟨g, k b o e (r.notH (by have := g.1; lia))⟩⟩
    | w v d => exact h
theorem RelC.lay (r : RelC C col ρ σ P H) (hp : H p = none) : RelC C col ρ σ P (upd H p o) := r.mv (Kq.lay hp) (r.hq.lay hp)
theorem RelC.add (r : RelC C col ρ σ P H) {x : Pe} (t : PeR C col H x) : RelC C col ρ σ (x :: P) H :=
  { r with pd := fun p hp => (List.mem_cons.mp hp).elim (fun e => e ▸ t) (r.pd p) }
theorem RelC.push (r : RelC C col ρ σ P H) (t : ThV (Z col) H v d) : RelC C col ρ σ (.v v d :: P) H := r.add t
theorem RelC.sub (r : RelC C col ρ σ P H) (h : ∀ p ∈ P', p ∈ P) : RelC C col ρ σ P' H := { r with pd := fun p hp => r.pd p (h p hp) }
theorem Rel.sub (r : Rel C ρ σ P H) (h : ∀ p ∈ P', p ∈ P) : Rel C ρ σ P' H := let ⟨c, r⟩ := r; ⟨c, r.sub h⟩
theorem Rel.pop {x : Pe} (r : Rel C ρ σ (x :: P) H) : Rel C ρ σ P H := r.sub fun _ h => List.mem_cons_of_mem _ h
theorem RelC.tup {vs : List V} {ds : List PyData} (r : RelC C col ρ σ P H) (t : ThVs (Z col) H vs ds) (hp : H p = none) : RelC C col ρ σ (.v (.ref p) (.tuple ds) :: P) (upd H p (.tup vs)) :=
  (r.lay hp).push (.tup (r.fresh p hp) upd_same (t.same ((Same.refl H).lay hp)))
theorem RelC.lst {vs : List V} {ds : List PyData} (r : RelC C col ρ σ P H) (t : ThVs (Z col) H vs ds) (hp : H p = none) : RelC C col ρ σ (.v (.ref p) (.list ds) :: P) (upd H p (.lst vs)) :=
  (r.lay hp).push (.lst (r.fresh p hp) upd_same (t.same ((Same.refl H).lay hp)))
theorem RelC.recol (r : RelC C col ρ σ P H) {ρ' : List Sl} {σ' : St} (hl : ρ'.length = σ'.length) (f : ∀ b, H b = none → col' b = 0) (i : ∀ b, col' b = 0 → C.F b) (n : ∀ q, C.hand = some q → col' q.1 = 1) (z : ∀ b, col b = 0 → H b ≠ none → col' b = 0)
    (lo : ∀ b, col b ≤ 1 → H b ≠ none → col' b ≤ 1) (c2 : ∀ b c, col b = 2 * c + 2 → col' b = 2 * c + 2) (s : ∀ i s, ρ'[i]? = some s → SlR C col' H i (σ'[i]?).join s) : RelC C col' ρ' σ' P H := by
  have mv0 : ∀ b o, Z col b → H b = some o → Z col' b ∧ H b = some o := fun b o zz e => ⟨z b zz (by rw [e]; exact fun q => nomatch q), e⟩
  refine ⟨f, i, n, s, fun p hp => ?_, r.kq, r.hq, r.hq0, r.nf, hl⟩
  have h := r.pd p hp
  cases p with
  | v v d => exact ThV.mv mv0 h
  | n a o => exact ⟨lo a h.1 (by rw [h.2.2]; exact fun q => nomatch q), h.2⟩
  | s vs ds => exact ThVs.mv mv0 h
  | o c as dss => exact ⟨h.1, h.2.mv mv0 fun b o g e => ⟨⟨c2 b c g.1, g.2⟩, e⟩⟩
  | w v d => exact h
theorem RelC.freeze {i : Nat} {ds : List PyData} (r : RelC C col ρ σ P H) (e : ρ[i]? = some (.ow ds)) :
    ∃ a, (σ[i]?).join = some (.ref a) ∧ Rel C (ρ.set i (.sh (.list ds))) σ (.v (.ref a) (.list ds) :: P) H := by
  obtain ⟨a, vs, e1, c, n, e2, t⟩ := r.sl i _ e
  let col' : Addr → Nat := fun b => if b = a then 0 else col b
  have ca : col' a = 0 := if_pos rfl
  have cn : ∀ b, b ≠ a → col' b = col b := fun b hb => if_neg hb
  have z : ∀ b, col b = 0 → col' b = 0 := fun b hb => by
    by_cases q : b = a
    · rw [q]; exact ca
    · rw [cn b q]; exact hb
  have mv0 : ∀ b o, Z col b → H b = some o → Z col' b ∧ H b = some o := fun b o zz e => ⟨z b zz, e⟩
  have T : ThV (Z col') H (.ref a) (.list ds) := .lst ca e2 (t.mv mv0)
  have R : RelC C col' (ρ.set i (.sh (.list ds))) σ P H := by
    refine r.recol (by rw [List.length_set]; exact r.len) (fun b hb => z b (r.fresh b hb)) (fun b hb => ?_) (fun q hq => ?_) (fun b hb _ => z b hb) (fun b hb _ => ?_) (fun b c2 hb => by rw [cn b (fun q => by rw [q] at hb; lia)]; exact hb) fun j s es => ?_
    · by_cases q : b = a
      · rw [q]; exact r.nf.1 a n
      · rw [cn b q] at hb; exact r.inF b hb
    · rw [cn _ fun q' => by have := r.hnd q hq; rw [q'] at this; lia]; exact r.hnd q hq
    · by_cases q : b = a
      · rw [q, ca]; lia
      · rw [cn b q]; exact hb
    · by_cases hj : j = i
      · subst hj
        rw [List.getElem?_set] at es
        simp only [if_true] at es
        split at es
        · cases es; exact ⟨_, e1, T⟩
        · cases es
      · rw [List.getElem?_set_ne (Ne.symm hj)] at es
        have h := r.sl j s es
        cases s with
        | no => trivial
        | sh d => obtain ⟨v, e1, t⟩ := h; exact ⟨v, e1, t.mv mv0⟩
        | ow ds => obtain ⟨a', vs', e1', c', n', e2', t'⟩ := h; exact ⟨a', vs', e1', by rw [cn a' (fun q => by rw [q] at c'; lia)]; exact c', n', e2', t'.mv mv0⟩
        | bo ds => obtain ⟨a', vs', e1', c', n', e2', t'⟩ := h; exact ⟨a', vs', e1', by by_cases q : a' = a; { rw [q, ca]; lia }; { rw [cn a' q]; exact c' }, n', e2', t'.mv mv0⟩
        | hd => exact h
        | o2 dss => obtain ⟨a', as', e1', c', e2', nd', t'⟩ := h; exact ⟨a', as', e1', ⟨by rw [cn a' (fun q => by rw [q] at c'; lia)]; exact c'.1, c'.2⟩, e2', nd', t'.mv mv0 fun b o g e => ⟨⟨by rw [cn b (fun q => by have := g.1; rw [q] at this; lia)]; exact g.1, g.2⟩, e⟩⟩
        | b2 dss => obtain ⟨a', as', e1', c', e2', t'⟩ := h; exact ⟨a', as', e1', ⟨by by_cases q : a' = a; { rw [q, ca]; lia }; { rw [cn a' q]; exact c'.1 }, c'.2⟩, e2', t'.mv mv0 fun b o g e => ⟨⟨by by_cases q : b = a; { rw [q, ca]; lia }; { rw [cn b q]; exact g.1 }, g.2⟩, e⟩⟩
        | di f ks => obtain ⟨a', e1', c', n', e2'⟩ := h; exact ⟨a', e1', by rw [cn a' (fun q => by rw [q] at c'; lia)]; exact c', n', e2'⟩
        | dm f ks => obtain ⟨a', e1', c', n', e2'⟩ := h; exact ⟨a', e1', by rw [cn a' (fun q => by rw [q] at c'; lia)]; exact c', n', e2'⟩
        | bd d => exact h
        | ot d => obtain ⟨v, e1', t'⟩ := h; exact ⟨v, e1', t'.mv fun b o g e => ⟨g.imp (fun g => ⟨by rw [cn b (fun q => by rw [q] at g; have := g.1; lia)]; exact g.1, g.2⟩) fun g => ⟨z b g.1, g.2⟩, e⟩⟩
  exact ⟨a, e1, col', R.push T⟩
theorem RelC.store {i : Nat} (r : RelC C col ρ σ P H) (t : ThV (Z col) H v d) : RelC C col (ρ.set i (.sh d)) (σ.set i (some v)) P H := by
  refine { r with sl := fun j s es => ?_, len := by rw [List.length_set, List.length_set]; exact r.len }
  by_cases hj : j = i
  · subst hj
    rw [List.getElem?_set] at es
    simp only [if_true] at es
    split at es
    · rename_i hl
      cases es
      refine ⟨v, ?_, t⟩
      rw [List.getElem?_set, if_pos rfl, if_pos (by rw [← r.len]; exact hl)]; rfl
    · cases es
  · rw [List.getElem?_set_ne (Ne.symm hj)] at es
    rw [List.getElem?_set_ne (Ne.symm hj)]
    exact r.sl j s es
end
open Classical in
theorem RelC.norm {C : DC} {col : Addr → Nat} {ρ : List Sl} {σ : St} {P : List Pe} {H : Hp} (r : RelC C col ρ σ P H) : ∃ col', RelC C col' ρ σ P H ∧ ∀ b xs, H b = some (.tup xs) → col' b = 0 := by
  let col' : Addr → Nat := fun b => if ∃ xs, H b = some (.tup xs) then 0 else col b
  have ct : ∀ b xs, H b = some (.tup xs) → col' b = 0 := fun b xs e => if_pos ⟨xs, e⟩
  have cn : ∀ b, (∀ xs, H b ≠ some (.tup xs)) → col' b = col b := fun b h => if_neg fun ⟨xs, e⟩ => h xs e
  have hl : ∀ b ys, H b = some (.lst ys) → col' b = col b := fun b ys e => cn b fun xs z => by rw [e] at z; cases z
  have hd : ∀ q, C.hand = some q → ∀ xs, H q.1 ≠ some (.tup xs) := fun q hq xs z => by
    obtain ⟨_, _, _, _, _, _, _, _, e⟩ := r.hq q hq
    rw [e] at z; cases z
  have z0 : ∀ b, col b = 0 → col' b = 0 := fun b hb => by
    by_cases h : ∃ xs, H b = some (.tup xs)
    · exact if_pos h
    · exact (if_neg h).trans hb
  have lo : ∀ b, col b ≤ 1 → col' b ≤ 1 := fun b hb => by
    by_cases h : ∃ xs, H b = some (.tup xs)
    · rw [show col' b = 0 from if_pos h]; lia
    · rw [show col' b = col b from if_neg h]; exact hb
  have mv0 : ∀ b o, Z col b → H b = some o → Z col' b ∧ H b = some o := fun b o zz e => ⟨z0 b zz, e⟩
  refine ⟨col', ⟨fun b e => z0 b (r.fresh b e), fun b hb => ?_, fun q hq => (cn _ (hd q hq)).trans (r.hnd q hq), fun i s e => ?_, fun p hp => ?_, r.kq, r.hq, r.hq0, r.nf, r.len⟩, ct⟩
  · by_cases h : ∃ xs, H b = some (.tup xs)
    · obtain ⟨xs, h⟩ := h
      cases q : C.H0 b with
      | none => exact r.nf.1 b q
      | some o =>
        have := r.kq b o q fun p hp e => hd p hp xs (e ▸ h)
        rw [this] at h
        cases h
        exact r.nf.2 b xs q
    · rw [show col' b = col b from if_neg h] at hb; exact r.inF b hb
  · have h := r.sl i s e
    cases s with
    | no => trivial
    | sh d => obtain ⟨v, e1, t⟩ := h; exact ⟨v, e1, t.mv mv0⟩
    | ow ds => obtain ⟨a, vs, e1, c, n, e2, t⟩ := h; exact ⟨a, vs, e1, (hl a _ e2).trans c, n, e2, t.mv mv0⟩
    | bo ds => obtain ⟨a, vs, e1, c, n, e2, t⟩ := h; exact ⟨a, vs, e1, lo a c, n, e2, t.mv mv0⟩
    | hd => exact h
    | o2 dss => obtain ⟨a, as, e1, c, e2, nd, t⟩ := h; exact ⟨a, as, e1, ⟨(hl a _ e2).trans c.1, c.2⟩, e2, nd, t.mvl mv0 fun b ys g e => ⟨⟨(hl b _ e).trans g.1, g.2⟩, e⟩⟩
    | b2 dss => obtain ⟨a, as, e1, c, e2, t⟩ := h; exact ⟨a, as, e1, ⟨lo a c.1, c.2⟩, e2, t.mvl mv0 fun b ys g e => ⟨⟨lo b g.1, g.2⟩, e⟩⟩
    | di f ks =>
      obtain ⟨a, e1, c, n, e2⟩ := h
      refine ⟨a, e1, (cn a fun xs z => ?_).trans c, n, e2⟩
      cases f with
      | false => rw [show H a = _ from e2] at z; cases z
      | true => obtain ⟨o, e2⟩ := e2; rw [e2] at z; cases z
    | dm f ks =>
      obtain ⟨a, e1, c, n, e2⟩ := h
      refine ⟨a, e1, (cn a fun xs z => ?_).trans c, n, e2⟩
      cases f with
      | false => rw [show H a = _ from e2] at z; cases z
      | true => obtain ⟨o, e2⟩ := e2; rw [e2] at z; cases z
    | bd d => exact h
    | ot d =>
      obtain ⟨v, e1, t⟩ := h
      refine ⟨v, e1, t.mv fun b o g e => ⟨?_, e⟩⟩
      by_cases q : ∃ xs, H b = some (.tup xs)
      · obtain ⟨xs, q⟩ := q
        exact .inr ⟨ct b xs q, xs, q⟩
      · rcases g with g | g
        · exact .inl ⟨(if_neg q).trans g.1, g.2⟩
        · exact absurd g.2 q
  · have h := r.pd p hp
    cases p with
    | v v d => exact ThV.mv mv0 h
    | n a o => exact ⟨lo a h.1, h.2⟩
    | s vs ds => exact ThVs.mv mv0 h
    | o c as dss => exact ⟨h.1, h.2.mvl mv0 fun b ys g e => ⟨⟨(hl b _ e).trans g.1, g.2⟩, e⟩⟩
    | w v d => exact h
inductive Pds (P : List Pe) : List V → List PyData → Prop
  | nil : Pds P [] []
  | cons {v d vs ds} : Pe.v v d ∈ P → Pds P vs ds → Pds P (v :: vs) (d :: ds)
theorem Pds.th {C : DC} {col : Addr → Nat} {ρ : List Sl} {σ : St} {P : List Pe} {H : Hp} (r : RelC C col ρ σ P H) : ∀ {vs : List V} {ds : List PyData}, Pds P vs ds → ThVs (Z col) H vs ds
  | _, _, .nil => .nil
  | _, _, .cons h t => .cons (r.pd _ h) (Pds.th r t)
end My
namespace My
open PySem L2
abbrev DE := List Sl → (PyData → List Sl → Prop) → Prop
abbrev DT := List Sl → (Bool → List Sl → Prop) → Prop
abbrev DF := List Sl → (List PyData → List Sl → Prop) → Prop
def eOf (C : DC) (t : DE) : TE := fun σ H Q => ∃ ρ P Qd, Rel C ρ σ P H ∧ t ρ Qd ∧ ∀ v d ρ' H', Rel C ρ' σ (.v v d :: P) H' → Qd d ρ' → Q v H'
def cOf (C : DC) (t : DT) : TT := fun σ H Q => ∃ ρ P Qd, Rel C ρ σ P H ∧ t ρ Qd ∧ ∀ b ρ' H', Rel C ρ' σ P H' → Qd b ρ' → Q b H'
def fOf (C : DC) (t : DF) : TE := fun σ H Q => ∃ ρ P Qd, Rel C ρ σ P H ∧ t ρ Qd ∧ ∀ p vs ds ρ' H1, (∃ col, RelC C col ρ' σ P H1 ∧ ThVs (Z col) H1 vs ds) → H1 p = none → Qd ds ρ' → Q (.ref p) (upd H1 p (.lst vs))
def vOf (C : DC) (t : DF) : TA := fun σ H Q => ∃ ρ P Qd, Rel C ρ σ P H ∧ t ρ Qd ∧ ∀ vs ds ρ' P' H', Rel C ρ' σ P' H' → (∀ p ∈ P, p ∈ P') → Pds P' vs ds → Qd ds ρ' → Q vs H'
def bnd {α : Type} (o : Option α) (Q : α → Prop) : Prop := match o with
  | some a => Q a
  | none => False
theorem bnd_of {α : Type} {o : Option α} {Q : α → Prop} (h : bnd o Q) : ∃ a, o = some a ∧ Q a := by
  cases o with
  | none => exact h.elim
  | some a => exact ⟨a, rfl, h⟩
section
variable {X : Cx} {C : DC}
theorem PE.wk {e : Expr} {t t' : TE} (h : PE X e t) (f : ∀ σ H Q, t' σ H Q → t σ H Q) : PE X e t' := fun pins s σ H Q I q => h pins s σ H Q I (f σ H Q q)
theorem PT.wk {e : Expr} {t t' : TT} (h : PT X e t) (f : ∀ σ H Q, t' σ H Q → t σ H Q) : PT X e t' := fun pins s σ H Q I q => h pins s σ H Q I (f σ H Q q)
theorem PA.wk {es : List Expr} {t t' : TA} (h : PA X es t) (f : ∀ σ H Q, t' σ H Q → t σ H Q) : PA X es t' := fun pos pins s σ H Q I q => h pos pins s σ H Q I (f σ H Q q)
def dC (d : PyData)  (ρ : List Sl) (Q : PyData → List Sl → Prop) : Prop := Q d ρ
theorem pd_c {e : Expr} {v : V} {d : PyData} (h : PE X e (tC v)) (t : ∀ F H, ThV F H v d) : PE X e (eOf C (dC d)) := PE.wk h fun _ _ _ zz1 => el3 zz1 fun _ _ _ zz2 ht k => zz2.elim fun col r => k _ _ _ _ ⟨col, r.push (t _ _)⟩ ht
theorem pd_int {i j pos} : PE X (.Constant (.int i) j pos) (eOf C (dC (.int i))) := pd_c pe_int fun _ _ => .int i
theorem pd_bl {b j pos} : PE X (.Constant (.bool b) j pos) (eOf C (dC (.bool b))) := pd_c pe_bl fun _ _ => .bl b
theorem join_some {α : Type} {o : Option (Option α)} {v : α} (h : o.join = some v) : o = some (some v) := by
  cases o with
  | none => cases h
  | some q => exact congrArg some h
def dVar (i : Nat)  (ρ : List Sl) (Q : PyData → List Sl → Prop) : Prop := match ρ[i]? with
  | some (.sh d) => Q d ρ
  | some (.ow ds) => Q (.list ds) (ρ.set i (.sh (.list ds)))
  | _ => False
theorem pd_var {e : Expr} {i : Nat} (h : PE X e (tVar i)) : PE X e (eOf C (dVar i)) := PE.wk h fun σ H Q zz3 => el3 zz3 fun ρ P Qd zz4 ht k => zz4.elim fun col r => by
  unfold dVar at ht
  split at ht
  · rename_i d e
    obtain ⟨v, e1, t⟩ := r.sl i _ e
    exact ⟨v, join_some e1, k _ _ _ _ ⟨col, r.push t⟩ ht⟩
  · rename_i ds e
    obtain ⟨a, e1, R⟩ := r.freeze e
    exact ⟨_, join_some e1, k _ _ _ _ R ht⟩
  · exact ht.elim
def slotD (ρ : List Sl) (i : Nat) : Option PyData := match ρ[i]? with
  | some (.sh d) => some d
  | some (.ow ds) => some (.list ds)
  | some (.bo ds) => some (.list ds)
  | _ => none
abbrev G2 := PyData → PyData → (PyData → Prop) → Prop
def OpOk (C : DC) (r : R2) (g : G2) : Prop :=
  ∀ {ρ : List Sl} {σ : St} {P : List Pe} {H : Hp} {v w : V} {a b : PyData} {Qd : PyData → Prop} {Q : VK}, Rel C ρ σ (.v w b :: .v v a :: P) H → g a b Qd → (∀ u d H', Rel C ρ σ (.v u d :: P) H' → Qd d → Q u H') → r v w H Q
def dOp (g : G2) (ta tb : DE)  (ρ : List Sl) (Q : PyData → List Sl → Prop) : Prop := ta ρ fun a ρ1 => tb ρ1 fun b ρ2 => g a b fun d => Q d ρ2
theorem dOp_rd {r : R2} {g : G2} {ta tb : DE} (hg : OpOk C r g) {σ : St} {H : Hp} {Q : VK} (h : eOf C (dOp g ta tb) σ H Q) : tOp r (eOf C ta) (eOf C tb) σ H Q := by
  obtain ⟨ρ, P, Qd, R, ht, k⟩ := h
  exact ⟨ρ, P, _, R, ht, fun v a ρ1 H1 R1 h1 => ⟨ρ1, _, _, R1, h1, fun w b ρ2 H2 R2 h2 => hg R2 h2 fun u d H' R' q => k u d ρ2 H' R' q⟩⟩
variable {a b : Expr} {ta tb : DE} {pos : Pos}
theorem pd_op {op : Operator} {r : R2} {g : G2} (ho : OpR X (binaryOp op) r) (hg : OpOk C r g) (ha : PE X a (eOf C ta)) (hb : PE X b (eOf C tb)) : PE X (.BinOp a op b pos) (eOf C (dOp g ta tb)) := PE.wk (pe_op ho ha hb) fun _ _ _ h => dOp_rd hg h
theorem pd_cmp {op : CmpOp} {r : R2} {g : G2} (ho : OpR X (compareOp op) r) (hg : OpOk C r g) (ha : PE X a (eOf C ta)) (hb : PE X b (eOf C tb)) (hm : behindInMarks op b = false) : PE X (.Compare a [op] [b] pos) (eOf C (dOp g ta tb)) := PE.wk (pe_cmpR ho ha hb hm) fun _ _ _ h => dOp_rd hg h
def dT (t : DE)  (ρ : List Sl) (Q : Bool → List Sl → Prop) : Prop := t ρ fun d ρ' => match d with
  | .bool b => Q b ρ'
  | _ => False
theorem dT_rd {t : DE} {σ : St} {H : Hp} {Q : Bool → Hp → Prop} (h : cOf C (dT t) σ H Q) : eOf C t σ H fun x H' => ∃ k, x = .bl k ∧ Q k H' := by
  obtain ⟨ρ, P, Qd, R, ht, k⟩ := h
  refine ⟨ρ, P, _, R, ht, fun v d ρ' H' R' q => ?_⟩
  split at q
  · obtain ⟨col, r⟩ := R'
    have t := r.pd _ List.mem_cons_self
    cases (show ThV (Z col) H' v (.bool _) from t)
    exact ⟨_, rfl, k _ _ _ (Rel.pop ⟨col, r⟩) q⟩
  · exact q.elim
theorem pdt_cmp {op : CmpOp} {r : R2} {g : G2} (ho : OpR X (compareOp op) r) (hg : OpOk C r g) (ha : PE X a (eOf C ta)) (hb : PE X b (eOf C tb)) (hm : behindInMarks op b = false) : PT X (.Compare a [op] [b] pos) (cOf C (dT (dOp g ta tb))) :=
  PT.wk (pt_cmpR ho ha hb hm) fun σ H Q h => dOp_rd hg (dT_rd h)
def dNot (t : DT)  (ρ : List Sl) (Q : Bool → List Sl → Prop) : Prop := t ρ fun b ρ' => Q (!b) ρ'
def dAnd (t u : DT)  (ρ : List Sl) (Q : Bool → List Sl → Prop) : Prop := t ρ fun b ρ' => if b = true then u ρ' Q else Q false ρ'
def dOr (t u : DT)  (ρ : List Sl) (Q : Bool → List Sl → Prop) : Prop := t ρ fun b ρ' => if b = true then Q true ρ' else u ρ' Q
variable {t u : DT} {rest : List Expr}
def dBV (t : DE) (f : Bool → List Sl → Prop)  (ρ : List Sl) : Prop := t ρ fun d ρ' => match d with
  | .bool b => f b ρ'
  | _ => False
def dAndV (ta tb : DE)  (ρ : List Sl) (Q : PyData → List Sl → Prop) : Prop := dBV ta (fun b ρ' => if b = true then tb ρ' Q else Q (.bool false) ρ') ρ
def dOrV (ta tb : DE)  (ρ : List Sl) (Q : PyData → List Sl → Prop) : Prop := dBV ta (fun b ρ' => if b = true then Q (.bool true) ρ' else tb ρ' Q) ρ
def dNotV (ta : DE)  (ρ : List Sl) (Q : PyData → List Sl → Prop) : Prop := dBV ta (fun b ρ' => Q (.bool (!b)) ρ') ρ
def dNeg (ta : DE)  (ρ : List Sl) (Q : PyData → List Sl → Prop) : Prop := ta ρ fun d ρ' => match d with
  | .int i => Q (.int (-i)) ρ'
  | _ => False
def dIf (c : DT) (ta tb : DE)  (ρ : List Sl) (Q : PyData → List Sl → Prop) : Prop := c ρ fun b ρ' => if b = true then ta ρ' Q else tb ρ' Q
def dChain (g g' : G2) (ta tb tc : DE)  (ρ : List Sl) (Q : PyData → List Sl → Prop) : Prop := ta ρ fun a ρ1 => tb ρ1 fun b ρ2 => g a b fun z => match z with
  | .bool k => if k = true then tc ρ2 fun c ρ3 => g' b c fun d => Q d ρ3 else Q (.bool false) ρ2
  | _ => False
end
def gI (c : Int → Int → Prop) (f : Int → Int → PyData)  (a b : PyData) (Q : PyData → Prop) : Prop := match a, b with
  | .int i, .int j => c i j ∧ Q (f i j)
  | _, _ => False
def gI0 (f : Int → Int → PyData)  (a b : PyData) (Q : PyData → Prop) : Prop := match a, b with
  | .int i, .int j => Q (f i j)
  | _, _ => False
section
variable {C : DC} {X : Cx}
theorem th2 {ρ : List Sl} {σ : St} {P : List Pe} {H : Hp} {v w : V} {a b : PyData} (r : Rel C ρ σ (.v w b :: .v v a :: P) H) : ∃ col, RelC C col ρ σ P H ∧ ThV (Z col) H v a ∧ ThV (Z col) H w b := by
  obtain ⟨col, r⟩ := r
  exact ⟨col, r.sub fun _ h => List.mem_cons_of_mem _ (List.mem_cons_of_mem _ h), r.pd _ (List.mem_cons_of_mem _ List.mem_cons_self), r.pd _ List.mem_cons_self⟩
theorem ok_I0 {f : Int → Int → V} {g : Int → Int → PyData} (h : ∀ i j F H, ThV F H (f i j) (g i j)) : OpOk C (rI0 f) (gI0 g) := by
  intro ρ σ P H v w a b Qd Q R hg k
  unfold gI0 at hg
  split at hg
  · obtain ⟨col, r, t1, t2⟩ := th2 R
    cases t1; cases t2
    exact ⟨_, _, rfl, rfl, k _ _ _ ⟨col, r.push (h _ _ _ _)⟩ hg⟩
  · exact hg.elim
theorem ok_I {c : Int → Int → Prop} {f : Int → Int → V} {g : Int → Int → PyData} (h : ∀ i j F H, ThV F H (f i j) (g i j)) : OpOk C (rI c f) (gI c g) := by
  intro ρ σ P H v w a b Qd Q R hg k
  unfold gI at hg
  split at hg
  · obtain ⟨col, r, t1, t2⟩ := th2 R
    cases t1; cases t2
    exact ⟨_, _, rfl, rfl, hg.1, k _ _ _ ⟨col, r.push (h _ _ _ _)⟩ hg.2⟩
  · exact hg.elim
def gAdd : G2 := gI0 fun i j => .int (i + j)
def gMns : G2 := gI0 fun i j => .int (i - j)
def gMul : G2 := gI CMul fun i j => .int (i * j)
def gMod : G2 := gI (fun _ j => 0 < j) fun i j => .int (i % j)
def gDiv : G2 := gI CDivB fun i j => .int (i / j)
def gPow : G2 := gI CPow fun i j => .int (i ^ j.toNat)
def gLt : G2 := gI0 fun i j => .bool (decide (i < j))
def gLe : G2 := gI0 fun i j => .bool (decide (i ≤ j))
def gGt : G2 := gI0 fun i j => .bool (decide (j < i))
def gGe : G2 := gI0 fun i j => .bool (decide (j ≤ i))
theorem ok_pow : OpOk C (rI CPow (fun i j => .int (i ^ j.toNat))) gPow := ok_I (f := fun i j => .int (i ^ j.toNat)) fun _ _ _ _ => .int _
theorem ok_lt : OpOk C (rI0 (fun i j => .bl (decide (i < j)))) gLt := ok_I0 (f := fun i j => .bl (decide (i < j))) fun _ _ _ _ => .bl _
def gEq (neg : Bool)  (a b : PyData) (Q : PyData → Prop) : Prop := a.canLay0 = true ∧ b.canLay0 = true ∧ min a.depth b.depth ≤ 64 ∧ Q (.bool (if neg then !PyData.eqv a b else PyData.eqv a b))
theorem ok_eq {K : PySem.W.Frag} {neg : Bool} : OpOk C (rEqD K neg) (gEq neg) := by
  intro ρ σ P H v w a b Qd Q R hg k
  obtain ⟨col, r, t1, t2⟩ := th2 R
  exact ⟨a, b, t1.dat hg.1, t2.dat hg.2.1, hg.1, hg.2.1, hg.2.2.1, k _ _ _ ⟨col, r.push (.bl _)⟩ hg.2.2.2⟩
def isN : PyData → Bool
  | .none => true
  | _ => false
def gIsN (neg : Bool)  (a b : PyData) (Q : PyData → Prop) : Prop := match b with
  | .none => Q (.bool (if neg then !isN a else isN a))
  | _ => False
end
section
variable {X : Cx} {C : DC} {a b c : Expr} {ta tb tc : DE} {pos : Pos}
end
end My
namespace My
open PySem L2
section
variable {X : Cx} {C : DC} {e a b : Expr} {es : List Expr} {t ta tb : DE} {u : DF} {pos : Pos}
theorem sub_cons {P P' : List Pe} {x : Pe} (h : ∀ p ∈ P, p ∈ P') : ∀ p ∈ x :: P, p ∈ x :: P' := fun p hp => (List.mem_cons.mp hp).elim (fun e => e ▸ List.mem_cons_self) fun hp => List.mem_cons_of_mem _ (h p hp)
def dNil  (ρ : List Sl) (Q : List PyData → List Sl → Prop) : Prop := Q [] ρ
def dCons (t : DE) (u : DF)  (ρ : List Sl) (Q : List PyData → List Sl → Prop) : Prop := t ρ fun d ρ1 => u ρ1 fun ds ρ2 => Q (d :: ds) ρ2
theorem dv_nil : PA X [] (vOf C dNil) := PA.wk pa_nil fun _ _ _ zz1 => el3 zz1 fun _ _ _ R ht k => k [] [] _ _ _ R (fun _ h => h) .nil ht
theorem dv_cons (ha : PE X e (eOf C t)) (hr : PA X es (vOf C u)) (hs : starEach (e :: es) X.env = (false, eval e X.env) :: starEach es X.env := by rfl) : PA X (e :: es) (vOf C (dCons t u)) := PA.wk (pa_cons ha hr hs) fun _ _ _ zz2 => el3 zz2 fun ρ P _ R ht k =>
  ⟨ρ, P, _, R, ht, fun _ _ ρ1 _ R1 h1 => ⟨ρ1, _, _, R1, h1, fun _ _ _ _ _ R2 s2 p2 h2 => k _ _ _ _ _ R2 (fun p hp => s2 p (List.mem_cons_of_mem _ hp)) (.cons (s2 _ List.mem_cons_self) p2) h2⟩⟩
def dTup (t : DF)  (ρ : List Sl) (Q : PyData → List Sl → Prop) : Prop := t ρ fun ds ρ' => ds.length ≤ 1000 ∧ Q (.tuple ds) ρ'
theorem pd_tup {x1} (h : PA X es (vOf C u)) : PE X (.Tuple es x1 pos) (eOf C (dTup u)) := PE.wk (pe_tup h) fun _ _ _ zz3 => el3 zz3 fun ρ P _ R ht k => ⟨ρ, P, _, R, ht, fun vs ds ρ' P' H' zz4 s p q => zz4.elim fun col r =>
  ⟨by rw [(p.th r).len]; exact Nat.le_of_lt (small1000 q.1), fun b hb => k _ _ _ _ ⟨col, (r.tup (p.th r) hb).sub (sub_cons s)⟩ q.2⟩⟩
def dLst (t : DF)  (ρ : List Sl) (Q : List PyData → List Sl → Prop) : Prop := t ρ fun ds ρ' => ds.length ≤ 1000 ∧ Q ds ρ'
theorem pf_lst (h : PA X es (vOf C u)) : PE X (.List es pos) (fOf C (dLst u)) := PE.wk (pe_lst h) fun _ _ _ zz5 => el3 zz5 fun ρ P _ R ht k => ⟨ρ, P, _, R, ht, fun vs ds ρ' P' H' zz6 s p q => zz6.elim fun col r =>
  ⟨by rw [(p.th r).len]; exact Nat.le_of_lt (small1000 q.1), fun b hb => k _ _ _ _ _ ⟨col, r.sub s, p.th r⟩ hb q.2⟩⟩
def dF (t : DF)  (ρ : List Sl) (Q : PyData → List Sl → Prop) : Prop := t ρ fun ds ρ' => Q (.list ds) ρ'
theorem pd_f (h : PE X e (fOf C u)) : PE X e (eOf C (dF u)) := PE.wk h fun _ _ _ zz7 => el3 zz7 fun ρ P _ R ht k => ⟨ρ, P, _, R, ht, fun _ _ _ _ _ zz8 hp q => el2 zz8 fun col r t => k _ _ _ _ ⟨col, r.lst t hp⟩ q⟩
def ixD (a b : PyData) : Option PyData := match a, b with
  | .list xs, .int i => atI xs i
  | .tuple xs, .int i => atI xs i
  | _, _ => none
def dIx (ta tb : DE)  (ρ : List Sl) (Q : PyData → List Sl → Prop) : Prop := ta ρ fun a ρ1 => tb ρ1 fun b ρ2 => bnd (ixD a b) fun d => Q d ρ2
def dIxV (i : Nat) (tb : DE)  (ρ : List Sl) (Q : PyData → List Sl → Prop) : Prop := bnd (slotD ρ i) fun _ => tb ρ fun b ρ2 => bnd (slotD ρ2 i) fun a => bnd (ixD a b) fun d => Q d ρ2
def dCb (g : List PyData → (PyData → Prop) → Prop) (u : DF)  (ρ : List Sl) (Q : PyData → List Sl → Prop) : Prop := u ρ fun ds ρ' => g ds fun d => Q d ρ'
theorem ths1 {F : Addr → Prop} {H : Hp} {vs : List V} {d : PyData} (t : ThVs F H vs [d]) : ∃ v, vs = [v] ∧ ThV F H v d := by
  cases t with
  | cons x y => cases y; exact ⟨_, rfl, x⟩
def lenD : PyData → Option Nat
  | .list xs => some xs.length
  | .tuple xs => some xs.length
  | _ => none
def gLen  (ds : List PyData) (Q : PyData → Prop) : Prop := match ds with
  | [d] => bnd (lenD d) fun n => Q (.int n)
  | _ => False
def dLenV (i : Nat)  (ρ : List Sl) (Q : PyData → List Sl → Prop) : Prop := bnd (slotD ρ i) fun a => bnd (lenD a) fun n => Q (.int n) ρ
def gI2 (f : Int → Int → Int)  (ds : List PyData) (Q : PyData → Prop) : Prop := match ds with
  | [.int i, .int j] => Q (.int (f i j))
  | _ => False
def gMin := gI2 fun i j => if j < i then j else i
def gMax := gI2 fun i j => if j > i then j else i
def gAbs  (ds : List PyData) (Q : PyData → Prop) : Prop := match ds with
  | [.int i] => Q (.int (if i < 0 then -i else i))
  | _ => False
def gInt  (ds : List PyData) (Q : PyData → Prop) : Prop := match ds with
  | [.int i] => Q (.int i)
  | [.bool b] => Q (.int (if b then 1 else 0))
  | _ => False
def boolsD : List PyData → Option (List Bool)
  | [] => some []
  | .bool b :: r => (boolsD r).map (b :: ·)
  | _ :: _ => none
def gBs (f : List Bool → Bool)  (ds : List PyData) (Q : PyData → Prop) : Prop := match ds with
  | [.list xs] => bnd (boolsD xs) fun bs => Q (.bool (f bs))
  | _ => False
def gAll := gBs fun bs => bs.all id
def gAny := gBs fun bs => bs.any id
def itemsD : PyData → Option (List PyData)
  | .list xs => some xs
  | .tuple xs => some xs
  | _ => none
def dListV (i : Nat)  (ρ : List Sl) (Q : List PyData → List Sl → Prop) : Prop := bnd (slotD ρ i) fun a => bnd (itemsD a) fun ds => Q ds ρ
def dList (ta : DE)  (ρ : List Sl) (Q : List PyData → List Sl → Prop) : Prop := ta ρ fun a ρ' => bnd (itemsD a) fun ds => Q ds ρ'
abbrev DO := List Sl → (Option Int → List Sl → Prop) → Prop
def oN  (ρ : List Sl) (Q : Option Int → List Sl → Prop) : Prop := Q none ρ
def oS (t : DE)  (ρ : List Sl) (Q : Option Int → List Sl → Prop) : Prop := t ρ fun d ρ' => match d with
  | .int i => Q (some i) ρ'
  | _ => False
def cutD (xs : List PyData) (lo hi : Option Int) : List PyData := (xs.drop (HT.sIx xs.length 0 lo)).take (HT.sIx xs.length xs.length hi - HT.sIx xs.length 0 lo)
def listD : PyData → Option (List PyData)
  | .list xs => some xs
  | _ => none
def dSlV (i : Nat) (tl th : DO)  (ρ : List Sl) (Q : List PyData → List Sl → Prop) : Prop := bnd (slotD ρ i) fun _ => tl ρ fun lo ρ1 => th ρ1 fun hi ρ2 => bnd (slotD ρ2 i) fun a => bnd (listD a) fun xs => Q (cutD xs lo hi) ρ2
def dSl (ta : DE) (tl th : DO)  (ρ : List Sl) (Q : List PyData → List Sl → Prop) : Prop := ta ρ fun a ρ0 => tl ρ0 fun lo ρ1 => th ρ1 fun hi ρ2 => bnd (listD a) fun xs => Q (cutD xs lo hi) ρ2
def dCat (ta tb : DE)  (ρ : List Sl) (Q : List PyData → List Sl → Prop) : Prop := ta ρ fun a ρ1 => tb ρ1 fun b ρ2 => bnd (listD a) fun xs => bnd (listD b) fun ys => xs.length + ys.length ≤ 100000 ∧ Q (xs ++ ys) ρ2
def repD (xs : List PyData) (n : Nat) : List PyData := (List.replicate n xs).flatten
def dRep (ta tb : DE)  (ρ : List Sl) (Q : List PyData → List Sl → Prop) : Prop := ta ρ fun a ρ1 => tb ρ1 fun b ρ2 => match b with
  | .int k => bnd (listD a) fun xs => (-1000 ≤ k ∧ k ≤ 1000 ∧ xs.length ≤ 100) ∧ Q (repD xs k.toNat) ρ2
  | _ => False
def tyD : PyData → Option String
  | .none => some "NoneType"
  | .bool _ => some "bool"
  | .int _ => some "int"
  | .str _ => some "str"
  | .list _ => some "list"
  | .tuple _ => some "tuple"
  | .dict _ => some "dict"
def isiD (T : String) (d : PyData) : Bool := match tyD d with
  | some t => t == T || (T == "int" && t == "bool")
  | none => false
def dIsiV (i : Nat) (T : String)  (ρ : List Sl) (Q : PyData → List Sl → Prop) : Prop := bnd (slotD ρ i) fun a => Q (.bool (isiD T a)) ρ
def dIsi (ta : DE) (T : String)  (ρ : List Sl) (Q : PyData → List Sl → Prop) : Prop := ta ρ fun a ρ' => Q (.bool (isiD T a)) ρ'
end
inductive Md where
  | sh
  | bo
  | hd
  | b2
  | bd
def rowsL : List PyData → Option (List (List PyData))
  | [] => some []
  | .list ds :: r => (rowsL r).map (ds :: ·)
  | _ => none
def rowsD : PyData → Option (List (List PyData))
  | .list xs => rowsL xs
  | _ => none
abbrev lls (dss : List (List PyData)) : List PyData := dss.map PyData.list
theorem rowsL_eq {xs : List PyData} {dss : List (List PyData)} (h : rowsL xs = some dss) : xs = lls dss := by
  induction xs generalizing dss with
  | nil => cases h; rfl
  | cons x r ih =>
    cases x with
    | list ds =>
      have h' : (rowsL r).map (ds :: ·) = some dss := h
      cases q : rowsL r with
      | none => rw [q] at h'; cases h'
      | some ess =>
        rw [q] at h'
        cases h'
        rw [ih q]; rfl
    | _ => cases h
theorem rowsD_eq {d : PyData} {dss : List (List PyData)} (h : rowsD d = some dss) : d = .list (lls dss) := by
  cases d with
  | list xs => rw [rowsL_eq h]
  | _ => cases h
theorem th_rows {F : Addr → Prop} {H : Hp} {dss : List (List PyData)} {vs : List V} (t : ThVs F H vs (lls dss)) : ∃ as : List Addr, vs = as.map V.ref ∧ Rws F F H as dss := by
  induction dss generalizing vs with
  | nil => cases t; exact ⟨[], rfl, .nil⟩
  | cons ds dss ih =>
    cases t with
    | cons x y =>
      obtain ⟨as, rfl, r⟩ := ih y
      cases x with
      | lst n e z => exact ⟨_ :: as, rfl, .cons n e z r⟩
def slot2 (ρ : List Sl) (i : Nat) : Option (List (List PyData)) := match ρ[i]? with
  | some (.o2 dss) => some dss
  | some (.b2 dss) => some dss
  | some (.sh d) => rowsD d
  | _ => none
def ArgR (F : Addr → Prop) (hand : Option (Addr × Addr)) (H : Hp) (v : V) (d : PyData) : Md → Prop
  | .sh => ThV F H v d
  | .bo => ∃ a vs ds, v = .ref a ∧ d = .list ds ∧ (∀ q, hand = some q → a ≠ q.1) ∧ H a = some (.lst vs) ∧ ThVs F H vs ds
  | .hd => ∃ q, hand = some q ∧ v = .ref q.1
  | .b2 => ∃ a as dss, v = .ref a ∧ d = .list (lls dss) ∧ (∀ q, hand = some q → a ≠ q.1) ∧ H a = some (.lst (as.map V.ref)) ∧ Rws (fun b => ∀ q, hand = some q → b ≠ q.1) F H as dss
  | .bd => ThV (fun b => ∀ q, hand = some q → b ≠ q.1) H v d
inductive ArgsR (F : Addr → Prop) (hand : Option (Addr × Addr)) (H : Hp) : List Md → List V → List PyData → Prop
  | nil : ArgsR F hand H [] [] []
  | cons {m v d ms vs ds} : ArgR F hand H v d m → ArgsR F hand H ms vs ds → ArgsR F hand H (m :: ms) (v :: vs) (d :: ds)
abbrev DSp := List PyData → (PyData → Prop) → Prop
def spD (ms : List Md) (sp : DSp) : Sp := fun vs H Q _ => ∃ F hand ds Qd, ((∀ b, H b = none → F b) ∧ ∀ b xs, H b = some (.tup xs) → F b) ∧ (∀ q, hand = some q → ¬ F q.1) ∧ Hq hand H ∧ ArgsR F hand H ms vs ds ∧ sp ds Qd ∧ ∀ d v H', Qd d → ThV F H' v d → Kq hand H H' → Hq hand H' → Q v H'
inductive Ar where
  | v (d : PyData)
  | s (i : Nat)
  | w (d : PyData)
inductive ArV (σ : St) (P : List Pe) : List V → List Ar → Prop
  | nil : ArV σ P [] []
  | v {v d vs as} : Pe.v v d ∈ P → ArV σ P vs as → ArV σ P (v :: vs) (.v d :: as)
  | s {i v vs as} : σ[i]? = some (some v) → ArV σ P vs as → ArV σ P (v :: vs) (.s i :: as)
  | w {v d vs as} : Pe.w v d ∈ P → ArV σ P vs as → ArV σ P (v :: vs) (.w d :: as)
abbrev DA := List Sl → (List Ar → List Sl → Prop) → Prop
def aOf (C : DC) (t : DA) : TA := fun σ H Q => ∃ ρ P Qd, Rel C ρ σ P H ∧ t ρ Qd ∧ ∀ vs as ρ' P' H', Rel C ρ' σ P' H' → (∀ p ∈ P, p ∈ P') → ArV σ P' vs as → Qd as ρ' → Q vs H'
def isSl (ρ : List Sl) (i : Nat) : Bool := match ρ[i]? with
  | some .no => false
  | none => false
  | _ => true
section
variable {X : Cx} {C : DC} {e : Expr} {es : List Expr} {t : DE} {u : DA}
def aNil  (ρ : List Sl) (Q : List Ar → List Sl → Prop) : Prop := Q [] ρ
def aV (t : DE) (u : DA)  (ρ : List Sl) (Q : List Ar → List Sl → Prop) : Prop := t ρ fun d ρ1 => u ρ1 fun as ρ2 => Q (.v d :: as) ρ2
def aS (i : Nat) (u : DA)  (ρ : List Sl) (Q : List Ar → List Sl → Prop) : Prop := isSl ρ i = true ∧ u ρ fun as ρ2 => Q (.s i :: as) ρ2
theorem da_nil : PA X [] (aOf C aNil) := PA.wk pa_nil fun _ _ _ zz31 => el3 zz31 fun _ _ _ R ht k => k [] [] _ _ _ R (fun _ h => h) .nil ht
theorem da_v (ha : PE X e (eOf C t)) (hr : PA X es (aOf C u)) (hs : starEach (e :: es) X.env = (false, eval e X.env) :: starEach es X.env := by rfl) : PA X (e :: es) (aOf C (aV t u)) := PA.wk (pa_cons ha hr hs) fun _ _ _ zz32 => el3 zz32 fun ρ P _ R ht k =>
  ⟨ρ, P, _, R, ht, fun _ _ ρ1 _ R1 h1 => ⟨ρ1, _, _, R1, h1, fun _ _ _ _ _ R2 s2 p2 h2 => k _ _ _ _ _ R2 (fun p hp => s2 p (List.mem_cons_of_mem _ hp)) (.v (s2 _ List.mem_cons_self) p2) h2⟩⟩
theorem slot_at {col : Addr → Nat} {ρ : List Sl} {σ : St} {P : List Pe} {H : Hp} {i : Nat} (r : RelC C col ρ σ P H) (h : isSl ρ i = true) : ∃ v, σ[i]? = some (some v) := by
  unfold isSl at h
  split at h
  · cases h
  · cases h
  · rename_i s n1 n2
    cases q : ρ[i]? with
    | none => exact absurd q n2
    | some s =>
      have z := r.sl i s q
      cases s with
      | no => exact absurd q n1
      | sh d => obtain ⟨v, e, _⟩ := z; exact ⟨v, join_some e⟩
      | ow d => obtain ⟨a, _, e, _⟩ := z; exact ⟨_, join_some e⟩
      | bo d => obtain ⟨a, _, e, _⟩ := z; exact ⟨_, join_some e⟩
      | hd => obtain ⟨q, _, e⟩ := z; exact ⟨_, join_some e⟩
      | o2 d => obtain ⟨a, _, e, _⟩ := z; exact ⟨_, join_some e⟩
      | b2 d => obtain ⟨a, _, e, _⟩ := z; exact ⟨_, join_some e⟩
      | di f ks => obtain ⟨a, e, _⟩ := z; exact ⟨_, join_some e⟩
      | dm f ks => obtain ⟨a, e, _⟩ := z; exact ⟨_, join_some e⟩
      | bd d => obtain ⟨v, e, _⟩ := z; exact ⟨v, join_some e⟩
      | ot d => obtain ⟨v, e, _⟩ := z; exact ⟨v, join_some e⟩
theorem RelC.le {col : Addr → Nat} {ρ : List Sl} {σ : St} {P : List Pe} {H : Hp} (r : RelC C col ρ σ P H) {v : V} {d : PyData} (t : ThV (Le C) C.H0 v d) : ThV (Le C) H v d := t.mv fun b o g e => ⟨g, r.kq b o e g.2⟩
theorem RelC.slot2 {col : Addr → Nat} {ρ : List Sl} {σ : St} {P : List Pe} {H : Hp} (r : RelC C col ρ σ P H) {i : Nat} {dss : List (List PyData)} (h : slot2 ρ i = some dss) : ∃ a as, σ[i]? = some (some (.ref a)) ∧ (∀ q, C.hand = some q → a ≠ q.1) ∧ H a = some (.lst (as.map V.ref)) ∧ Rws (fun b => ∀ q, C.hand = some q → b ≠ q.1) (Z col) H as dss := by
  unfold My.slot2 at h
  split at h
  · rename_i dss' e
    cases h
    obtain ⟨a, as, e1, c, e2, nd, t⟩ := r.sl i _ e
    exact ⟨a, as, join_some e1, r.notH (by have := c.1; lia), e2, t.mv (fun b o z e => ⟨z, e⟩) fun b o g e => ⟨r.notH (by have := g.1; lia), e⟩⟩
  · rename_i dss' e
    cases h
    obtain ⟨a, as, e1, c, e2, t⟩ := r.sl i _ e
    exact ⟨a, as, join_some e1, c.2, e2, t.mv (fun b o z e => ⟨z, e⟩) fun b o g e => ⟨g.2, e⟩⟩
  · rename_i d e
    cases rowsD_eq h
    obtain ⟨v, e1, t⟩ := r.sl i _ e
    cases t with
    | lst n e2 t =>
      obtain ⟨as, rfl, t2⟩ := th_rows t
      exact ⟨_, as, join_some e1, r.notH (by rw [show col _ = 0 from n]; decide), e2, t2.mv (fun b o z e => ⟨z, e⟩) fun b o g e => ⟨r.notH (by rw [show col b = 0 from g]; decide), e⟩⟩
  · cases h
theorem da_s {i : Nat} (ha : PE X e (tVar i)) (hr : PA X es (aOf C u)) (hs : starEach (e :: es) X.env = (false, eval e X.env) :: starEach es X.env := by rfl) : PA X (e :: es) (aOf C (aS i u)) := PA.wk (pa_cons ha hr hs) fun σ H Q zz33 => el3 zz33 fun ρ P Qd zz34 ht k => zz34.elim fun col r => by
  obtain ⟨v, ev⟩ := slot_at r ht.1
  exact ⟨v, ev, ρ, P, _, ⟨col, r⟩, ht.2, fun _ _ _ _ _ R2 s2 p2 h2 => k _ _ _ _ _ R2 s2 (.s ev p2) h2⟩
def arD (ρ : List Sl) (m : Md) (a : Ar) : Option PyData := match m, a with
  | .sh, .v d => some d
  | .bo, .v (.list ds) => some (.list ds)
  | .bo, .s i => (slotD ρ i).bind fun d => (listD d).map PyData.list
  | .hd, .s i => match ρ[i]? with
    | some .hd => some .none
    | _ => none
  | .b2, .s i => (slot2 ρ i).map fun dss => .list (lls dss)
  | .bd, .v d => some d
  | .bd, .w d => some d
  | .bd, .s i => match ρ[i]? with
    | some (.bd d) => some d
    | some (.sh d) => some d
    | _ => none
  | _, _ => none
def arsD (ρ : List Sl) : List Md → List Ar → Option (List PyData)
  | [], [] => some []
  | m :: ms, a :: as => (arD ρ m a).bind fun d => (arsD ρ ms as).map (d :: ·)
  | _, _ => none
theorem listD_eq {d : PyData} {xs : List PyData} (h : listD d = some xs) : d = .list xs := by
  cases d <;> cases h
  rfl
theorem ar_ok {col : Addr → Nat} {ρ : List Sl} {σ : St} {P : List Pe} {H : Hp} (r : RelC C col ρ σ P H) {m : Md} {v : V} {d : PyData} {a : Ar} (ha : match a with | .v d => Pe.v v d ∈ P | .s i => σ[i]? = some (some v) | .w d => Pe.w v d ∈ P) (h : arD ρ m a = some d) : ArgR (Z col) C.hand H v d m := by
  unfold arD at h
  split at h
  · cases h; exact r.pd _ ha
  · cases h
    have z : ThV (Z col) H v (.list _) := r.pd _ ha
    cases z with
    | lst za e t => exact ⟨_, _, _, rfl, rfl, r.notH (by rw [show col _ = 0 from za]; decide), e, t⟩
  · rename_i i
    have ha' : σ[i]? = some (some v) := ha
    cases q : slotD ρ i with
    | none => rw [q] at h; cases h
    | some d' =>
      rw [q] at h
      cases q2 : listD d' with
      | none =>
        have h' : (listD d').map PyData.list = some d := h
        rw [q2] at h'; cases h'
      | some xs =>
        have h' : (listD d').map PyData.list = some d := h
        rw [q2] at h'
        cases h'
        have := listD_eq q2
        subst this
        unfold slotD at q
        split at q
        · rename_i d'' e
          cases q
          obtain ⟨v', e1, t⟩ := r.sl i _ e
          rw [join_some e1] at ha'
          cases ha'
          cases t with
          | lst za e t => exact ⟨_, _, _, rfl, rfl, r.notH (by rw [show col _ = 0 from za]; decide), e, t⟩
        · rename_i ds e
          cases q
          obtain ⟨a, vs, e1, c, _, e2, t⟩ := r.sl i _ e
          rw [join_some e1] at ha'
          cases ha'
          exact ⟨_, _, _, rfl, rfl, r.notH (by lia), e2, t⟩
        · rename_i ds e
          cases q
          obtain ⟨a, vs, e1, c, n, e2, t⟩ := r.sl i _ e
          rw [join_some e1] at ha'
          cases ha'
          exact ⟨_, _, _, rfl, rfl, n, e2, t⟩
        · cases q
  · rename_i i
    have ha' : σ[i]? = some (some v) := ha
    split at h
    · rename_i e
      cases h
      obtain ⟨q, e1, e2⟩ := r.sl i _ e
      rw [join_some e2] at ha'
      cases ha'
      exact ⟨q, e1, rfl⟩
    · cases h
  · rename_i i
    have ha' : σ[i]? = some (some v) := ha
    cases q : slot2 ρ i with
    | none => rw [q] at h; cases h
    | some dss =>
      rw [q] at h
      cases h
      obtain ⟨a, as, e1, n, e2, t⟩ := r.slot2 q
      rw [e1] at ha'
      cases ha'
      exact ⟨a, as, dss, rfl, rfl, n, e2, t⟩
  · cases h
    exact ThV.mv (fun b o z e => ⟨r.notH (by rw [show col b = 0 from z]; decide), e⟩) (r.pd _ ha)
  · cases h
    exact ThV.mv (fun b o z e => ⟨z.2, e⟩) (r.le (r.pd _ ha))
  · rename_i i
    have ha' : σ[i]? = some (some v) := ha
    split at h
    · rename_i e
      cases h
      obtain ⟨v', e1, t⟩ := r.sl i _ e
      rw [join_some e1] at ha'
      cases ha'
      exact ThV.mv (fun b o z e => ⟨z.2, e⟩) (r.le t)
    · rename_i e
      cases h
      obtain ⟨v', e1, t⟩ := r.sl i _ e
      rw [join_some e1] at ha'
      cases ha'
      exact ThV.mv (fun b o z e => ⟨r.notH (by rw [show col b = 0 from z]; decide), e⟩) t
    · cases h
  · cases h
theorem ars_ok {col : Addr → Nat} {ρ : List Sl} {σ : St} {P : List Pe} {H : Hp} (r : RelC C col ρ σ P H) : ∀ {ms : List Md} {vs : List V} {ds : List PyData} {as : List Ar}, ArV σ P vs as → arsD ρ ms as = some ds → ArgsR (Z col) C.hand H ms vs ds
  | [], _, _, _, .nil, h => by cases h; exact .nil
  | [], _, _, _, .v _ _, h => by cases h
  | [], _, _, _, .s _ _, h => by cases h
  | [], _, _, _, .w _ _, h => by cases h
  | _ :: _, _, _, _, .nil, h => by cases h
  | m :: ms, _, ds, _, .v (d := d0) (as := as) hm t, h => by
    have h' : ((arD ρ m (.v d0)).bind fun d => (arsD ρ ms as).map (d :: ·)) = some ds := h
    cases q : arD ρ m (.v d0) with
    | none => rw [q] at h'; cases h'
    | some d =>
      rw [q] at h'
      have h2 : (arsD ρ ms as).map (d :: ·) = some ds := h'
      cases q2 : arsD ρ ms as with
      | none => rw [q2] at h2; cases h2
      | some ds' =>
        rw [q2] at h2
        cases h2
        exact .cons (ar_ok r (a := .v d0) hm q) (ars_ok r t q2)
  | m :: ms, _, ds, _, .s (i := i) (as := as) hm t, h => by
    have h' : ((arD ρ m (.s i)).bind fun d => (arsD ρ ms as).map (d :: ·)) = some ds := h
    cases q : arD ρ m (.s i) with
    | none => rw [q] at h'; cases h'
    | some d =>
      rw [q] at h'
      have h2 : (arsD ρ ms as).map (d :: ·) = some ds := h'
      cases q2 : arsD ρ ms as with
      | none => rw [q2] at h2; cases h2
      | some ds' =>
        rw [q2] at h2
        cases h2
        exact .cons (ar_ok r (a := .s i) hm q) (ars_ok r t q2)
  | m :: ms, _, ds, _, .w (d := d0) (as := as) hm t, h => by
    have h' : ((arD ρ m (.w d0)).bind fun d => (arsD ρ ms as).map (d :: ·)) = some ds := h
    cases q : arD ρ m (.w d0) with
    | none => rw [q] at h'; cases h'
    | some d =>
      rw [q] at h'
      have h2 : (arsD ρ ms as).map (d :: ·) = some ds := h'
      cases q2 : arsD ρ ms as with
      | none => rw [q2] at h2; cases h2
      | some ds' =>
        rw [q2] at h2
        cases h2
        exact .cons (ar_ok r (a := .w d0) hm q) (ars_ok r t q2)
def dCall (ms : List Md) (sp : DSp) (u : DA)  (ρ : List Sl) (Q : PyData → List Sl → Prop) : Prop := u ρ fun as ρ' => bnd (arsD ρ' ms as) fun ds => sp ds fun d => Q d ρ'
theorem pd_call {ms : List Md} {sp : DSp} {E : XK} (h : PE X e (tCall (spD ms sp) [] E (aOf C u))) : PE X e (eOf C (dCall ms sp u)) := PE.wk h fun σ H Q zz35 => el3 zz35 fun ρ P Qd R ht k => ⟨ρ, P, _, R, ht, fun vs as ρ' P' H' zz36 s p q => zz36.elim fun col r => by
  obtain ⟨ds, hds, q⟩ := bnd_of q
  rw [List.append_nil]
  obtain ⟨col, r, tp⟩ := r.norm
  refine ⟨Z col, C.hand, ds, _, ⟨r.fresh, tp⟩, fun q hq z => ?_, r.hq, ars_ok r p hds, q, fun d v H2 q2 t2 k2 h2 => k _ _ _ _ ⟨col, (((r.mv k2 h2).sub s)).push t2⟩ q2⟩
  have := r.hnd q hq
  rw [show col q.1 = 0 from z] at this
  cases this⟩
end
end My
namespace My
open PySem L2
structure ItOk (C : DC) (J : It) (xs : List PyData) (P : List Pe) : Prop where
  go : ∀ {i : Nat} {ρ : List Sl} {σ : St} {P' : List Pe} {H : Hp}, (∀ p ∈ P, p ∈ P') → Rel C ρ σ P' H → i < xs.length → J.go i H
  yld : ∀ {i : Nat} {ρ : List Sl} {σ : St} {P' : List Pe} {H H' : Hp} {x : V} {d : PyData}, (∀ p ∈ P, p ∈ P') → Rel C ρ σ P' H → xs[i]? = some d → J.yld i H x H' → Rel C ρ σ (.v x d :: P') H'
  stop : ∀ {ρ : List Sl} {σ : St} {P' : List Pe} {H : Hp}, (∀ p ∈ P, p ∈ P') → Rel C ρ σ P' H → J.stop xs.length H
def iOf (C : DC) (t : DF) : TI := fun σ H R => ∃ ρ P Qd, Rel C ρ σ P H ∧ t ρ Qd ∧ ∀ xs ρ' P' H' J, Rel C ρ' σ P' H' → (∀ p ∈ P, p ∈ P') → ItOk C J xs P' → Qd xs ρ' → R J H'
section
variable {X : Cx} {C : DC} {tg e : Expr} {t : DE} {u : DF} {pos : Pos}
theorem PI.wk {tg e : Expr} {w w' : TI} (h : PI X tg e w) (f : ∀ σ H R, w' σ H R → w σ H R) : PI X tg e w' := fun pins s σ H R I q => h pins s σ H R I (f σ H R q)
def dIl (t : DE)  (ρ : List Sl) (Q : List PyData → List Sl → Prop) : Prop := t ρ fun d ρ' => bnd (listD d) fun xs => Q xs ρ'
def tupD : PyData → Option (List PyData)
  | .tuple xs => some xs
  | _ => none
def dIt (t : DE)  (ρ : List Sl) (Q : List PyData → List Sl → Prop) : Prop := t ρ fun d ρ' => bnd (tupD d) fun xs => Q xs ρ'
def dIv (i : Nat)  (ρ : List Sl) (Q : List PyData → List Sl → Prop) : Prop := match ρ[i]? with
  | some (.sh (.list xs)) => Q xs ρ
  | some (.ow xs) => Q xs (ρ.set i (.sh (.list xs)))
  | some (.bo xs) => Q xs ρ
  | _ => False
def rngD (lo : Int) (n : Nat) : List PyData := (List.range n).map fun i => .int (lo + ((i : Nat) : Int))
theorem rngD_get {lo : Int} {n i : Nat} {d : PyData} (h : (rngD lo n)[i]? = some d) : i < n ∧ d = .int (lo + i) := by
  unfold rngD at h
  rw [List.getElem?_map] at h
  by_cases hi : i < n
  · rw [List.getElem?_range hi] at h
    cases h
    exact ⟨hi, rfl⟩
  · rw [List.getElem?_eq_none (by rw [List.length_range]; lia)] at h
    cases h
theorem it_rng {lo : Int} {n : Nat} {P : List Pe} : ItOk C (Itr lo n) (rngD lo n) P where
  go := fun {i _ _ _ _} _ _ hi => by
    have : (rngD lo n).length = n := by unfold rngD; rw [List.length_map, List.length_range]
    show i < n
    lia
  yld := fun {i ρ σ P' H H' x d} _ R hi y => by
    obtain ⟨e1, e2⟩ := y
    subst e1 e2
    obtain ⟨_, e3⟩ := rngD_get hi
    subst e3
    obtain ⟨col, r⟩ := R
    exact ⟨col, r.push (.int _)⟩
  stop := fun _ _ => by
    have : (rngD lo n).length = n := by unfold rngD; rw [List.length_map, List.length_range]
    show n ≤ (rngD lo n).length
    lia
def dRng1 (u : DF)  (ρ : List Sl) (Q : List PyData → List Sl → Prop) : Prop := u ρ fun ds ρ' => match ds with
  | [.int j] => (-(2 ^ 62) ≤ j ∧ j < 2 ^ 62) ∧ Q (rngD 0 j.toNat) ρ'
  | _ => False
theorem di_rng1 (h : PI X tg e (iRng1 (vOf C u))) : PI X tg e (iOf C (dRng1 u)) := PI.wk h fun _ _ _ zz7 => el3 zz7 fun ρ P _ R ht k => ⟨ρ, P, _, R, ht, fun vs ds ρ' P' H' zz8 s p q => zz8.elim fun col r => by
  split at q
  · have t := p.th r
    obtain ⟨v, rfl, t1⟩ := ths1 t
    cases t1
    exact ⟨_, rfl, q.1.1, q.1.2, k _ _ P' _ _ ⟨col, r⟩ s it_rng q.2⟩
  · exact q.elim⟩
def dRng2 (u : DF)  (ρ : List Sl) (Q : List PyData → List Sl → Prop) : Prop := u ρ fun ds ρ' => match ds with
  | [.int i, .int j] => (-(2 ^ 62) ≤ i ∧ i < 2 ^ 62 ∧ -(2 ^ 62) ≤ j ∧ j < 2 ^ 62) ∧ Q (rngD i (j - i).toNat) ρ'
  | _ => False
def enumD (xs : List PyData) : List PyData := xs.zipIdx.map fun p => .tuple [.int (p.2 : Nat), p.1]
def dEnum (t : DE)  (ρ : List Sl) (Q : List PyData → List Sl → Prop) : Prop := t ρ fun d ρ' => bnd (listD d) fun xs => Q (enumD xs) ρ'
end
def dCompL (tt : DT) (te : DE) (ρ : List Sl) (Q : List PyData → Prop) : List PyData → List PyData → Prop
  | [], acc => Q acc
  | x :: r, acc => tt (ρ ++ [.sh x]) fun b ρ' => ρ' = ρ ++ [.sh x] ∧ if b = true then te (ρ ++ [.sh x]) fun d ρ'' => ρ'' = ρ ++ [.sh x] ∧ dCompL tt te ρ Q r (acc ++ [d]) else dCompL tt te ρ Q r acc
def dComp (j : Nat) (it : DF) (tt : DT) (te : DE)  (ρ : List Sl) (Q : List PyData → List Sl → Prop) : Prop := it ρ fun xs ρ1 => (ρ1.length = j ∧ xs.length ≤ 1000) ∧ dCompL tt te ρ1 (fun ds => Q ds ρ1) xs []
def dTrue  (ρ : List Sl) (Q : Bool → List Sl → Prop) : Prop := Q true ρ
section
variable {X : Cx} {C : DC}
theorem PTs.wk {es : List Expr} {t t' : TT} (h : PTs X es t) (f : ∀ σ H Q, t' σ H Q → t σ H Q) : PTs X es t' := fun pins s σ H Q I q => h pins s σ H Q I (f σ H Q q)
theorem dts_nil : PTs X [] (cOf C dTrue) := PTs.wk pts_nil fun _ _ _ zz13 => el3 zz13 fun _ _ _ R ht k => k _ _ _ R ht
theorem Rel.ext {ρ : List Sl} {σ : St} {P : List Pe} {H : Hp} {x : V} {d : PyData} (R : Rel C ρ σ (.v x d :: P) H) : Rel C (ρ ++ [.sh d]) (σ ++ [some x]) P H := by
  obtain ⟨col, r⟩ := R
  have t : ThV (Z col) H x d := r.pd _ List.mem_cons_self
  have r := r.sub fun _ h => List.mem_cons_of_mem _ h
  refine ⟨col, { r with sl := fun i s e => ?_, len := by rw [List.length_append, List.length_append, r.len]; rfl }⟩
  by_cases hi : i < ρ.length
  · rw [List.getElem?_append_left hi] at e
    rw [List.getElem?_append_left (by rw [← r.len]; exact hi)]
    exact r.sl i s e
  · rw [List.getElem?_append_right (by lia)] at e
    rw [List.getElem?_append_right (by rw [← r.len]; lia), ← r.len]
    match q : i - ρ.length with
    | 0 =>
      rw [q] at e
      cases e
      exact ⟨x, rfl, t⟩
    | n + 1 => rw [q] at e; simp at e
theorem RelC.unext {col : Addr → Nat} {ρ ρ' : List Sl} {σ σ' : St} {P : List Pe} {H : Hp} (r : RelC C col (ρ ++ ρ') (σ ++ σ') P H) (hl : ρ.length = σ.length) : RelC C col ρ σ P H := by
  refine { r with sl := fun i s e => ?_, len := hl }
  have hi := (List.getElem?_eq_some_iff.mp e).1
  have := r.sl i s (by rw [List.getElem?_append_left hi]; exact e)
  rw [List.getElem?_append_left (by lia)] at this
  exact this
theorem ThVs.snoc {F : Addr → Prop} {H : Hp} {vs : List V} {ds : List PyData} {v : V} {d : PyData} (t : ThVs F H vs ds) (x : ThV F H v d) : ThVs F H (vs ++ [v]) (ds ++ [d]) := t.append (.cons x .nil)
theorem pad_eq {σ : St} {n j : Nat} {x : V} (h1 : n = σ.length + 1) (h2 : j = σ.length) : (padS n j σ).set j (some x) = σ ++ [some x] := by
  subst h1 h2
  unfold padS
  rw [List.take_of_length_le (by simp), List.set_append_right _ _ (Nat.le_refl _), List.set_append_right _ _ (Nat.le_refl _)]
  simp
theorem comp_rd {it : DF} {tt : DT} {te : DE} {n j : Nat} (hn : n = j + 1) {σ : St} {H : Hp} {Q : VK} (h : fOf C (dComp j it tt te) σ H Q) : tComp (iOf C it) n j (fun _ => cOf C tt) (fun _ => eOf C te) σ H Q := by
  obtain ⟨ρ, P, Qd, R, ht, k⟩ := h
  refine ⟨ρ, P, _, R, ht, fun xs ρ1 P1 H1 J R1 s1 io q => ?_⟩
  obtain ⟨⟨hj, hx⟩, q⟩ := q
  have lz : ∀ m, m ≤ 1000 → m ≤ sizeLine := fun m hm => Nat.le_of_lt (small1000 hm)
  refine ⟨fun i m ys H' => m = xs.length - i ∧ i ≤ xs.length ∧ ys.length ≤ i ∧ ∃ acc, Rel C ρ1 σ (.s ys acc :: P1) H' ∧ dCompL tt te ρ1 (fun ds => Qd ds ρ1) (xs.drop i) acc, ⟨xs.length, by simp, Nat.zero_le _, Nat.le_refl _, [], ?_, q⟩, ?_⟩
  · obtain ⟨col, r⟩ := R1
    exact ⟨col, r.add (x := .s [] []) .nil⟩
  rintro i m ys H2 ⟨rfl, hi, hy, acc, R2, q2⟩
  refine ⟨lz _ (by lia), ?_⟩
  have sub2 : ∀ p ∈ P1, p ∈ Pe.s ys acc :: P1 := fun _ h => List.mem_cons_of_mem _ h
  have hlen : ρ1.length = σ.length := by obtain ⟨col, r⟩ := R2; exact r.len
  by_cases hlt : i < xs.length
  · rw [List.drop_eq_getElem_cons hlt] at q2
    refine .inr ⟨io.go sub2 R2 hlt, fun ys' H' => ys'.length ≤ i + 1 ∧ ∃ acc, Rel C ρ1 σ (.s ys' acc :: P1) H' ∧ dCompL tt te ρ1 (fun ds => Qd ds ρ1) (xs.drop (i + 1)) acc, fun ys' H' zz14 => zz14.elim fun h1 h2 => ⟨xs.length - (i + 1), by lia, rfl, hlt, h1, h2⟩, fun x H3 y a => ?_⟩
    have R3 := (io.yld sub2 R2 (List.getElem?_eq_getElem hlt) y).ext
    rw [pad_eq (by rw [hn, ← hlen, hj]) (by rw [← hlen, hj])]
    refine ⟨_, _, _, R3, q2, fun b ρ' H4 R4 q4 => ?_⟩
    obtain ⟨rfl, q4⟩ := q4
    cases b with
    | true =>
      refine iteT ⟨_, _, _, R4, by simpa using q4, fun v d ρ'' H5 R5 q5 => ?_⟩
      obtain ⟨rfl, q5⟩ := q5
      refine ⟨by rw [List.length_append]; simp; lia, acc ++ [d], ?_, q5⟩
      obtain ⟨col, r⟩ := R5
      have t1 : ThV (Z col) H5 v d := r.pd _ List.mem_cons_self
      have t2 : ThVs (Z col) H5 ys acc := r.pd _ (List.mem_cons_of_mem _ List.mem_cons_self)
      exact ⟨col, ((r.unext hlen).sub fun _ h => List.mem_cons_of_mem _ (List.mem_cons_of_mem _ h)).add (x := .s (ys ++ [v]) (acc ++ [d])) (t2.snoc t1)⟩
    | false =>
      refine iteF ⟨by lia, acc, ?_, by simpa using q4⟩
      obtain ⟨col, r⟩ := R4
      exact ⟨col, r.unext hlen⟩
  · have e : i = xs.length := by lia
    subst e
    rw [List.drop_length] at q2
    refine .inl ⟨io.stop sub2 R2, fun p hp => k _ _ _ _ _ ?_ hp q2⟩
    obtain ⟨col, r⟩ := R2
    exact ⟨col, r.sub fun p hp => List.mem_cons_of_mem _ (s1 p hp), r.pd _ List.mem_cons_self⟩
end
structure DEnds where
  nx : List Sl → Prop
  rt : PyData → Prop
  bk : List Sl → Prop := fun _ => False
  ct : List Sl → Prop := fun _ => False
  ro : Sl → Prop := fun _ => False
abbrev DS := DEnds → List Sl → Prop
def NewV (C : DC) (col : Addr → Nat) (H : Hp) (v : V) : Sl → Prop
  | .ow ds => ∃ a vs, v = .ref a ∧ C.H0 a = none ∧ col a ≠ 0 ∧ H a = some (.lst vs) ∧ ThVs (Z col) H vs ds
  | .o2 dss => ∃ a as, v = .ref a ∧ (C.H0 a = none ∧ col a ≠ 0) ∧ H a = some (.lst (as.map V.ref)) ∧ (a :: as).Nodup ∧ Rws (fun b => C.H0 b = none ∧ col b ≠ 0) (Z col) H as dss
  | .di false ks => ∃ a, v = .ref a ∧ C.H0 a = none ∧ H a = some (.dT (dEn ks))
  | _ => False
structure EndsR (C : DC) (P : List Pe) (Dd : DEnds) (D : Ends) : Prop where
  nx : ∀ ρ σ H, Rel C ρ σ P H → Dd.nx ρ → D.nx σ H
  rt : ∀ v d ρ σ H, Rel C ρ σ (.v v d :: P) H → Dd.rt d → D.rt v H
  bk : ∀ ρ σ H, Rel C ρ σ P H → Dd.bk ρ → D.bk σ H
  ct : ∀ ρ σ H, Rel C ρ σ P H → Dd.ct ρ → D.ct σ H
  ro : ∀ (v : V) (s : Sl) (ρ : List Sl) σ H col, RelC C col ρ σ P H → NewV C col H v s → Dd.ro s → D.rt v H
def sOf (C : DC) (t : DS) : TS := fun D σ H => ∃ ρ P Dd, Rel C ρ σ P H ∧ t Dd ρ ∧ EndsR C P Dd D
section
variable {X : Cx} {C : DC} {st : Stmt} {sts : List Stmt} {e : Expr} {t u : DS} {te : DE} {tf : DF} {c : DT} {pos : Pos}
theorem PS.wk {t t' : TS} (h : PS X st t) (f : ∀ D σ H, t' D σ H → t D σ H) : PS X st t' := fun pins s σ H D I q => h pins s σ H D I (f D σ H q)
theorem PSs.wk {t t' : TS} (h : PSs X sts t) (f : ∀ D σ H, t' D σ H → t D σ H) : PSs X sts t' := fun pins s σ H D I q => h pins s σ H D I (f D σ H q)
def dSeq (t u : DS)  (D : DEnds) (ρ : List Sl) : Prop := t { D with nx := u D } ρ
def dNext  (D : DEnds) (ρ : List Sl) : Prop := D.nx ρ
theorem dss_nil : PSs X [] (sOf C dNext) := PSs.wk pss_nil fun _ _ _ zz15 => el3 zz15 fun _ _ _ R ht E => E.nx _ _ _ R ht
theorem dss_one (h : PS X st (sOf C t)) : PSs X [st] (sOf C t) := pss_one h
def Go (f : List Sl → Prop) (ρ : List Sl) : Prop := f ρ
theorem go {f : List Sl → Prop} {ρ : List Sl} (h : f ρ) : Go f ρ := h
def dSeqG (t u : DS) (D : DEnds) (ρ : List Sl) : Prop := t { D with nx := Go (u D) } ρ
theorem dss_consG (h1 : PS X st (sOf C t)) (h2 : PSs X sts (sOf C u)) : PSs X (st :: sts) (sOf C (dSeqG t u)) := PSs.wk (pss_cons h1 h2) fun _ _ _ zz17 => el3 zz17 fun ρ P Dd R ht E => ⟨ρ, P, { Dd with nx := Go (u Dd) }, R, ht, ⟨fun ρ' _ _ R' h => ⟨ρ', P, Dd, R', h, E⟩, E.rt, E.bk, E.ct, E.ro⟩⟩
def dMid (t : DS)  (D : DEnds) (ρ : List Sl) : Prop := ∃ M : List Sl → Prop, t { D with nx := M } ρ ∧ ∀ ρ', M ρ' → D.nx ρ'
theorem ds_mid (h : PS X st (sOf C t)) : PS X st (sOf C (dMid t)) := PS.wk h fun _ _ _ ⟨ρ, P, Dd, R, ⟨M, h1, h2⟩, E⟩ => ⟨ρ, P, { Dd with nx := M }, R, h1, ⟨fun ρ' σ' H' R' h => E.nx ρ' σ' H' R' (h2 ρ' h), E.rt, E.bk, E.ct, E.ro⟩⟩
def dRet (te : DE)  (D : DEnds) (ρ : List Sl) : Prop := te ρ fun d _ => D.rt d
theorem ds_ret (h : PE X e (eOf C te)) : PS X (.Return (some e) pos) (sOf C (dRet te)) := PS.wk (ps_ret h) fun _ _ _ zz23 => el3 zz23 fun ρ P _ R ht E => ⟨ρ, P, _, R, ht, fun v d _ _ R' q => E.rt v d _ _ _ R' q⟩
def dIfS (c : DT) (t u : DS)  (D : DEnds) (ρ : List Sl) : Prop := c ρ fun b ρ' => if b = true then t D ρ' else u D ρ'
theorem ds_if {ce : Expr} {a b : List Stmt} (hc : PT X ce (cOf C c)) (ha : PSs X a (sOf C t)) (hb : PSs X b (sOf C u)) : PS X (.If ce a b pos) (sOf C (dIfS c t u)) := PS.wk (ps_if hc ha hb) fun _ _ _ zz26 => el3 zz26 fun ρ P Dd R ht E => ⟨ρ, P, _, R, ht, fun b ρ' _ R' q => by
  cases b with
  | true => exact iteT ⟨ρ', P, Dd, R', by simpa using q, E⟩
  | false => exact iteF ⟨ρ', P, Dd, R', by simpa using q, E⟩⟩
def dDrop (te : DE)  (D : DEnds) (ρ : List Sl) : Prop := te ρ fun _ ρ' => D.nx ρ'
def dSet (i : Nat) (te : DE)  (D : DEnds) (ρ : List Sl) : Prop := te ρ fun d ρ' => D.nx (ρ'.set i (.sh d))
theorem ds_set {i : Nat} (hp : PS X st (tAsg (eOf C te) (gName i))) : PS X st (sOf C (dSet i te)) := PS.wk hp fun _ _ _ zz28 => el3 zz28 fun ρ P _ R ht E => ⟨ρ, P, _, R, ht, fun v d ρ' H' zz29 q => zz29.elim fun col r => E.nx _ _ _ ⟨col, ((r.store (i := i) (r.pd _ List.mem_cons_self)).sub fun _ h => List.mem_cons_of_mem _ h)⟩ q⟩
def dOwn (i : Nat) (tf : DF)  (D : DEnds) (ρ : List Sl) : Prop := tf ρ fun ds ρ' => D.nx (ρ'.set i (.ow ds))
def dApp (i : Nat) (te : DE)  (D : DEnds) (ρ : List Sl) : Prop := match ρ[i]? with
  | some (.ow _) => te ρ fun d ρ' => match ρ'[i]? with
    | some (.ow ds) => ds.length ≤ 1000 ∧ D.nx (ρ'.set i (.ow (ds ++ [d])))
    | _ => False
  | _ => False
def dSetI (i : Nat) (te tk : DE)  (D : DEnds) (ρ : List Sl) : Prop := te ρ fun d ρ1 => match ρ1[i]? with
  | some (.ow _) => tk ρ1 fun k ρ2 => match ρ2[i]? with
    | some (.ow ds) => match k with
      | .int k => bnd (ixN ds.length k) fun j => D.nx (ρ2.set i (.ow (ds.set j d)))
      | _ => False
    | _ => False
  | _ => False
abbrev DG := PyData → List Sl → (List Sl → Prop) → Prop
def gOf (C : DC) (g : DG) : TG := fun v σ H Q => ∃ ρ P d Qd, Rel C ρ σ (.v v d :: P) H ∧ g d ρ Qd ∧ ∀ ρ' σ', Rel C ρ' σ' P H → Qd ρ' → Q σ' H
theorem PG.wk {tg : Expr} {g g' : TG} (h : PG X tg g) (f : ∀ v σ H Q, g' v σ H Q → g v σ H Q) : PG X tg g' := fun pins s σ H v u Q I r q => h pins s σ H v u Q I r (f v σ H Q q)
def gN (i : Nat)  (d : PyData) (ρ : List Sl) (Q : List Sl → Prop) : Prop := Q (ρ.set i (.sh d))
theorem dg_name {tg : Expr} {i : Nat} (h : PG X tg (gName i)) : PG X tg (gOf C (gN i)) := PG.wk h fun _ _ _ _ ⟨_, _, _, _, ⟨col, r⟩, ht, k⟩ => k _ _ ⟨col, ((r.store (i := i) (r.pd _ List.mem_cons_self)).sub fun _ h => List.mem_cons_of_mem _ h)⟩ ht
def gT2 (i j : Nat)  (d : PyData) (ρ : List Sl) (Q : List Sl → Prop) : Prop := match d with
  | .tuple [a, b] => Q ((ρ.set i (.sh a)).set j (.sh b))
  | _ => False
def gT3 (i j k : Nat)  (d : PyData) (ρ : List Sl) (Q : List Sl → Prop) : Prop := match d with
  | .tuple [a, b, c] => Q (((ρ.set i (.sh a)).set j (.sh b)).set k (.sh c))
  | _ => False
def dAsg (te : DE) (g : DG)  (D : DEnds) (ρ : List Sl) : Prop := te ρ fun d ρ' => g d ρ' D.nx
def Blk (t : DS) (D : DEnds) (ρ : List Sl) : Prop := t D ρ
def dFor (it : DF) (g : DG) (tb : DS) (D : DEnds) (ρ : List Sl) : Prop := it ρ fun xs ρ1 => ∃ I : List PyData → List Sl → Prop, I xs ρ1 ∧ (∀ x r ρ, I (x :: r) ρ → g x ρ (Blk tb { nx := I r, ct := I r, bk := D.nx, rt := D.rt })) ∧ ∀ ρ, I [] ρ → D.nx ρ
theorem ds_for {it : DF} {g : DG} {tb : DS} (hp : PS X st (tFor (iOf C it) (gOf C g) (sOf C tb))) : PS X st (sOf C (dFor it g tb)) := PS.wk hp fun D σ H zz46 => el3 zz46 fun ρ P Dd R ht E => ⟨ρ, P, _, R, ht, fun xs ρ1 P1 H1 J R1 s1 io q => by
  obtain ⟨I, q0, qs, qd⟩ := q
  refine ⟨fun i m σ' H' => m = xs.length - i ∧ i ≤ xs.length ∧ ∃ ρ', Rel C ρ' σ' P1 H' ∧ I (xs.drop i) ρ', ⟨xs.length, by simp, Nat.zero_le _, ρ1, R1, q0⟩, ?_⟩
  rintro i m σ2 H2 ⟨rfl, hi, ρ2, R2, q2⟩
  by_cases hlt : i < xs.length
  · rw [List.drop_eq_getElem_cons hlt] at q2
    refine .inr ⟨io.go (fun _ h => h) R2 hlt, fun σ' H' => ∃ ρ', Rel C ρ' σ' P1 H' ∧ I (xs.drop (i + 1)) ρ', fun σ' H' h => ⟨xs.length - (i + 1), by lia, rfl, hlt, h⟩, fun x H3 y => ?_⟩
    refine ⟨ρ2, P1, _, _, io.yld (fun _ h => h) R2 (List.getElem?_eq_getElem hlt) y, qs _ _ _ q2, fun ρ3 σ3 R3 q3 => ?_⟩
    refine ⟨ρ3, P1, ⟨I (xs.drop (i + 1)), Dd.rt, Dd.nx, I (xs.drop (i + 1)), fun _ => False⟩, R3, q3, ⟨fun ρ4 σ4 H4 R4 q4 => ⟨ρ4, R4, q4⟩, fun v d ρ4 σ4 H4 R4 q4 => E.rt v d ρ4 σ4 H4 (R4.sub (sub_cons s1)) q4, fun ρ4 σ4 H4 R4 q4 => E.nx ρ4 σ4 H4 (R4.sub s1) q4, fun ρ4 σ4 H4 R4 q4 => ⟨ρ4, R4, q4⟩, fun _ _ _ _ _ _ _ _ h => h.elim⟩⟩
  · have e : i = xs.length := by lia
    subst e
    rw [List.drop_length] at q2
    exact .inl ⟨io.stop (fun _ h => h) R2, E.nx _ _ _ (R2.sub s1) (qd _ q2)⟩⟩
end
open PySem.Spec PyProof.Rows
def slOf : Md → PyData → Sl
  | .sh, d => .sh d
  | .bo, .list ds => .bo ds
  | .bo, _ => .no
  | .hd, _ => .hd
  | .b2, d => match rowsD d with
    | some dss => .b2 dss
    | none => .no
  | .bd, d => .bd d
theorem rowsL_lls : ∀ dss : List (List PyData), rowsL (lls dss) = some dss
  | [] => rfl
  | ds :: dss => by
    show (rowsL (lls dss)).map (ds :: ·) = some (ds :: dss)
    rw [rowsL_lls dss]; rfl
def startN : List Str → List Md → List PyData → List Sl
  | [], _, _ => []
  | _ :: N, ms, ds => (match ms, ds with
    | m :: _, d :: _ => slOf m d
    | _, _ => .no) :: startN N ms.tail ds.tail
section
variable {P : Program} {w : World} {K : PySem.W.Frag} {mg : Str → Option Value} {base : Heap}
open Classical in
open Classical in
end
end My
namespace My
open PySem L2
section
variable {X : Cx} {C : DC} {tg e a b : Expr} {t ta tb : DE} {u : DF} {pos : Pos}
def intsD : List PyData → Option (List Int)
  | [] => some []
  | .int b :: r => (intsD r).map (b :: ·)
  | _ :: _ => none
def gIn (neg : Bool)  (a b : PyData) (Q : PyData → Prop) : Prop := match a, b with
  | .int i, .list xs => bnd (intsD xs) fun ns => Q (.bool (if neg then !(ns.contains i) else ns.contains i))
  | _, _ => False
def dIndexV (i : Nat) (tk : DE)  (ρ : List Sl) (Q : PyData → List Sl → Prop) : Prop := bnd (slotD ρ i) fun a0 => bnd (listD a0) fun _ => tk ρ fun k ρ2 => match k with
  | .int k => bnd (slotD ρ2 i) fun a => bnd (listD a) fun xs => bnd (intsD xs) fun ns => (k ∈ ns ∧ ns.length ≤ 100000) ∧ Q (.int (ns.idxOf k : Nat)) ρ2
  | _ => False
def dLrev (t : DE)  (ρ : List Sl) (Q : List PyData → List Sl → Prop) : Prop := t ρ fun d ρ' => bnd (listD d) fun xs => Q xs.reverse ρ'
def dIrev (t : DE)  (ρ : List Sl) (Q : List PyData → List Sl → Prop) : Prop := t ρ fun d ρ' => bnd (listD d) fun xs => Q xs.reverse ρ'
theorem pf_comp {n j : Nat} {it : DF} {tt : DT} {te : DE} (hn : n = j + 1) (h : PE X e (tComp (iOf C it) n j (fun _ => cOf C tt) (fun _ => eOf C te))) : PE X e (fOf C (dComp j it tt te)) := PE.wk h fun _ _ _ h => comp_rd hn h
def gB2 (f : Bool → Bool → Bool)  (a b : PyData) (Q : PyData → Prop) : Prop := match a, b with
  | .bool i, .bool j => Q (.bool (f i j))
  | _, _ => False
end
theorem a1_0 {α : Type} {x : α} : atI [x] 0 = some x := rfl
theorem a2_0 {α : Type} {x y : α} : atI [x, y] 0 = some x := rfl
theorem a2_1 {α : Type} {x y : α} : atI [x, y] 1 = some y := rfl
theorem a3_0 {α : Type} {x y z : α} : atI [x, y, z] 0 = some x := rfl
theorem a3_1 {α : Type} {x y z : α} : atI [x, y, z] 1 = some y := rfl
theorem a3_2 {α : Type} {x y z : α} : atI [x, y, z] 2 = some z := rfl
theorem iteTT {a b : Prop} : (if true = true then a else b) = a := rfl
theorem iteFF {a b : Prop} : (if false = true then a else b) = b := rfl
theorem iteTB {a b : Bool} : (if true = true then a else b) = a := rfl
theorem iteFB {a b : Bool} : (if false = true then a else b) = b := rfl
theorem iteTI {a b : Int} : (if true = true then a else b) = a := rfl
theorem iteFI {a b : Int} : (if false = true then a else b) = b := rfl
theorem bnd_some {α : Type} {a : α} {Q : α → Prop} : bnd (some a) Q = Q a := rfl
theorem compM {α : Type} {te : DE} {ρ : List Sl} {Q : List PyData → Prop} {g f : α → PyData} : ∀ {xs : List α} {acc : List PyData}, (∀ x ∈ xs, ∀ Q' : PyData → List Sl → Prop, Q' (f x) (ρ ++ [.sh (g x)]) → te (ρ ++ [.sh (g x)]) Q') → Q (acc ++ xs.map f) → dCompL dTrue te ρ Q (xs.map g) acc
  | [], acc, _, q => by
    have q' : Q (acc ++ []) := q
    rw [List.append_nil] at q'
    exact q'
  | x :: r, acc, h, q => by
    refine ⟨rfl, ?_⟩
    rw [if_pos rfl]
    refine h x List.mem_cons_self _ ⟨rfl, compM (fun y hy => h y (List.mem_cons_of_mem _ hy)) ?_⟩
    rw [List.append_assoc]
    exact q
end My
namespace My
open PySem L2
def dCompL3 (tt : DT) (te : DE) (ρ : List Sl) (Q : List PyData → Prop) : List PyData → List PyData → Prop
  | [], acc => Q acc
  | .tuple [x, y, z] :: r, acc => tt (ρ ++ [.sh x, .sh y, .sh z]) fun b ρ' => ρ' = ρ ++ [.sh x, .sh y, .sh z] ∧ if b = true then te (ρ ++ [.sh x, .sh y, .sh z]) fun d ρ'' => ρ'' = ρ ++ [.sh x, .sh y, .sh z] ∧ dCompL3 tt te ρ Q r (acc ++ [d]) else dCompL3 tt te ρ Q r acc
  | _ :: _, _ => False
def dCompT3 (it : DF) (tt : DT) (te : DE) (ρ : List Sl) (Q : List PyData → List Sl → Prop) : Prop := it ρ fun xs ρ1 => xs.length ≤ 1000 ∧ dCompL3 tt te ρ1 (fun ds => Q ds ρ1) xs []
section
variable {X : Cx} {C : DC}
end
section
variable {X : Cx} {C : DC}
theorem pss_exC {sts : List Stmt} {t : DS} (h : ∀ C, PSs X sts (sOf C t)) : PSs X sts (fun D σ H => ∃ C, sOf C t D σ H) := fun pins s σ H D I zz2 => zz2.elim fun C q => h C pins s σ H D I q
open Classical in
theorem law_start {H : Hp} {hd hl : Addr} {v0 : V} {k : Nat} {t : DS} {D : Ends} (d : Hd H hd hl) (hD : ∀ H', D.rt (.bl true) H') (ht : t { nx := fun _ => False, rt := fun d => d = .bool true } (.no :: .hd :: List.replicate k .no)) :
    ∃ C, sOf C t D (some v0 :: some (.ref hd) :: List.replicate k none) H := by
  refine ⟨⟨fun b => b ≠ hd, some (hd, hl), H⟩, _, [], ⟨fun _ => False, fun d => d = .bool true, fun _ => False, fun _ => False, fun _ => False⟩, ⟨fun b => if b = hd then 1 else 0, fun b hb => ?_, fun b hb => ?_, fun q hq => ?_, fun i s e => ?_, fun p hp => (nomatch hp), Kq.refl, fun q hq => ?_, fun q hq => ?_, ⟨fun b hb => ?_, fun b xs hb => ?_⟩, ?_⟩, ht, ⟨fun _ _ _ _ h => h.elim, fun v d ρ σ H' R h => ?_, fun _ _ _ _ h => h.elim, fun _ _ _ _ h => h.elim, fun _ _ _ _ _ _ _ _ h => h.elim⟩⟩
  · obtain ⟨o, e⟩ := d.at1
    exact if_neg fun z => by rw [z, e] at hb; cases hb
  · intro z
    have hb' : (if b = hd then 1 else 0) = 0 := hb
    rw [if_pos z] at hb'
    cases hb'
  · cases hq
    exact if_pos rfl
  · match i with
    | 0 => cases e; trivial
    | 1 => cases e; exact ⟨(hd, hl), rfl, rfl⟩
    | i + 2 =>
      have e' : (List.replicate k Sl.no)[i]? = some s := e
      rw [List.getElem?_replicate] at e'
      split at e'
      · cases e'; trivial
      · cases e'
  · cases hq; exact d
  · cases hq; exact d
  · intro z
    obtain ⟨o, e⟩ := d.at1
    rw [z] at hb
    have hb' : H hd = none := hb
    rw [e] at hb'; cases hb'
  · intro z
    obtain ⟨_, _, _, _, _, _, _, _, e⟩ := id d
    rw [z] at hb
    have hb' : H hd = some (.tup xs) := hb
    rw [e] at hb'; cases hb'
  · simp
  · obtain ⟨col, r⟩ := R
    have t := r.pd _ List.mem_cons_self
    subst h
    cases (show ThV (Z col) H' v (.bool true) from t)
    exact hD H'
end
end My
namespace My
open PySem L2
section
variable {X : Cx} {C : DC}
def gT5 (i j k l n : Nat)  (d : PyData) (ρ : List Sl) (Q : List Sl → Prop) : Prop := match d with
  | .tuple [a, b, c, e, f] => Q (((((ρ.set i (.sh a)).set j (.sh b)).set k (.sh c)).set l (.sh e)).set n (.sh f))
  | _ => False
def strsD : List PyData → Option (List Str)
  | [] => some []
  | .str b :: r => (strsD r).map (b :: ·)
  | _ :: _ => none
def gInS (neg : Bool)  (a b : PyData) (Q : PyData → Prop) : Prop := match a, b with
  | .str i, .tuple xs => bnd (strsD xs) fun ns => Q (.bool (if neg then !(inV (.str i) (ns.map V.str)) else inV (.str i) (ns.map V.str)))
  | _, _ => False
def gMaxP  (ds : List PyData) (Q : PyData → Prop) : Prop := match ds with
  | [.list xs] => xs ≠ [] ∧ (∀ x ∈ xs, ∃ i j : Int, x = .tuple [.int i, .int j]) ∧ ∀ x ∈ xs, Q x
  | _ => False
end
end My
namespace My
open PySem L2
section
variable {X : Cx} {C : DC} {e : Expr} {u : DF}
def dPopI (i : Nat) (tk : DE)  (ρ : List Sl) (Q : PyData → List Sl → Prop) : Prop := match ρ[i]? with
  | some (.ow _) => tk ρ fun k ρ' => match ρ'[i]? with
    | some (.ow ds) => match k with
      | .int k => bnd (ixN ds.length k) fun j => bnd (ds[j]?) fun d => ds.length ≤ 1000 ∧ Q d (ρ'.set i (.ow (ds.eraseIdx j)))
      | _ => False
    | _ => False
  | _ => False
def dLrng (t : DE)  (ρ : List Sl) (Q : List PyData → List Sl → Prop) : Prop := t ρ fun d ρ' => match d with
  | .int n => (0 ≤ n ∧ n ≤ 1000) ∧ Q (rngD 0 n.toNat) ρ'
  | _ => False
end
end My
namespace My
open PySem L2
def zipD (xs ys : List PyData) : List PyData := (xs.zip ys).map fun p => .tuple [p.1, p.2]
section
variable {X : Cx} {C : DC} {tg e : Expr} {t u : DE}
def dZip (t u : DE)  (ρ : List Sl) (Q : List PyData → List Sl → Prop) : Prop := t ρ fun d ρ1 => u ρ1 fun d2 ρ2 => bnd (listD d) fun xs => bnd (listD d2) fun ys => Q (zipD xs ys) ρ2
end
def dCompL2 (tt : DT) (te : DE) (ρ : List Sl) (Q : List PyData → Prop) : List PyData → List PyData → Prop
  | [], acc => Q acc
  | .tuple [x, y] :: r, acc => tt (ρ ++ [.sh x, .sh y]) fun b ρ' => ρ' = ρ ++ [.sh x, .sh y] ∧ if b = true then te (ρ ++ [.sh x, .sh y]) fun d ρ'' => ρ'' = ρ ++ [.sh x, .sh y] ∧ dCompL2 tt te ρ Q r (acc ++ [d]) else dCompL2 tt te ρ Q r acc
  | _ :: _, _ => False
def dCompT2 (it : DF) (tt : DT) (te : DE) (ρ : List Sl) (Q : List PyData → List Sl → Prop) : Prop := it ρ fun xs ρ1 => xs.length ≤ 1000 ∧ dCompL2 tt te ρ1 (fun ds => Q ds ρ1) xs []
section
variable {X : Cx} {C : DC}
end
section
variable {X : Cx} {C : DC} {st : Stmt} {te : DE}
end
end My
namespace My
open PySem L2
section
variable {X : Cx} {C : DC} {st : Stmt}
def dIns (i : Nat) (tk te : DE)  (D : DEnds) (ρ : List Sl) : Prop := match ρ[i]? with
  | some (.ow _) => tk ρ fun k ρ1 => te ρ1 fun d ρ2 => match ρ2[i]? with
    | some (.ow ds) => ∃ n : Nat, k = .int ((n : Nat) : Int) ∧ n ≤ ds.length ∧ ds.length ≤ 1000 ∧ D.nx (ρ2.set i (.ow (ds.take n ++ [d] ++ ds.drop n)))
    | _ => False
  | _ => False
end
end My
namespace My
open PySem L2
section
variable {C : DC} {col col' : Addr → Nat} {ρ : List Sl} {σ σ' : St} {P : List Pe} {H H' : Hp} {p : Addr}
end
end My
namespace My
open PySem L2
section
variable {X : Cx} {C : DC} {a b e : Expr} {pos : Pos}
end
end My
namespace My
open PySem L2
section
variable {X : Cx} {C : DC} {e : Expr}
end
end My
namespace My
open PySem L2
section
variable {X : Cx} {C : DC} {st : Stmt} {e : Expr} {te : DE} {pos : Pos} {u : DA}
end
end My
namespace My
open PySem L2
section
variable {X : Cx} {C : DC} {e : Expr} {ta : DE}
end
end My
namespace My
abbrev Tb := List (Option Int)
abbrev Rn := List (Option Nat)
abbrev Wy := Nat × Nat × Int
def stepF (st lv c : Int) : Option Int := if lv + c < 0 then none else some (if st < lv + c then st else lv + c)
def gt {α : Type} (t : List (Option α)) (p : Nat) : Option α := (t[p]?).join
def behF (st : Int) (t : Tb) (w : Wy) : Option Int := match gt t w.1 with
  | none => none
  | some l => stepF st l w.2.2
def moreF : Option Int → Option Int → Bool
  | none, _ => false
  | some _, none => true
  | some a, some b => decide (b < a)
theorem gt_at {α : Type} {t : List (Option α)} {p : Nat} (h : p < t.length) : t[p]? = some (gt t p) := by unfold gt; rw [List.getElem?_eq_getElem h]; rfl
def rstep (st : Int) (t : Tb) (acc : Tb × Rn) (p : Wy × Nat) : Tb × Rn :=
  if moreF (behF st t p.1) (gt acc.1 p.1.2.1) = true then (acc.1.set p.1.2.1 (behF st t p.1), acc.2.set p.1.2.1 (some p.2)) else acc
def rowF (m : Nat) (ws : List Wy) (st : Int) (t s : Tb) : Tb × Rn := ws.zipIdx.foldl (rstep st t) (s, List.replicate m none)
abbrev Rw := Tb × Rn
inductive Rows (m : Nat) (ws : List Wy) (st : Int) (b : Tb) : List Rw → Prop
  | one : Rows m ws st b [(b, List.replicate m none)]
  | more {r rs} : Rows m ws st b (r :: rs) → (rowF m ws st r.1 r.1).1 ≠ r.1 → Rows m ws st b (rowF m ws st r.1 r.1 :: r :: rs)
section
variable {m : Nat} {ws : List Wy} {st : Int} {b : Tb}
end
end My
namespace My
end My
namespace My
section
variable {m : Nat} {ws : List Wy} {st : Int} {b : Tb}
end
section
variable {ws : List Wy} {st : Int} {b : Tb} {N : List Nat} {P : Nat → Nat} {L : Nat → Int}
end
section
variable {m : Nat} {ws : List Wy} {st : Int} {b : Tb} {N : List Nat} {P : Nat → Nat} {L : Nat → Int}
end
end My
namespace My
abbrev Sp2 := Nat × Int
section
variable {m : Nat} {ws : List Wy} {st : Int} {b g : Sp2}
end
end My
namespace My
section
variable {ws : List Wy} {row : List Nat} {cs : List Int} {st sc gv x y : Int} {p0 : Nat}
end
end My
namespace My
section
variable {m : Nat} {row : List Nat} {cs : List Int} {sc gv : Int} {B S ws : List Wy}
end
section
variable {m : Nat} {ws : List Wy} {row : List Nat} {cs : List Int} {sc gv st x y : Int} {p0 pl : Nat}
end
end My
namespace My
section
variable {m : Nat} {ws : List Wy} {st : Int}
end
end My
namespace My
section
variable {m : Nat} {st : Int}
end
end My
namespace L2
open PySem PySem.Spec PyProof.Rows
end L2
namespace My
open PySem L2
section
variable {X : Cx} {C : DC}
variable {st : Stmt} {te : DE}
end
end My
namespace My
open PySem L2
section
variable {X : Cx} {C : DC} {st : Stmt} {te : DE} {tg e : Expr} {u : DF}
end
end My
namespace My
open PySem L2
section
variable {C : DC}
section
variable {X : Cx} {st : Stmt} {ta : DF}
variable {a b : Expr} {te : DE} {pos : Pos}
end
end
section
variable {X : Cx} {C : DC} {st : Stmt} {te : DE}
end
section
variable {C : DC}
end
section
variable {X : Cx} {C : DC}
end
end My
namespace My
open PySem L2
section
variable {C : DC}
end
section
variable {X : Cx} {C : DC} {st : Stmt} {te : DE}
end
section
variable {C : DC}
end
section
variable {C : DC} {col col2 : Addr → Nat} {ρ : List Sl} {σ : St} {P : List Pe} {H H2 : Hp} {i : Nat} {ds : List PyData} {a : Addr} {vs : List V}
variable {X : Cx} {e : Expr}
end
end My
namespace L2
open PySem PySem.Spec PyProof.Rows
section
variable {κ : Type} [DecidableEq κ]
end
section
variable {P : Program} {w : World} {H : Hp} {h : Heap} {a : Addr}
end
section
variable {X : Cx} {pins : List (Addr × Obj)} {σ : St} {H : Hp} {s : Shared} {a : Addr} {y v : V} {u r : Value} {o : Option V} {A : Around} {E : Value → Shared → Prop}
end
section
variable {X : Cx} {pins : List (Addr × Obj)} {σ : St} {H : Hp} {s : Shared} {a : Addr} {kvs : List (Key × V)} {k : Key} {u : Value} {A : Around} {E : Value → Shared → Prop}
end
section
variable {X : Cx} {o i e value : Expr} {pos pos' tpos : Pos} {td ty tv : TE}
end
section
variable {X : Cx} {pos : Pos}
end
section
variable {X : Cx} {pins : List (Addr × Obj)} {σ : St} {H : Hp} {s : Shared} {a : Addr} {y d : V} {u r : Value} {o : Option V} {A : Around} {E : Value → Shared → Prop}
end
section
variable {X : Cx} {o e f : Expr} {apos cpos : Pos} {td ty tx : TE}
end
section
variable {X : Cx} {pins : List (Addr × Obj)} {σ : St} {H : Hp} {s : Shared} {a : Addr} {kvs : List (Key × V)} {A : Around} {E : Value → Shared → Prop}
end
section
variable {X : Cx} {pins : List (Addr × Obj)} {σ : St} {H : Hp} {s : Shared} {a : Addr} {y : V} {u : Value} {A : Around} {E : Value → Shared → Prop}
end
end L2
namespace L2
open PySem PySem.Spec PyProof.Rows
section
variable {prog : Program} {w : World} {A : Around} {E : Value → Shared → Prop} {s : Shared}
end
end L2
namespace My
open PySem L2
section
variable {C : DC} {col : Addr → Nat} {ρ : List Sl} {σ : St} {P : List Pe} {H H' : Hp} {p : Addr}
end
open PySem.Spec PyProof.Rows
section
variable {P : Program} {w : World} {K : PySem.W.Frag} {mg : Str → Option Value} {base : Heap}
open Classical in
end
section
variable {X : Cx} {C : DC} {st : Stmt} {e a b : Expr} {te tk : DE} {u : DA} {pos : Pos}
end
end My
namespace My
open PySem L2
mutual
def lstsD : PyData → List (List PyData)
  | .list ds => ds :: lstsL ds
  | .tuple ds => lstsL ds
  | _ => []
def lstsL : List PyData → List (List PyData)
  | [] => []
  | d :: ds => lstsD d ++ lstsL ds
end
mutual
def szD : PyData → Nat
  | .list ds => szL ds + 1
  | .tuple ds => szL ds + 1
  | _ => 1
def szL : List PyData → Nat
  | [] => 0
  | d :: ds => szD d + szL ds
end
section
variable {X : Cx} {C : DC} {st : Stmt} {u : DA}
variable {a b : Expr} {tb : DE} {pos : Pos}
def dEqV (neg : Bool) (i : Nat) (tb : DE)  (ρ : List Sl) (Q : PyData → List Sl → Prop) : Prop := bnd (slotD ρ i) fun _ => tb ρ fun b ρ1 => bnd (slotD ρ1 i) fun a => gEq neg a b fun d => Q d ρ1
variable {a b : Expr} {tb : DE} {pos : Pos}
end
end My
namespace L2
open PySem PySem.Spec PyProof.Rows
end L2
namespace My
open PySem L2
open PySem.Spec PyProof.Rows
section
variable {C : DC} {col : Addr → Nat} {ρ : List Sl} {σ : L2.St} {P : List Pe} {H H' : Hp} {p : Addr}
end
section
variable {X : Cx} {C : DC} {st : Stmt} {e : Expr} {te : DE} {u : DA} {pos : Pos}
end
end My
namespace My
open PySem L2
section
variable {X : Cx} {C : DC} {st : Stmt} {e : Expr} {ta : DE}
end
end My
namespace My
open PySem L2
section
variable {X : Cx} {C : DC} {st : Stmt} {e : Expr} {ta : DE}
end
end My
namespace My
abbrev Ct := List (List (Option Int))
abbrev Spt := Nat × Nat
abbrev Mv := Spt × Spt × Int
def ca (t : Ct) (s : Spt) : Option Int := gt (t.getD s.1 []) s.2
def addO (a : Option Int) (c : Int) : Option Int := a.map fun x => x + c
structure CtOk (m n : Nat) (t : Ct) : Prop where
  len : t.length = m
  row : ∀ r ∈ t, r.length = n
  low : ∀ s x, ca t s = some x → 0 ≤ x
def wiF (a b : Option Int) : Bool := match b with
  | none => true
  | some y => match a with
    | none => false
    | some x => decide (x ≤ y)
end My
namespace My
open PySem L2
end My
namespace My
open PySem L2
end My
namespace L2
open PySem PySem.Spec PyProof.Rows
def Xo (h : Heap) (a C : Addr) (dd : Option Addr) (tb : Value) : Prop :=
  ∃ o vs, h.get? a = some o ∧ o.cls = .ref C ∧ o.dict = dd ∧ o.data = .fields vs ∧ vs[1]? = some tb
def Te (h base : Heap) (a : Addr) (tb : Value) : Prop :=
  tb = .none ∨ ∃ T o ts, tb = .ref T ∧ base.get? T = none ∧ T ≠ a ∧ h.get? T = some o ∧ o.data = .fields ts ∧ ts[3]? = some .none
structure Fly (base : Heap) (l : List Env) (a C : Addr) (dd : Option Addr) (h : Heap) : Prop where
  stay : base.StaysIn h
  new : base.get? a = none
  fr : h.FunFrames base l
  ob : ∃ tb, Xo h a C dd tb ∧ Te h base a tb
section
variable {M : Model} {A : Around} {E : Value → Shared → Prop} {s : Shared} {base : Heap} {env : Env} {outer : List Env} {L a C : Addr} {dd : Option Addr}
theorem Obj.dict_mf (o : Obj) (f : Array Value → Array Value) : (o.mapFields f).dict = o.dict := by
  obtain ⟨c, d, dt, sl⟩ := o; cases dt <;> rfl
theorem fly_entry {head : Value} {hn : Bool} {Q : Unit → Shared → Prop} (hfr : A.frames = some (env :: outer)) (hf : env.frame = some L)
    (st : base.StaysIn s.heap) (nw : base.get? a = none) (fl : s.heap.FunFrames base (env :: outer)) {o : Obj} {vs : Array Value} (he : s.heap.get? a = some o) (hc : o.cls = .ref C) (hdd : o.dict = dd) (hd : o.data = .fields vs) (sz : 1 < vs.size)
    (k : ∀ h', Fly base (env :: outer) a C dd h' → s.heap.UpToSlots h' → Q () { s with heap := h' }) :
    wpAny M A (do let f ← frameOf env; let pl ← entryPlaceOf L hn; let b ← EntryCells.newEntry head f .none (rawInt L) .none pl; setField (.ref a) 1 b) (fun _ s' => wpAny M A (setFlight (.ref a) none) Q E s') E s := by
  have na : a ∉ (env :: outer).filterMap (·.frame) := fun hm => by
    obtain ⟨_, u, hu, nf⟩ := fl.mem hm
    rw [he] at hu
    exact nf vs (Option.some.inj hu ▸ hd)
  refine wpAny_bind (wpAny_frameOf_fun hfr fl hf fun h1 so => ?_)
  refine wpAny_bind (wpAny_entryPlaceOf fun pl hpl => ?_)
  unfold EntryCells.newEntry newFields
  refine wpAny_bind (wpAny_newObj_type ?_ (hpl.sizeOk5 _ _ _ _ _))
  generalize hw : ([head, .ref L, .none, rawInt L, .none] ++ (if pl.isEmpty then List.replicate 6 Value.none else pl)).toArray = ws
  have w3 : 3 < ws.size := by rw [← hw]; simp only [List.size_toArray, List.length_append, List.length_cons, List.length_nil]; omega
  generalize hob : ({ cls := .type "traceback", dict := none, data := .fields ws } : Obj) = tbo
  have tbd : tbo.data = .fields ws := by rw [← hob]
  have tbf : tbo.isFreed = false := Obj.isFreed_of_fields tbd
  have he1 : h1.get? a = some o := (so.2.1 a na).trans he
  have st1 : base.StaysIn h1 := fun b u hb => (so.2.1 b fun hm => by rw [(fl.mem hm).1] at hb; cases hb).trans (st b u hb)
  have he2 : (h1.push tbo).get? a = some o := Heap.get?_push_of_some tbo he1
  have nT : h1.objs.size ≠ a := Nat.ne_of_gt (Heap.lt_size he1)
  refine wpAny_setField he2 hd sz ?_
  have hd3 := Obj.data_mapFields hd (·.setIfInBounds 1 (Value.ref h1.objs.size))
  have he3 := Heap.get?_update_self (Obj.mapFields (·.setIfInBounds 1 (Value.ref h1.objs.size))) he2 (Obj.isFreed_of_fields hd3)
  have hT := (Heap.get?_update_other (h1.push tbo) (Obj.mapFields (·.setIfInBounds 1 (Value.ref h1.objs.size))) (Ne.symm nT)).trans (Heap.get?_push_at rfl tbf)
  unfold setFlight
  refine wpAny_bind (wpAny_field he3 hd3 (x := .ref h1.objs.size) (by simp [sz]) ?_)
  rw [if_pos (show (Value.ref h1.objs.size != Value.none) = true from by simp)]
  have keep : ∀ b u, b ≠ a → h1.get? b = some u → (((h1.push tbo).update a (Obj.mapFields (·.setIfInBounds 1 (Value.ref h1.objs.size)))).update h1.objs.size (Obj.mapFields (·.setIfInBounds 3 ((none : Option Addr).elim Value.none fun f => rawInt f)))).get? b = some u := fun b u nb hb => by
    rw [Heap.get?_update_other _ _ (Nat.ne_of_gt (Heap.lt_size hb)), Heap.get?_update_other _ _ (Ne.symm nb)]
    exact Heap.get?_push_of_some _ hb
  have nrec : ∀ b u, s.heap.get? b = some u → (∀ vs, u.data ≠ .fields vs) → b ≠ a := fun b u hb nf z => by
    rw [z, he] at hb
    exact nf vs (Option.some.inj hb ▸ hd)
  have hT4 := Heap.get?_update_self (Obj.mapFields (·.setIfInBounds 3 ((none : Option Addr).elim Value.none fun f => rawInt f))) hT (Obj.isFreed_of_fields (Obj.data_mapFields tbd _))
  refine wpAny_setField hT tbd w3 (k _ ⟨fun b u hb => keep b u (fun z => by rw [z, nw] at hb; cases hb) (st1 b u hb), nw, fl.of_keeps fun b u hb nf => ?_, .ref h1.objs.size, ⟨_, _, (Heap.get?_update_other _ _ nT).trans he3, ?_, ?_, hd3, by simp [sz]⟩, .inr ⟨h1.objs.size, _, _, rfl, st1.fresh, nT, hT4, Obj.data_mapFields tbd _, by simp [w3]⟩⟩ fun b u hb nf => ?_)
  · obtain ⟨sl, hs⟩ := so.2.2 b u hb
    exact ⟨_, keep b _ (nrec b u hb nf) hs, rfl⟩
  · exact (Obj.cls_mapFields _ _).trans hc
  · exact (Obj.dict_mf _ _).trans hdd
  · obtain ⟨sl, hs⟩ := so.2.2 b u hb
    exact ⟨sl, keep b _ (nrec b u hb nf) hs⟩
theorem fly_note {Q : Unit → Shared → Prop} (hfr : A.frames = some (env :: outer)) (hf : env.frame = some L) (F : Fly base (env :: outer) a C dd s.heap)
    (k : ∀ h', Fly base (env :: outer) a C dd h' → s.heap.UpToSlots h' → Q () { s with heap := h' }) :
    wpAny M A (noteFrame (.ref a) env) (fun _ s' => wpAny M A (setFlight (.ref a) none) Q E s') E s := by
  obtain ⟨st, nw, fl, tb, ⟨o, vs, he, hc, hdd, hd, h1⟩, ht⟩ := F
  have sz : 1 < vs.size := (Array.getElem?_eq_some_iff.mp h1).1
  unfold noteFrame
  simp only [hf]
  refine wpAny_bind (wpAny_field he hd h1 ?_)
  rcases ht with rfl | ⟨T, oT, ts, rfl, hb, nT, hT, hdT, h3⟩
  · rw [if_neg (by decide)]
    exact fly_entry hfr hf st nw fl he hc hdd hd sz k
  · rw [if_pos (show (Value.ref T != Value.none) = true from by simp)]
    refine wpAny_bind (wpAny_field hT hdT h3 ?_)
    rw [if_neg (show ¬ ((Value.none == rawInt L) = true) from by simp [rawInt])]
    refine wpAny_bind (wpAny_setField hT hdT (Array.getElem?_eq_some_iff.mp h3).1 ?_)
    have other : ∀ b, b ≠ T → (s.heap.update T (Obj.mapFields (·.setIfInBounds 3 Value.none))).get? b = s.heap.get? b := fun b nb => Heap.get?_update_other _ _ (Ne.symm nb)
    have nrec : ∀ b u, s.heap.get? b = some u → (∀ vs, u.data ≠ .fields vs) → b ≠ T := fun b u q nf z => by
      rw [z, hT] at q
      exact nf ts (Option.some.inj q ▸ hdT)
    refine fly_entry hfr hf (fun b u q => (other b fun z => by rw [z, hb] at q; cases q).trans (st b u q)) nw (fl.of_keeps fun b u q nf => ⟨u, (other b (nrec b u q nf)).trans q, rfl⟩) ((other a (Ne.symm nT)).trans he) hc hdd hd sz fun h' F' U => ?_
    exact k h' F' fun b u q nf => U b u ((other b (nrec b u q nf)).trans q) nf
theorem fly_leave {Q : Unit → Shared → Prop} (hfr : A.frames = some (env :: outer)) (hf : env.frame = some L) (F : Fly base (env :: outer) a C dd s.heap)
    (k : ∀ h', Fly base outer a C dd h' → s.heap.UpToSlots h' → Q () { s with heap := h' }) : wpAny M A (leaving env (.ref a)) Q E s := by
  unfold leaving
  exact wpAny_bind (fly_note hfr hf F fun h' F' U => k h' ⟨F'.stay, F'.new, F'.fr.2.2, F'.ob⟩ U)
theorem fly_land {l : List Env} {Q : Unit → Shared → Prop} (F : Fly base l a C dd s.heap)
    (k : ∀ h', Fly base l a C dd h' → s.heap.UpToSlots h' → Q () { s with heap := h' }) : wpAny M A (setFlight (.ref a) none) Q E s := by
  obtain ⟨st, nw, fl, tb, ⟨o, vs, he, hc, hdd, hd, h1⟩, ht⟩ := F
  unfold setFlight
  refine wpAny_bind (wpAny_field he hd h1 ?_)
  rcases ht with rfl | ⟨T, oT, ts, rfl, hb, nT, hT, hdT, h3⟩
  · rw [if_neg (by decide)]
    exact wpAny_pure (k _ ⟨st, nw, fl, .none, ⟨o, vs, he, hc, hdd, hd, h1⟩, .inl rfl⟩ (Heap.UpToSlots.refl _))
  · rw [if_pos (show (Value.ref T != Value.none) = true from by simp)]
    have h3s := (Array.getElem?_eq_some_iff.mp h3).1
    have other : ∀ b, b ≠ T → (s.heap.update T (Obj.mapFields (·.setIfInBounds 3 ((none : Option Addr).elim Value.none fun f => rawInt f)))).get? b = s.heap.get? b := fun b nb => Heap.get?_update_other _ _ (Ne.symm nb)
    have nrec : ∀ b u, s.heap.get? b = some u → (∀ vs, u.data ≠ .fields vs) → b ≠ T := fun b u q nf z => by
      rw [z, hT] at q
      exact nf ts (Option.some.inj q ▸ hdT)
    refine wpAny_setField hT hdT h3s (k _ ⟨fun b u q => (other b fun z => by rw [z, hb] at q; cases q).trans (st b u q), nw, fl.of_keeps fun b u q nf => ⟨u, (other b (nrec b u q nf)).trans q, rfl⟩, .ref T, ⟨o, vs, (other a (Ne.symm nT)).trans he, hc, hdd, hd, h1⟩,
      .inr ⟨T, _, _, rfl, hb, nT, Heap.get?_update_self _ hT (Obj.isFreed_of_fields (Obj.data_mapFields hdT _)), Obj.data_mapFields hdT _, by simp [h3s]⟩⟩ fun b u q nf => ⟨u.slots, (other b (nrec b u q nf)).trans q⟩)
end
end L2
namespace L2
open PySem PySem.Spec PyProof.Rows
abbrev VE : List Value := [.type "ValueError", .type "Exception", .type "BaseException", .type "object"]
structure Xc (h : Heap) (C : Addr) : Prop where
  ob : ∃ (nm q : Str) (N TE : Addr) (bs : List Value) (sn : List Str) (sub : List Value) (ab : Bool) (col : Option Bool) (dd : Option Addr) (k0 k1 k2 k3 k5 : Option Value) (mN : Str → Option Value),
    h.get? C = some (excClassObj nm q C N bs (.ref TE :: VE) true sn sub ab col dd k0 k1 k2 k3 k5 "ValueError.__new__") ∧ h.Ns N mN ∧ OwnTail h VE (.ref TE :: VE)
structure XcK (K : PySem.W.Frag) (C : Addr) : Prop where
  ob : ∃ (nm q : Str) (N TE : Addr) (bs : List Value) (sn : List Str) (sub : List Value) (ab : Bool) (col : Option Bool) (dd : Option Addr) (k0 k1 k2 k3 k5 : Option Value),
    K.lookup C = some (excClassObj nm q C N bs (.ref TE :: VE) true sn sub ab col dd k0 k1 k2 k3 k5 "ValueError.__new__") ∧ PySem.W.nsOkIn K N = true ∧ PySem.W.tailIn K VE (.ref TE :: VE) = true
theorem XcK.xc {K : PySem.W.Frag} {h : Heap} {C : Addr} (x : XcK K C) (X : K.In h) : Xc h C := by
  obtain ⟨nm, q, N, TE, bs, sn, sub, ab, col, dd, k0, k1, k2, k3, k5, l, hn, ht⟩ := x.ob
  exact ⟨nm, q, N, TE, bs, sn, sub, ab, col, dd, k0, k1, k2, k3, k5, _, X _ _ l, .of_isNs (PySem.W.isNs_of_in X hn), PySem.W.tail_of_in X ht⟩
section
variable {prog : Program} {w : World} {A : Around} {E : Value → Shared → Prop} {h : Heap} {g : Array GenState} {d : Drawn} {t : Nat} {os : OsState} {C f : Addr} {rest : List Value}
theorem xc_typecall {Q : Fin → Shared → Prop} (x : Xc h C) (hi : PySem.W.Looks (model prog w) h (typeLookup (.ref C) "__init__") (some (.ref f))) (hb : ∀ self, PySem.W.Looks (model prog w) h (bindSpecial (.ref f) self) (.ref f, [self]))
    (hq : ∀ h' e, h.objs.size ≤ e → Heap.MadeExcOf h h' e (.ref C) rest → wpAny (model prog w) A (call (.ref f) (.ref e :: rest)) (fun r s' => r = .none ∧ Q (.done (.ret (.ref e))) s') E ⟨h', g, d, t, os⟩) (hl : rest.length ≤ sizeLine) :
    wpAny (model prog w) A (Builtin.«type.__call__» ⟨.ref C :: rest, []⟩) Q E ⟨h, g, d, t, os⟩ := by
  obtain ⟨nm, q, N, TE, bs, sn, sub, ab, col, dd, k0, k1, k2, k3, k5, mN, hC, hn, T⟩ := x.ob
  have F := PySem.F.excBase_ValueError
  repeat (first | with_reducible refine wpAny_loadPart_at hC ?_ | with_reducible refine wpAny_madeBy_exc hC ?_ | wp_step)
  refine codeAny_call_builtin_code (Code.quiet_builtin _ F.quiet) (wpAny_check_new_subT F T hC (codeAny_exc_new_subT F T hC ?_ hl))
  show wpAny _ _ _ _ _ _
  generalize ho1 : ({ cls := .type "tuple", data := .seq rest.toArray } : Obj) = o1
  generalize ho2 : ({ cls := .ref C, data := .fields #[.ref h.objs.size, .none, .none, .none, .bool false, .none] } : Obj) = o2
  have kk : ∀ b o, h.get? b = some o → ((h.push o1).push o2).get? b = some o := fun b o e => Heap.get?_push_of_some _ (Heap.get?_push_of_some _ e)
  have hg : ((h.push o1).push o2).get? (h.objs.size + 1) = some o2 := Heap.get?_push_at (by simp only [Heap.size_push]) (by rw [← ho2]; rfl)
  have hg1 : ((h.push o1).push o2).get? h.objs.size = some o1 := Heap.get?_push_of_some _ (Heap.get?_push_at rfl (by rw [← ho1]; rfl))
  have hc2 : o2.cls = .ref C := by rw [← ho2]
  have hcC : (Value.ref C :: Value.ref TE :: VE).contains (.ref C) = true := by simp
  unfold isInstance
  repeat (first | (with_reducible refine wpAny_loadPart_at hg ?_; rw [hc2]) | (with_reducible refine wpAny_isSubtype_exc (kk _ _ hC) ?_; rw [hcC]) | wp_step)
  show wpAny _ _ (typeLookup (.ref C) _) _ _ _
  refine (hi.keeps kk).at ?_
  refine wpAny_holding (wpAny_bind (((hb _).keeps kk).at ?_))
  refine wpAny_bind (wpAny_mono (hq _ (h.objs.size + 1) (Nat.le_succ _) ⟨kk, Heap.get?_none_of_le (Nat.le_succ _), h.objs.size, by rw [ho2]; exact hg, Heap.get?_none_of_le (Nat.le_refl _), by rw [ho1]; exact hg1⟩) (fun r s' hr => ?_) fun _ _ y => y)
  obtain ⟨rfl, hQ⟩ := hr
  wp_walk
  exact hQ
theorem xc_call {Q : Value → Shared → Prop} (x : Xc h C) (hi : PySem.W.Looks (model prog w) h (typeLookup (.ref C) "__init__") (some (.ref f))) (hb : ∀ self, PySem.W.Looks (model prog w) h (bindSpecial (.ref f) self) (.ref f, [self]))
    (hq : ∀ h' e, h.objs.size ≤ e → Heap.MadeExcOf h h' e (.ref C) rest → wpAny (model prog w) (A.under (.builtin "type.__call__" ⟨.ref C :: rest, []⟩)) (call (.ref f) (.ref e :: rest)) (fun r s' => r = .none ∧ Q (.ref e) s') E ⟨h', g, d, t, os⟩) (hl : rest.length ≤ sizeLine) :
    wpAny (model prog w) A (call (.ref C) rest) Q E ⟨h, g, d, t, os⟩ := by
  obtain ⟨nm, q, N, TE, bs, sn, sub, ab, col, dd, k0, k1, k2, k3, k5, mN, hC, hn, T⟩ := id x.ob
  have f1 := tc_lookup
  have f2 := tc_bind (.ref C)
  have hT : (⟨h, g, d, t, os⟩ : Shared).TypeIs (.ref C) "type" := ⟨_, hC, rfl⟩
  refine wpAny_call (codeAny_of_tree ?_)
  show wpAny _ _ (callAny (.ref C) _) _ _ _
  repeat (any_goals (first | assumption | with_reducible refine wpAny_loadPart_at hC ?_ | wp_step))
  refine ⟨rfl, ?_⟩
  exact codeAny_call_builtin_at (Code.quiet_builtin _ (by decide +kernel)) entry_typeCall (wpAny_check_type_call_sub hC (xc_typecall x hi hb (fun h' e hz hm => hq h' e hz hm) hl))
section
variable {nm q : Str} {N TE x : Addr} {bs bmB : List Value} {sn : List Str} {sub : List Value} {ab : Bool} {col : Option Bool} {dd : Option Addr} {k0 k1 k2 k3 k5 : Option Value} {B newId sa owner : String} {o : Obj} {name : Str} {v : Value}
theorem sa_check {M : Model} {nv : Value} {Q : Unit → Shared → Prop} (SF : StoreFacts B bmB sa owner) (hC : h.get? C = some (excClassObj nm q C N bs (.ref TE :: bmB) true sn sub ab col dd k0 k1 k2 k3 k5 newId))
    (hx : h.get? x = some o) (hc : o.cls = .ref C) (hq : Q () ⟨h, g, d, t, os⟩) : wpAny M A (checkBuiltinCall sa ⟨[.ref x, nv, v], []⟩) Q E ⟨h, g, d, t, os⟩ := by
  have hcO : (Value.ref C :: Value.ref TE :: bmB).contains (.type owner) = true := by
    rw [List.contains_cons, List.contains_cons, SF.hasOwner, Bool.or_true, Bool.or_true]
  have ha := SF.args (.ref x) nv v
  simp only [checkBuiltinCall, SF.kind, SF.split]
  refine wpAny_bind ?_
  unfold isInstance
  repeat (first | (with_reducible refine wpAny_loadPart_at hx ?_; rw [hc]) | (with_reducible refine wpAny_isSubtype_exc hC ?_; rw [hcO]) | wp_step)
  cases hsig : Manifest.signature? sa with
  | none => exact wpAny_pure hq
  | some sig =>
    simp only [argsOk, hsig] at ha
    have h2 : Bind.checkArgs sa sig ⟨[.ref x, nv, v], []⟩ = pure () := ha
    show wpAny M A (Bind.checkArgs sa sig ⟨[.ref x, nv, v], []⟩) Q E _
    rw [h2]; exact wpAny_pure hq
theorem sa_run {tk : Tok} {vs : Array Value} {Q : Fin → Shared → Prop} (SF : StoreFacts B bmB sa owner) (hC : h.get? C = some (excClassObj nm q C N bs (.ref TE :: bmB) true sn sub ab col dd k0 k1 k2 k3 k5 newId))
    (hx : h.get? x = some o) (hc : o.cls = .ref C) (hd : o.dict = none) (hv : o.data = .fields vs) (h2 : PySem.W.Looks (model prog w) h (typeLookup (.ref C) name) none)
    (hq : ∀ h' tk' dx, h.get? dx = none → dx ≠ x → h'.get? x = some { o with dict := some dx } → h'.Ns1 dx (fun y => if y = name then some v else none) → (∀ b u, b ≠ x → h.get? b = some u → h'.get? b = some u) → Q (.done (.ret .none)) ⟨h', g, d, tk', os⟩) :
    wpAny (model prog w) A (Builtin.«object.__setattr__» ⟨[.ref x, .str name tk, v], []⟩) Q E ⟨h, g, d, t, os⟩ := by
  have pas := SF.passes (.ref x)
  unfold Builtin.«object.__setattr__»
  repeat (first | rw [refuse_eq] | (rw [refuseLoop_ref, refuseLoop_ref, pas]) | (with_reducible refine wpAny_loadPart_at hx ?_; rw [hc]) | with_reducible refine wpAny_mroOf_exc hC ?_ | with_reducible refine h2.at ?_ | wp_step)
  rw [hd, hv, if_neg (by simp [typeHasDict])]
  dsimp only
  generalize hod : ({ cls := .type "dict", data := .dict #[] } : Obj) = od
  have odf : od.isFreed = false := by rw [← hod]; rfl
  have ne : x ≠ h.objs.size := Nat.ne_of_lt (Heap.lt_size hx)
  have hx1 : (h.push od).get? x = some o := Heap.get?_push_of_some _ hx
  have of : o.isFreed = false := Obj.isFreed_of_fields hv
  refine wpAny_bind (wpAny_alloc' (wpAny_bind (wpAny_update' hx1 ?_)))
  refine wpAny_pure ?_
  generalize hh1 : ((h.push od).update x fun o => { cls := o.cls, dict := some h.objs.size, data := o.data, slots := o.slots }) = h1
  have g1 : h1.get? h.objs.size = some od := by rw [← hh1]; exact (Heap.get?_update_ne _ _ _ _ ne.symm).trans (Heap.get?_push_at rfl odf)
  have g2 : h1.get? x = some { o with dict := some h.objs.size } := by
    rw [← hh1]
    refine Heap.get?_update_self _ hx1 ?_
    obtain ⟨oc, odd, odt, osl⟩ := o
    cases odt <;> first | rfl | exact of
  have nsd : h1.Ns h.objs.size (fun _ => none) := ⟨od, #[], _, g1, by rw [← hod], fun e he => absurd he (by simp), fun _ => rfl⟩
  show wpAny _ _ (Builtin.ObjectAttr.storeInDict h.objs.size (.str name tk) name v) _ _ _
  unfold Builtin.ObjectAttr.storeInDict Builtin.ObjectAttr.newKeyGuard
  refine wpAny_bind (wpAny_pure (wpAny_bind (wpAny_nsSet1 (Heap.Ns1.of_empty nsd) fun h' hn' hs => ?_)))
  obtain ⟨oD, esD, epD, hoD, hdD, hcD⟩ := hn'.count (Within.cons name v Within.nil)
  refine wpAny_bind (wpAny_lookBehind hoD (by rw [hdD]; exact pastItsLine_dict (Nat.le_trans hcD (by rw [List.length_cons, List.length_nil, sizeLine_eq]; omega))) ?_)
  wp_walk
  refine hq h' _ h.objs.size (Heap.get?_none_of_le (Nat.le_refl _)) ne.symm ((hs.2 x ne).trans g2) ?_ fun b u nb hb => ?_
  · exact hn'
  · refine (hs.2 b (Nat.ne_of_lt (Heap.lt_size hb))).trans ?_
    rw [← hh1]
    exact (Heap.get?_update_ne _ _ _ _ nb).trans (Heap.get?_push_of_some _ hb)
theorem sa_all {vs : Array Value} {Q : Unit → Shared → Prop} (SF : StoreFacts B bmB sa owner) (hC : h.get? C = some (excClassObj nm q C N bs (.ref TE :: bmB) true sn sub ab col dd k0 k1 k2 k3 k5 newId))
    (hx : h.get? x = some o) (hc : o.cls = .ref C) (hd : o.dict = none) (hv : o.data = .fields vs) (h1 : PySem.W.Looks (model prog w) h (typeLookup (.ref C) "__setattr__") (some (.builtin sa))) (h2 : PySem.W.Looks (model prog w) h (typeLookup (.ref C) name) none)
    (hq : ∀ h' tk' dx, h.get? dx = none → dx ≠ x → h'.get? x = some { o with dict := some dx } → h'.Ns1 dx (fun y => if y = name then some v else none) → (∀ b u, b ≠ x → h.get? b = some u → h'.get? b = some u) → Q () ⟨h', g, d, tk', os⟩) :
    wpAny (model prog w) A (setAttr (.ref x) name v) Q E ⟨h, g, d, t, os⟩ := by
  have f3 := SF.slot.bind (.ref x)
  unfold setAttr callSpecial? specialOf
  repeat (any_goals (first | assumption | (with_reducible refine wpAny_loadPart_at hx ?_; rw [hc]) | with_reducible refine h1.at ?_ | wp_step))
  refine codeAny_call_builtin SF.slot.plain SF.entry (sa_check SF hC hx hc (sa_run SF hC hx hc hd hv h2 fun h' tk' dx e1 e2 e3 e4 e5 => ?_))
  repeat (any_goals (first | assumption | wp_step))
  exact hq h' tk' dx e1 e2 e3 e4 e5
end
theorem xc_store {x : Addr} {o : Obj} {vs : Array Value} {name : Str} {v : Value} {Q : Unit → Shared → Prop} (X : Xc h C) (hx : h.get? x = some o) (hc : o.cls = .ref C) (hd : o.dict = none) (hv : o.data = .fields vs)
    (h1 : PySem.W.Looks (model prog w) h (typeLookup (.ref C) "__setattr__") (some (.builtin "object.__setattr__"))) (h2 : PySem.W.Looks (model prog w) h (typeLookup (.ref C) name) none)
    (hq : ∀ h' tk' dx, h.get? dx = none → dx ≠ x → h'.get? x = some { o with dict := some dx } → h'.Ns1 dx (fun y => if y = name then some v else none) → (∀ b u, b ≠ x → h.get? b = some u → h'.get? b = some u) → Q () ⟨h', g, d, tk', os⟩) :
    wpAny (model prog w) A (setAttr (.ref x) name v) Q E ⟨h, g, d, t, os⟩ := by
  obtain ⟨nm, q, N, TE, bs, sn, sub, ab, col, dd, k0, k1, k2, k3, k5, mN, hC, hn, T⟩ := X.ob
  exact sa_all PySem.F.store_ValueError hC hx hc hd hv h1 h2 hq
end
end L2
namespace L2
open PySem PySem.Spec PyProof.Rows
abbrev xobj (C : Addr) (dd : Option Addr) (t : Addr) : Obj := { cls := .ref C, dict := dd, data := .fields #[.ref t, .none, .none, .none, .bool false, .none] }
section
variable {M : Model} {A : Around} {E : Value → Shared → Prop} {env : Env}
variable {nm q : Str} {C N : Addr} {bs bm : List Value} {hdct : Bool} {sn : List Str} {sub : List Value} {ab : Bool} {col : Option Bool} {dd : Option Addr} {k0 k1 k2 k3 k5 : Option Value} {newId : String}
theorem xc_raise0 {s : Shared} {x : Sem Value} {Q : Flow → Shared → Prop} (hb : bm.contains (.type "BaseException") = true) (hh : A.handled = none)
    (hw : wpAny M A x (fun v s1 => ∃ e t dx, v = .ref e ∧ s1.heap.get? C = some (excClassObj nm q C N bs bm hdct sn sub ab col dd k0 k1 k2 k3 k5 newId) ∧ s1.heap.get? e = some (xobj C dx t) ∧ E (.ref e) s1) E s) :
    wpAny M A (raiseStmt env (some x) none) Q E s := by
  have hcB : (Value.ref C :: bm).contains (.type "BaseException") = true := by rw [List.contains_cons, hb, Bool.or_true]
  unfold raiseStmt
  refine wpAny_bind (wpAny_mono hw (fun v s1 h1 => ?_) fun _ _ y => y)
  obtain ⟨e, t, dx, rfl, hC, he, hE⟩ := h1
  obtain ⟨hp, g, d, tk, os⟩ := s1
  repeat (first | with_reducible refine wpAny_loadPart_at he ?_ | with_reducible refine wpAny_loadPart_at hC ?_ | (with_reducible refine wpAny_isSubtype_exc hC ?_; rw [hcB]) | wp_step)
  exact wpAny_raiseNew_none hh hE
end
theorem init_ok {P : Program} {w : World} {K : PySem.W.Frag} {mg : Str → Option Value} {base : Heap} {k : Nat} {f : Addr} {name qual : Str} {params : Arguments} {scope : Scope} {dV kV doc pm cdv ct oc : Value} {an od : Option Addr} {osl : Array (Option Value)}
    {me par fld : Str} {p1 p2 p3 p4 : Pos} {C e t : Addr} {A : Around} {outer : List Env} {s : Shared} {H : Hp} {args : Args} {u : Value} {v : V}
    (lk : K.lookup f = some ⟨oc, od, .func (PySem.W.fnOf name qual params [.Assign [.Attribute (.Name me p1) fld p2] (.Name par p3) p4] scope dV kV doc pm an cdv ct), osl⟩) (hcd : PySem.W.codeIn K cdv qual = true) (S : FnScope [me, par] [me, par] scope)
    (d1 : (me == ("__debug__" : Str)) = false) (d2 : (me == ("__classdict__" : Str)) = false) (d3 : (par == ("__debug__" : Str)) = false) (d4 : (par == ("__classdict__" : Str)) = false)
    (sw : ∀ env, swapsWith (.Name par p3) (some (.Attribute (.Name me p1) fld p2)) p4.line env = pure false)
    (f1 : PySem.W.findIn K (.ref C) "__setattr__" = some (some (.builtin "object.__setattr__"))) (f2 : PySem.W.findIn K (.ref C) fld = some none)
    (hr : Room (k + 1) A) (e0 : Env0 P w K mg base A outer s H) (hb : BindsTo s (PySem.W.fnOf name qual params [.Assign [.Attribute (.Name me p1) fld p2] (.Name par p3) p4] scope dV kV doc pm an cdv ct) args [(me, .ref e), (par, u)]) (r : RelV v u)
    (hx : XcK K C) (he : s.heap.get? e = some (xobj C none t)) (hn : H e = none) (hf : e ∉ frs outer) :
    codeAny (model P w) A (.call (.ref f) args) (fun r s' => r = .ok (.ret .none) ∧ s'.os = s.os ∧ AllBare s'.gens ∧ Un (frs outer) [e] H H s.heap s'.heap ∧ HOk P w H s'.heap ∧
      ∃ dx u', s.heap.get? dx = none ∧ dx ≠ e ∧ s'.heap.get? e = some (xobj C (some dx) t) ∧ s'.heap.Ns1 dx (fun y => if y = fld then some u' else none) ∧ RelV v u') s := by
  have KX : K.In s.heap := e0.mod.kin.keeps fun b o e => (e0.bs b o e).1
  have lim : s.heap.NoLimit := e0.mod.nolimit.keeps fun b o e => (e0.bs b o e).1
  have hkind : ∀ y ∈ [(me, Value.ref e), (par, u)], scope.names.lookup y.1 = some .local ∨ (scope.names.lookup y.1 = some .cell ∧ ((cellsFrom (s.heap.objs.size + 1) scope.names []).lookup y.1).isSome = true) := fun ⟨n, x⟩ hy => by
    have hm : n ∈ [me, par] := by
      rcases List.mem_cons.mp hy with z | z
      · cases z; exact List.mem_cons_self
      · cases List.mem_singleton.mp z; exact List.mem_cons_of_mem _ List.mem_cons_self
    rcases S.par n hm with q | q
    · exact .inl q
    · exact .inr ⟨q, PySem.W.cellsFrom_some _ _ _ (.inl q)⟩
  refine codeAny_call_function hr.depth (KX _ _ lk) rfl S.co S.gen rfl (PySem.W.codeRec_of KX hcd) (hb _ _ _ _ ?_)
  refine wpAny_newFunctionEnv_cells S.kind hkind fun env hv s1 x => ?_
  subst hv
  refine ⟨lim.keeps x.toInCall.keep, codeAny_func ?_⟩
  have I : Inv (cxOf (fun _ _ _ _ _ _ => False) P w K mg base [me, par] qual scope f cdv A outer s H fun _ _ _ => True) [] (start [me, par] [V.ref e, v]) H s1 := inv_start (vs := [V.ref e, v]) (us := [Value.ref e, u]) S hr.hd e0 rfl (.cons rfl (.cons r .nil)) x
  generalize hX : (cxOf (fun _ _ _ _ _ _ => False) P w K mg base [me, par] qual scope f cdv A outer s H fun _ _ _ => True) = X at I
  have J := I.wish fun _ _ => False
  have N0 : X.N[0]? = some me := by rw [← hX]; rfl
  have N1 : X.N[1]? = some par := by rw [← hX]; rfl
  have vis : ∀ n ∈ [me, par], Vis X.env.scope n := fun n hn => by
    rw [← hX]
    exact (S.par n hn).elim (fun q => .inl q) fun q => .inr (.inl q)
  have pv := pe_var (X := X.nox) (pos := p3) N1 (vis par (List.mem_cons_of_mem _ List.mem_cons_self)) d3 d4
  have pm := pe_var (X := X.nox) (pos := p1) N0 (vis me List.mem_cons_self) d1 d2
  have hp : X.prog = P := by rw [← hX]; rfl
  have hw : X.w = w := by rw [← hX]; rfl
  have main : wpAny (model X.prog X.w) X.A (execs [.Assign [.Attribute (.Name me p1) fld p2] (.Name par p3) p4] X.env) (fun fl s' => fl = .next ∧ s'.os = s.os ∧ AllBare s'.gens ∧ Un (frs outer) [e] H H s.heap s'.heap ∧ HOk P w H s'.heap ∧
      ∃ dx u', s.heap.get? dx = none ∧ dx ≠ e ∧ s'.heap.get? e = some (xobj C (some dx) t) ∧ s'.heap.Ns1 dx (fun y => if y = fld then some u' else none) ∧ RelV v u') (fun _ _ => False) s1 := by
    refine wpAny_execs_cons (plainObj_wpAny_Assign_Attribute (thn (pv [] s1 _ H (fun x H' => x = v ∧ H' = H) J ⟨v, rfl, rfl, rfl⟩) fun u2 s2 zz => el5 zz fun x2 H2 I2 r2 q2 => ?_) (sw _))
    obtain ⟨rfl, rfl⟩ := q2
    refine thn (pm [] s2 _ H2 (fun x H' => x = .ref e ∧ H' = H2) I2 ⟨.ref e, rfl, rfl, rfl⟩) fun ov s3 zz => el5 zz fun x3 H3 I3 r3 q3 => ?_
    obtain ⟨rfl, rfl⟩ := q3
    obtain rfl : ov = Value.ref e := r3
    have b3 : Un (frs outer) [] H3 H3 s.heap s3.heap := by have := I3.base; rw [← hX] at this; exact this
    have he3 : s3.heap.get? e = some (xobj C none t) := b3.keep e _ he hn hf (by intro z; cases z)
    have K3 : K.In s3.heap := by have := I3.kIn; rw [← hX] at this; exact this
    have bk3 : ∀ b o, base.get? b = some o → s3.heap.get? b = some o := by have := I3.bk; rw [← hX] at this; exact this
    have hk3 : HOk P w H3 s3.heap := by have := I3.hok; rw [← hX] at this; exact this
    have os3' : s3.os = s.os := by have := I3.os; rw [← hX] at this; exact this
    have ba3 := I3.bare
    obtain ⟨h3, g3, dr3, t3, os3⟩ := s3
    refine xc_store (hx.xc K3) he3 rfl rfl rfl (PySem.W.looks_findIn K3 f1) (PySem.W.looks_findIn K3 f2) fun h' tk' dx n1 n2 n3 n4 n5 => ?_
    refine wpAny_execs_nil ⟨rfl, os3', ba3, ?_, ?_, dx, u2, ?_, n2, n3, n4, r2⟩
    · have u2 : Un (frs outer) [e] H3 H3 h3 h' := ⟨fun b o q _ _ nx => n5 b o (fun z => nx (by rw [z]; exact List.mem_cons_self)) q, fun b o q _ _ nx => ⟨o.slots, n5 b o (fun z => nx (by rw [z]; exact List.mem_cons_self)) q⟩, fun _ _ _ n _ => n,
        fun b o q nx => ⟨o, n5 b o (fun z => nx (by rw [z]; exact List.mem_cons_self)) q⟩, fun _ _ q => q, fun _ _ _ q => q, fun _ ps q => ⟨#[], by rw [q]; simp⟩⟩
      exact (b3.mono (fun _ z => z) fun _ z => absurd z (by simp)).trans u2
    · refine fun b o q => (hk3 b o q).stay (fun c u' hc z => n5 c u' (fun y => ?_) z) (fun _ q => q) fun _ _ q => q
      subst y
      rcases hc with y | y
      · rw [y] at hn; rw [hn] at q; cases q
      · rw [hn] at y; cases y
    · cases z : s.heap.get? dx with
      | none => rfl
      | some o =>
        obtain ⟨o', q⟩ := b3.there dx o z (by simp)
        rw [n1] at q; cases q
  have main' : wpAny (model P w) (A.deeper (envOfC qual scope s.heap.objs.size f cdv)) (execs [.Assign [.Attribute (.Name me p1) fld p2] (.Name par p3) p4] (envOfC qual scope s.heap.objs.size f cdv)) (fun fl s' => fl = .next ∧ s'.os = s.os ∧ AllBare s'.gens ∧ Un (frs outer) [e] H H s.heap s'.heap ∧ HOk P w H s'.heap ∧
      ∃ dx u', s.heap.get? dx = none ∧ dx ≠ e ∧ s'.heap.get? e = some (xobj C (some dx) t) ∧ s'.heap.Ns1 dx (fun y => if y = fld then some u' else none) ∧ RelV v u') (fun _ _ => False) s1 := by
    rw [← hX] at main; exact main
  refine wpAny_mono main' (fun fl s' hs => ?_) fun _ _ z => z.elim
  obtain ⟨rfl, hs⟩ := hs
  exact ⟨rfl, hs⟩
def InitP (P : Program) (w : World) (K : PySem.W.Frag) (mg : Str → Option Value) (base : Heap) (k : Nat) (f C : Addr) (fld : Str) : Prop :=
  ∀ (A : Around) (outer : List Env) (s : Shared) (H : Hp) (u : Value) (v : V) (e t : Addr), Room k A → Env0 P w K mg base A outer s H → RelV v u → s.heap.get? e = some (xobj C none t) → H e = none → e ∉ frs outer →
    codeAny (model P w) A (.call (.ref f) ⟨[.ref e, u], []⟩) (fun r s' => r = .ok (.ret .none) ∧ s'.os = s.os ∧ AllBare s'.gens ∧ Un (frs outer) [e] H H s.heap s'.heap ∧ HOk P w H s'.heap ∧
      ∃ dx u', s.heap.get? dx = none ∧ dx ≠ e ∧ s'.heap.get? e = some (xobj C (some dx) t) ∧ s'.heap.Ns1 dx (fun y => if y = fld then some u' else none) ∧ RelV v u') s
theorem initP_of {P : Program} {w : World} {K : PySem.W.Frag} {mg : Str → Option Value} {base : Heap} {k : Nat} {f : Addr} {name qual : Str} {params : Arguments} {scope : Scope} {dV kV doc pm cdv ct oc : Value} {an od : Option Addr} {osl : Array (Option Value)}
    {me par fld : Str} {p1 p2 p3 p4 : Pos} {C : Addr}
    (lk : K.lookup f = some ⟨oc, od, .func (PySem.W.fnOf name qual params [.Assign [.Attribute (.Name me p1) fld p2] (.Name par p3) p4] scope dV kV doc pm an cdv ct), osl⟩) (hcd : PySem.W.codeIn K cdv qual = true) (S : FnScope [me, par] [me, par] scope)
    (d1 : (me == ("__debug__" : Str)) = false) (d2 : (me == ("__classdict__" : Str)) = false) (d3 : (par == ("__debug__" : Str)) = false) (d4 : (par == ("__classdict__" : Str)) = false)
    (sw : ∀ env, swapsWith (.Name par p3) (some (.Attribute (.Name me p1) fld p2)) p4.line env = pure false)
    (f1 : PySem.W.findIn K (.ref C) "__setattr__" = some (some (.builtin "object.__setattr__"))) (f2 : PySem.W.findIn K (.ref C) fld = some none) (hx : XcK K C)
    (hb : Binds K (PySem.W.fnOf name qual params [.Assign [.Attribute (.Name me p1) fld p2] (.Name par p3) p4] scope dV kV doc pm an cdv ct) [me, par] []) : InitP P w K mg base (k + 1) f C fld :=
  fun A outer s H u v e t hr e0 r he hn hf => init_ok lk hcd S d1 d2 d3 d4 sw f1 f2 hr e0 (hb s [.ref e, u] (e0.mod.kin.keeps fun b o q => (e0.bs b o q).1) rfl) r hx he hn hf
section
variable {X : Cx} {pins : List (Addr × Obj)} {σ : St} {H : Hp} {s : Shared} {C f : Addr} {fld : Str} {k : Nat}
theorem ObjOk.there {P : Program} {w : World} {H : Hp} {h : Heap} {a : Addr} {o : HO} (x : ObjOk P w H h a o) : ∃ u, h.get? a = some u := by
  cases o with
  | lst xs => exact x.2.elim fun _ y => y.elim fun _ z => ⟨_, z.2⟩
  | tup xs => exact x.2.elim fun _ z => z.2.elim fun _ y => ⟨_, y.1⟩
  | dK kvs => exact x.2.2.elim fun _ z => z.2.elim fun _ y => y.elim fun _ y => y.elim fun _ y => ⟨_, y.1⟩
  | dT kvs => exact x.2.2.elim fun _ z => z.2.elim fun _ y => y.elim fun _ y => y.elim fun _ y => ⟨_, y.1⟩
  | set S n => exact x.elim fun _ y => y.elim fun _ y => y.elim fun _ y => y.elim fun _ y => ⟨_, y.1⟩
  | ins C dx fs => exact ⟨_, x.2.2.2.1⟩
  | own y => exact x
  | xd fs => exact x.elim fun _ z => z.1.elim fun _ y => y.elim fun _ y => y.elim fun _ y => ⟨_, y.1⟩
  | rng lo hi => exact x.elim fun _ y => y.elim fun _ y => y.elim fun _ y => ⟨_, y⟩
  | frz ob u => exact ⟨_, x.1⟩
  | tbl ps => exact ⟨_, x⟩
  | met f y => exact ⟨_, x⟩
  | ext φ => exact x.2.1
theorem HOk.gone {P : Program} {w : World} {H : Hp} {h : Heap} (x : HOk P w H h) {a : Addr} (e : h.get? a = none) : H a = none := by
  cases q : H a with
  | none => rfl
  | some o =>
    obtain ⟨u, z⟩ := (x a o q).there
    rw [e] at z; cases z
theorem made_init {u : Value} {v : V} {Q : Value → Shared → Prop} (I : Inv X pins σ H s) (hr : Room (k + 1) X.A) (hx : XcK X.K C) (F : InitP X.prog X.w X.K X.mg X.base k f C fld)
    (fi : PySem.W.findIn X.K (.ref C) "__init__" = some (some (.ref f))) (fn : PySem.W.typeIn X.K (.ref f) = some (.type "function")) (r : RelV v u)
    (hq : ∀ a dx t s', Inv X pins σ (upd H dx (.xd [(fld, v)])) s' → s.heap.get? a = none → s.heap.get? dx = none → H dx = none → H a = none → dx ≠ a → s'.heap.get? a = some (xobj C (some dx) t) → Q (.ref a) s') : wpAny (model X.prog X.w) X.A (call (.ref C) [u]) Q X.xe s := by
  have KX := I.kIn
  obtain ⟨h, g, d, t, os⟩ := s
  refine xc_call (hx.xc KX) (PySem.W.looks_findIn KX fi) (fun self => PySem.W.bind_fn KX self fn) (fun h' e hz hm => ?_) (by show 1 ≤ sizeLine; decide)
  have I1 : Inv X pins σ H ⟨h', g, d, t, os⟩ := I.kept (h' := h') (t' := t) hm.keeps
  obtain ⟨t0, he, ht0, htu⟩ := hm.there
  have nfs : e ∉ frs X.stack := fun z => by
    rcases List.mem_cons.mp (I.stkSub e z) with q | q
    · exact absurd (q ▸ I.lt) (Nat.not_lt.mpr hz)
    · exact I.nofs hz q
  refine wpAny_call (codeAny_mono (F _ X.stack ⟨h', g, d, t, os⟩ H u v e t0 (hr.make C [u] []) (I1.env0.make C [u] []) r he (I.hok.fresh hz) nfs) fun rr s' hh => ?_)
  obtain ⟨rfl, hos, hba, hun, hok, dx, u', n1, n2, n3, n4, n5⟩ := hh
  have hd0 : h.get? dx = none := by
    cases z : h.get? dx with
    | none => rfl
    | some o => have := hm.keeps dx o z; rw [n1] at this; cases this
  have hH : H dx = none := HOk.gone I.hok hd0
  have un2 : Un (frs X.stack) [e] H (upd H dx (.xd [(fld, v)])) h' s'.heap := ⟨hun.keep, hun.slot, fun b o q n nx => by rw [upd_ne (fun z => by rw [z, n1] at q; cases q)]; exact hun.free b o q n nx, hun.there,
    fun b xs q => by rw [upd_ne (ne_of_none q hH)]; exact hun.tups b xs q, fun b o u q => by rw [upd_ne (ne_of_none q hH)]; exact hun.frzs b o u q, fun b ps q => by rw [upd_ne (ne_of_none q hH)]; exact hun.tbls b ps q⟩
  have hok2 : HOk X.prog X.w (upd H dx (.xd [(fld, v)])) s'.heap := fun b o q => by
    by_cases hb : b = dx
    · subst hb
      rw [upd_same] at q
      cases q
      refine ⟨_, n4, fun y => ?_⟩
      by_cases hy : y = fld
      · subst hy; simp [RelO, n5]
      · have : (y == fld) = false := beq_eq_false_iff_ne.mpr hy
        simp [RelO, List.lookup, this, hy]
    · rw [upd_ne hb] at q
      refine (hok b o q).stay (fun _ _ _ z => z) (fun c z => ?_) fun c xs z => ?_
      · rw [upd_ne (ne_of_none z hH)]; exact z
      · rw [upd_ne (ne_of_none z hH)]; exact z
  refine ⟨rfl, hq e dx t0 s' (I1.call' hos un2 hok2 hba fun b hb => ?_) hm.new hd0 hH (I.hok.fresh hz) n2 n3⟩
  obtain rfl : b = e := by simpa using hb
  refine ⟨.inr (Nat.le_trans I.sz hz), fun q => absurd (q ▸ I.lt) (Nat.not_lt.mpr hz), fun x c q z => ?_, fun p hp z => ?_⟩
  · obtain ⟨cv, hcv⟩ := I.cell x c q
    exact absurd (z ▸ hcv.lt) (Nat.not_lt.mpr hz)
  · exact absurd (z ▸ Heap.lt_size (I.pin p hp).1) (Nat.not_lt.mpr hz)
end
end L2
namespace L2
open PySem PySem.Spec PyProof.Rows
structure Xs (h : Heap) (a C : Addr) (dd tb : Option Addr) : Prop where
  ob : Xo h a C dd (match tb with | none => .none | some T => .ref T)
  en : ∀ T, tb = some T → T ≠ a ∧ ∃ o ts, h.get? T = some o ∧ o.data = .fields ts ∧ ts[3]? = some .none
def CXe (P : Program) (w : World) : CXT := fun outer H s E e s' => ∃ a C dd tb H', e = .ref a ∧ s'.os = s.os ∧ AllBare s'.gens ∧ Un (frs outer) [] H H' s.heap s'.heap ∧ HOk P w H' s'.heap ∧
  s.heap.get? a = none ∧ (∀ T, tb = some T → s.heap.get? T = none ∧ H' T = none) ∧ H' a = none ∧ Xs s'.heap a C dd tb ∧ E (.ref C) dd H'
section
variable {M : Model} {X : Cx} {pins : List (Addr × Obj)} {σ : St} {H : Hp} {s : Shared} {a C : Addr} {dd tb : Option Addr}
abbrev hidX (X : Cx) (h : Heap) (a : Addr) (tb : Option Addr) : Heap := PySem.W.hideAll h (frs X.stack ++ a :: tb.toList)
theorem Xs.fly (I : Inv X pins σ H s) (x : Xs s.heap a C dd tb) : Fly (hidX X s.heap a tb) X.stack a C dd s.heap where
  stay := fun _ _ e => PySem.W.of_hideAll _ e
  new := PySem.W.hideAll_none _ (List.mem_append_right _ List.mem_cons_self)
  fr := PySem.W.funFrames_hide I.stack fun env he b hb => List.mem_append_left _ (List.mem_filterMap.mpr ⟨env, he, hb⟩)
  ob := by
    refine ⟨_, x.ob, ?_⟩
    cases tb with
    | none => exact .inl rfl
    | some T =>
      obtain ⟨n, o, ts, h1, h2, h3⟩ := x.en T rfl
      exact .inr ⟨T, o, ts, rfl, PySem.W.hideAll_none _ (List.mem_append_right _ (List.mem_cons_of_mem _ (by simp))), n, h1, h2, h3⟩
theorem hidX_keep {h' : Heap} (F : (hidX X s.heap a tb).StaysIn h') {b : Addr} {o : Obj} (e : s.heap.get? b = some o) (n1 : b ∉ frs X.stack) (n2 : b ≠ a) (n3 : tb ≠ some b) : h'.get? b = some o :=
  F b o (PySem.W.hideAll_get _ e fun z => by
    rcases List.mem_append.mp z with z | z
    · exact n1 z
    · rcases List.mem_cons.mp z with z | z
      · exact n2 z
      · cases tb with
        | none => cases z
        | some T => exact n3 (by rw [List.mem_singleton.mp z]))
theorem hidX_hok {h' : Heap} (I : Inv X pins σ H s) (F : (hidX X s.heap a tb).StaysIn h') (ha : H a = none) (ht : ∀ T, tb = some T → H T = none) : HOk X.prog X.w H h' := fun b o q =>
  (I.hok b o q).stay (fun c u hc e => by
    have hs : ∃ y, H c = some y := by
      rcases hc with z | z
      · exact ⟨o, z ▸ q⟩
      · exact ⟨_, z⟩
    obtain ⟨y, hy⟩ := hs
    refine hidX_keep F e (fun z => ?_) (fun z => ?_) fun z => ?_
    · rw [I.stkFree c z] at hy; cases hy
    · rw [z, ha] at hy; cases hy
    · rw [ht c z] at hy; cases hy) (fun _ z => z) fun _ _ z => z
theorem Xs.of_fly {l : List Env} {h' : Heap} (I : Inv X pins σ H s) (F : Fly (hidX X s.heap a tb) l a C dd h') (U : s.heap.UpToSlots h') (nt : ∀ T, tb = some T → X.s₀.heap.get? T = none ∧ H T = none) :
    ∃ tb', Xs h' a C dd tb' ∧ (∀ T, tb' = some T → X.ex = [] → X.s₀.heap.get? T = none ∧ H T = none) ∧ ∀ T, tb' = some T → tb = some T ∨ s.heap.get? T = none := by
  obtain ⟨v, ob, te⟩ := F.ob
  rcases te with rfl | ⟨T, o, ts, rfl, hb, n, h1, h2, h3⟩
  · exact ⟨none, ⟨ob, fun T z => nomatch z⟩, (fun T z => nomatch z), fun T z => nomatch z⟩
  · have key : tb = some T ∨ s.heap.get? T = none := by
      cases hs : s.heap.get? T with
      | none => exact .inr rfl
      | some u =>
        by_cases ht : tb = some T
        · exact .inl ht
        · exfalso
          by_cases hf : T ∈ frs X.stack
          · obtain ⟨_, u', hu, nf⟩ := I.stack.mem hf
            obtain ⟨sl, z⟩ := U T u' hu nf
            rw [h1] at z
            cases z
            exact nf ts h2
          · have z : (hidX X s.heap a tb).get? T = some u := PySem.W.hideAll_get _ hs fun z => by
              rcases List.mem_append.mp z with z | z
              · exact hf z
              · rcases List.mem_cons.mp z with z | z
                · exact n z
                · cases tb with
                  | none => cases z
                  | some T' => exact ht (by rw [List.mem_singleton.mp z])
            rw [hb] at z; cases z
    refine ⟨some T, ⟨ob, fun T' z => ?_⟩, fun T' z hex => ?_, fun T' z => ?_⟩
    · cases z; exact ⟨n, o, ts, h1, h2, h3⟩
    · cases z
      rcases key with ht | hs
      · exact nt T ht
      · refine ⟨?_, HOk.gone I.hok hs⟩
        cases z : X.s₀.heap.get? T with
        | none => rfl
        | some u =>
          obtain ⟨u', y⟩ := I.base.there T u z (by rw [hex]; simp)
          rw [hs] at y; cases y
    · cases z; exact key
theorem leave_exc {E : XK} {E' : Value → Shared → Prop} (I : Inv X pins σ H s) (hst : X.stack = X.env :: X.outer) (hfr : X.env.frame = some X.env.locals) (hex : X.ex = [])
    (x : Xs s.heap a C dd tb) (na : X.s₀.heap.get? a = none) (nt : ∀ T, tb = some T → X.s₀.heap.get? T = none ∧ H T = none) (ha : H a = none) (q : E (.ref C) dd H) :
    wpAny (model X.prog X.w) X.A (leaving X.env (.ref a)) (fun _ s'' => CXe X.prog X.w X.outer X.H₀ X.s₀ E (.ref a) s'') E' s := by
  have F := x.fly I
  rw [hst] at F
  refine fly_leave (by rw [← hst]; exact I.ok.frames) hfr F fun h' F' U => ?_
  obtain ⟨tb', x', nt', _⟩ := Xs.of_fly I F' U nt
  have nl : ∀ b o, X.s₀.heap.get? b = some o → b ∉ X.fs → b ∉ frs X.stack := fun b o e nb z => by
    rw [hst] at z
    unfold frs at z
    rw [List.filterMap_cons, hfr] at z
    rcases List.mem_cons.mp z with z | z
    · exact absurd (z ▸ Heap.lt_size e) (Nat.not_lt.mpr I.ok.above)
    · exact nb z
  have nb : ∀ b o, X.s₀.heap.get? b = some o → b ≠ a ∧ tb ≠ some b := fun b o e => ⟨fun z => (by rw [z, na] at e; cases e), fun z => (by rw [(nt b z).1] at e; cases e)⟩
  have nex : ∀ b, b ∉ X.ex := fun b z => by rw [hex] at z; cases z
  refine ⟨a, C, dd, tb', H, rfl, I.os, I.bare, ⟨fun b o e n nf _ => ?_, fun b o e n hf _ => ?_, fun b o e n _ => I.base.free b o e n (nex b), fun b o e _ => ?_, I.base.tups, I.base.frzs, I.base.tbls⟩, hidX_hok I F'.stay ha fun T z => (nt T z).2, na, fun T z => nt' T z hex, ha, x', q⟩
  · exact hidX_keep F'.stay (I.base.keep b o e n nf (nex b)) (nl b o e nf) (nb b o e).1 (nb b o e).2
  · obtain ⟨sl, e1⟩ := I.base.slot b o e n hf (nex b)
    obtain ⟨_, u, hu, nf⟩ := I.ok.funs.mem hf
    rw [e] at hu
    cases hu
    obtain ⟨sl', e2⟩ := U b _ e1 nf
    exact ⟨sl', e2⟩
  · obtain ⟨u, e1⟩ := I.base.there b o e (nex b)
    by_cases hf : b ∈ frs X.stack
    · obtain ⟨_, u', hu, nf⟩ := I.stack.mem hf
      obtain ⟨sl, z⟩ := U b u' hu nf
      exact ⟨_, z⟩
    · exact ⟨u, hidX_keep F'.stay e1 hf (nb b o e).1 (nb b o e).2⟩
end
def Rzs (X : Cx) (E : XK) : Prop := ∀ (pins : List (Addr × Obj)) (σ : St) (H : Hp) (s : Shared) (a C : Addr) (dd tb : Option Addr), Inv X pins σ H s → Xs s.heap a C dd tb → X.s₀.heap.get? a = none → (∀ T, tb = some T → X.s₀.heap.get? T = none ∧ H T = none) → H a = none →
  (∀ p ∈ X.pn ++ pins, p.1 ≠ a ∧ tb ≠ some p.1) → E (.ref C) dd H → X.xe (.ref a) s
theorem rzs_of {P : Program} {w : World} {K : PySem.W.Frag} {mg : Str → Option Value} {base : Heap} {N : List Str} {qual : Str} {scope : Scope} {f : Addr} {cd : Value} {A : Around} {outer : List Env} {s : Shared} {H : Hp} {E : XK} :
    Rzs (cxOf (CXe P w) P w K mg base N qual scope f cd A outer s H E) E := fun pins σ H' s' a C dd tb I x na nt ha _ q => leave_exc (X := cxOf (CXe P w) P w K mg base N qual scope f cd A outer s H E) I rfl rfl rfl x na nt ha q
section
variable {X : Cx} {E : XK}
theorem passes_of (hex : X.ex = []) (R : Rzs X E) : Passes (CXe X.prog X.w) X E := fun pins σ H s e s' I h => by
  obtain ⟨a, C, dd, tb, H', rfl, os, ba, un, hok, na, nt, ha, x, q⟩ := h
  have old : ∀ b, s.heap.get? b = none → X.s₀.heap.get? b = none := fun b e => by
    cases z : X.s₀.heap.get? b with
    | none => rfl
    | some o =>
      obtain ⟨u, y⟩ := I.base.there b o z (by rw [hex]; simp)
      rw [e] at y; cases y
  exact R pins σ H' s' a C dd tb (I.call' os un hok ba fun b hb => absurd hb (by simp)) x (old a na) (fun T z => ⟨old T (nt T z).1, (nt T z).2⟩) ha (fun p hp => ⟨fun z => (by have := (I.pin p hp).1; rw [z, na] at this; cases this), fun z => (by have := (I.pin p hp).1; rw [(nt _ z).1] at this; cases this)⟩) q
variable {x fld : Str} {p cp pos : Pos} {e : Expr} {t : TA} {C f : Addr} {k : Nat}
def tRz (C : Addr) (fld : Str) (E : XK) (t : TA) : TS := fun _ σ H => t σ H fun vs H1 => ∃ v, vs = [v] ∧ ∀ dx, H1 dx = none → E (.ref C) (some dx) (upd H1 dx (.xd [(fld, v)]))
theorem ps_raise (R : Rzs X E) (hex : X.ex = []) (hcalm : X.calm = true) (hr : Room (k + 1) X.A) (hg : Gl X x) (hm : X.mg x = some (.ref C)) (kp : PySem.W.keepIn X.K (.ref C) = true) (hx : XcK X.K C) (F : InitP X.prog X.w X.K X.mg X.base k f C fld)
    (fi : PySem.W.findIn X.K (.ref C) "__init__" = some (some (.ref f))) (fn : PySem.W.typeIn X.K (.ref f) = some (.type "function")) (ha : PA X [e] t)
    (hdb : (x == ("__debug__" : Str)) = false := by decide) (he : starEach [e] X.env = (false, eval e X.env) :: starEach [] X.env := by rfl) (hpl : (backTo cp (starEach [] X.env)).any (·.1) = false := by rfl) :
    PS X (.Raise (some (.Call (.Name x p) [e] [] cp)) none pos) (tRz C fld E t) := by
  intro pins s σ H D I h
  have hh : X.A.handled = none := I.ok.hd hcalm
  obtain ⟨nm, q, N, TE, bs, sn, sub, ab, col, dd, k0, k1, k2, k3, k5, hC, hn, T⟩ := hx.ob
  rw [arm_exec_Raise]
  refine wpAny_bind (wpAny_standAt (xc_raise0 (C := C) (nm := nm) (q := q) (N := N) (bs := bs) (bm := .ref TE :: VE) (hdct := true) (sn := sn) (sub := sub) (ab := ab) (col := col) (dd := dd) (k0 := k0) (k1 := k1) (k2 := k2) (k3 := k3) (k5 := k5) (newId := "ValueError.__new__") (by rw [List.contains_cons]; rfl) hh ?_))
  refine wpAny_bind (wpAny_mono (Q := fun v s1 => ∃ e t dx, v = .ref e ∧ s1.heap.get? C = some _ ∧ s1.heap.get? e = some (xobj C dx t) ∧ X.xe (.ref e) s1) ?_ (fun v s3 h3 => wpAny_bind (wpAny_standAt (wpAny_pure h3))) fun _ _ y => y)
  refine wpAny_Call_Name_kw (ld_glob I hg hm ?_ hdb)
  refine PySem.W.callWith_K (h₀ := X.base) I.ok.mod.kin kp (thn (ha cp pins s σ H _ I h) fun us s1 zz => el5 zz fun vs H1 I1 r q => ⟨I1.kIn, ?_⟩) he hpl
  obtain ⟨v, rfl, q⟩ := q
  cases r with
  | cons r r' =>
    cases r'
    have old : ∀ b, s1.heap.get? b = none → X.s₀.heap.get? b = none := fun b e => by
      cases z : X.s₀.heap.get? b with
      | none => rfl
      | some o =>
        obtain ⟨u, y⟩ := I1.base.there b o z (by rw [hex]; simp)
        rw [e] at y; cases y
    refine made_init I1 hr hx F fi fn r fun a dx t s' I' na nd hd hA ne ob => ⟨a, t, some dx, rfl, I'.kIn _ _ hC, ob, ?_⟩
    refine R pins σ _ s' a C (some dx) none I' ⟨⟨_, _, ob, rfl, rfl, rfl, rfl⟩, fun T z => nomatch z⟩ (old a na) (fun T z => nomatch z) ?_ (fun p hp => ⟨fun z => (by have := (I1.pin p hp).1; rw [z, na] at this; cases this), fun z => nomatch z⟩) (q dx hd)
    rw [upd_ne (Ne.symm ne)]; exact hA
end
end L2
namespace L2
open PySem PySem.Spec PyProof.Rows
structure Xc0 (K : PySem.W.Frag) (C : Addr) : Prop where
  ob : ∃ (nm q : Str) (N TE : Addr) (bs : List Value) (sn : List Str) (sub : List Value) (ab : Bool) (col : Option Bool) (dd : Option Addr) (k0 k1 k2 k3 k5 : Option Value),
    K.lookup C = some (excClassObj nm q C N bs (.ref TE :: VE) true sn sub ab col dd k0 k1 k2 k3 k5 "ValueError.__new__") ∧ PySem.W.nsOkIn K N = true ∧ PySem.W.nsIn K N "__init__" = some none ∧ PySem.W.tailIn K VE (.ref TE :: VE) = true
section
variable {X : Cx} {pins : List (Addr × Obj)} {σ : St} {H : Hp} {s : Shared} {C f : Addr} {E : XK}
theorem made0 {u : Value} {Q : Value → Shared → Prop} (I : Inv X pins σ H s) (hx : Xc0 X.K C)
    (hq : ∀ a t s', Inv X pins σ H s' → s.heap.get? a = none → H a = none → s'.heap.get? a = some (xobj C none t) → Q (.ref a) s') : wpAny (model X.prog X.w) X.A (call (.ref C) [u]) Q X.xe s := by
  obtain ⟨nm, q, N, TE, bs, sn, sub, ab, col, dd, k0, k1, k2, k3, k5, hC, hn, hi, T⟩ := hx.ob
  obtain ⟨h, g, d, t, os⟩ := s
  refine wpAny_call_exc_subT PySem.F.excBase_ValueError (PySem.W.tail_of_in I.kIn T) (I.kIn _ _ hC) (.of_isNs (PySem.W.isNs_of_in I.kIn hn)) (PySem.W.nsMap_none_of_in I.kIn hn hi) (fun h' e hm => ?_) (by show 1 ≤ sizeLine; decide)
  obtain ⟨t0, he, ht0, htu⟩ := hm.there
  exact hq e t0 _ (I.kept (h' := h') (t' := t) hm.keeps) hm.new (HOk.gone I.hok hm.new) he
variable {x : Str} {p cp pos : Pos} {e : Expr} {t : TA}
def tRz0 (C : Addr) (E : XK) (t : TA) : TS := fun _ σ H => t σ H fun vs H1 => (∃ v, vs = [v]) ∧ E (.ref C) none H1
theorem ps_raise0 (R : Rzs X E) (hex : X.ex = []) (hcalm : X.calm = true) (hg : Gl X x) (hm : X.mg x = some (.ref C)) (kp : PySem.W.keepIn X.K (.ref C) = true) (hx : Xc0 X.K C) (ha : PA X [e] t)
    (hdb : (x == ("__debug__" : Str)) = false := by decide) (he : starEach [e] X.env = (false, eval e X.env) :: starEach [] X.env := by rfl) (hpl : (backTo cp (starEach [] X.env)).any (·.1) = false := by rfl) :
    PS X (.Raise (some (.Call (.Name x p) [e] [] cp)) none pos) (tRz0 C E t) := by
  intro pins s σ H D I h
  have hh : X.A.handled = none := I.ok.hd hcalm
  obtain ⟨nm, q, N, TE, bs, sn, sub, ab, col, dd, k0, k1, k2, k3, k5, hC, hn, hi, T⟩ := hx.ob
  rw [arm_exec_Raise]
  refine wpAny_bind (wpAny_standAt (xc_raise0 (C := C) (nm := nm) (q := q) (N := N) (bs := bs) (bm := .ref TE :: VE) (hdct := true) (sn := sn) (sub := sub) (ab := ab) (col := col) (dd := dd) (k0 := k0) (k1 := k1) (k2 := k2) (k3 := k3) (k5 := k5) (newId := "ValueError.__new__") (by rw [List.contains_cons]; rfl) hh ?_))
  refine wpAny_bind (wpAny_mono (Q := fun v s1 => ∃ e t dx, v = .ref e ∧ s1.heap.get? C = some _ ∧ s1.heap.get? e = some (xobj C dx t) ∧ X.xe (.ref e) s1) ?_ (fun v s3 h3 => wpAny_bind (wpAny_standAt (wpAny_pure h3))) fun _ _ y => y)
  refine wpAny_Call_Name_kw (ld_glob I hg hm ?_ hdb)
  refine PySem.W.callWith_K (h₀ := X.base) I.ok.mod.kin kp (thn (ha cp pins s σ H _ I h) fun us s1 zz => el5 zz fun vs H1 I1 r q => ⟨I1.kIn, ?_⟩) he hpl
  obtain ⟨⟨v, rfl⟩, q⟩ := q
  cases r with
  | cons r r' =>
    cases r'
    refine made0 I1 hx fun a t s' I' na hA ob => ⟨a, t, none, rfl, I'.kIn _ _ hC, ob, ?_⟩
    refine R pins σ _ s' a C none none I' ⟨⟨_, _, ob, rfl, rfl, rfl, rfl⟩, fun T z => nomatch z⟩ ?_ (fun T z => nomatch z) hA (fun p hp => ⟨fun z => (by have := (I1.pin p hp).1; rw [z, na] at this; cases this), fun z => nomatch z⟩) q
    cases z : X.s₀.heap.get? a with
    | none => rfl
    | some o =>
      obtain ⟨u, y⟩ := I1.base.there a o z (by rw [hex]; simp)
      rw [na] at y; cases y
end
end L2
namespace L2
open PySem PySem.Spec PyProof.Rows
abbrev XO (a C : Addr) (dd : Option Addr) : HO := .ext fun h => ∃ o vs, h.get? a = some o ∧ o.cls = .ref C ∧ o.dict = dd ∧ o.data = .fields vs
theorem xo_ok {P : Program} {w : World} {H : Hp} {h : Heap} {a C : Addr} {dd tb : Option Addr} (x : Xs h a C dd tb) : ObjOk P w H h a (XO a C dd) := by
  obtain ⟨o, vs, h1, h2, h3, h4, _⟩ := x.ob
  exact ⟨⟨o, vs, h1, h2, h3, h4⟩, ⟨o, h1⟩, fun g1 g2 ⟨o, vs, e1, e2, e3, e4⟩ k => ⟨o, vs, k o e1, e2, e3, e4⟩⟩
abbrev Cx.han (X : Cx) (a : Addr) : Cx := { X with A := X.A.mark (some (.ref a)), calm := false, xe := fun _ _ => False }
section
variable {X : Cx} {pins : List (Addr × Obj)} {σ : St} {H : Hp} {s : Shared} {a C : Addr} {dd tb : Option Addr}
theorem Inv.han (I : Inv X pins σ H s) (a : Addr) : Inv (X.han a) pins σ H s :=
  ⟨⟨I.ok.mod, I.ok.kind, I.ok.glob, I.ok.blt, I.ok.above, I.ok.inj, I.ok.has, I.ok.cab, (fun z => nomatch z), I.ok.frames, I.ok.stk, I.ok.exf, I.ok.bs, I.ok.bsz, I.ok.noex, I.ok.exfs, I.ok.funs, I.ok.frf⟩, I.os, I.bare, I.base, I.loc, I.cell, I.free, I.freeC, I.pin, I.hok, I.len⟩
theorem Inv.unhan (I : Inv (X.han a) pins σ H s) (hd : X.calm = true → X.A.handled = none) : Inv X pins σ H s :=
  ⟨⟨I.ok.mod, I.ok.kind, I.ok.glob, I.ok.blt, I.ok.above, I.ok.inj, I.ok.has, I.ok.cab, hd, I.ok.frames, I.ok.stk, I.ok.exf, I.ok.bs, I.ok.bsz, I.ok.noex, I.ok.exfs, I.ok.funs, I.ok.frf⟩, I.os, I.bare, I.base, I.loc, I.cell, I.free, I.freeC, I.pin, I.hok, I.len⟩
theorem Inv.forget (I : Inv X pins σ H s) : Inv X pins (List.replicate X.N.length none) H s := by
  obtain ⟨m, hn, _⟩ := I.loc
  refine ⟨I.ok, I.os, I.bare, I.base, ⟨m, hn, fun i x v _ e _ => ?_⟩, I.cell, I.free, I.freeC, I.pin, I.hok, List.length_replicate⟩
  rw [List.getElem?_replicate] at e
  split at e <;> cases e
theorem Inv.flown {l : List Env} {h' : Heap} (I : Inv X pins σ H s) (x : Xs s.heap a C dd tb) (F : Fly (hidX X s.heap a tb) l a C dd h') (U : s.heap.UpToSlots h') (hex : X.ex = []) (na : X.s₀.heap.get? a = none)
    (nt : ∀ T, tb = some T → X.s₀.heap.get? T = none ∧ H T = none) (ha : H a = none) (np : ∀ p ∈ X.pn ++ pins, p.1 ≠ a ∧ tb ≠ some p.1) : Inv X pins σ H { s with heap := h' } := by
  have nex : ∀ b, b ∉ X.ex := fun b z => by rw [hex] at z; cases z
  have nb : ∀ b o, X.s₀.heap.get? b = some o → b ≠ a ∧ tb ≠ some b := fun b o e => ⟨fun z => (by rw [z, na] at e; cases e), fun z => (by rw [(nt b z).1] at e; cases e)⟩
  have nl : ∀ b, b ≠ X.env.locals → b ∉ X.fs → b ∉ frs X.stack := fun b h1 h2 z => by
    rcases List.mem_cons.mp (I.stkSub b z) with z | z
    · exact h1 z
    · exact h2 z
  have nrec : ∀ b o, s.heap.get? b = some o → (∀ vs, o.data ≠ .fields vs) → b ≠ a ∧ tb ≠ some b := fun b o e nf => by
    obtain ⟨oa, va, h1, _, _, h4, _⟩ := x.ob
    refine ⟨fun z => ?_, fun z => ?_⟩
    · rw [z, h1] at e
      exact nf va (Option.some.inj e ▸ h4)
    · obtain ⟨_, oT, ts, g1, g2, _⟩ := x.en b z
      rw [g1] at e
      exact nf ts (Option.some.inj e ▸ g2)
  have neL : ∀ b o, X.s₀.heap.get? b = some o → b ≠ X.env.locals := fun b o e => Nat.ne_of_lt (Nat.lt_of_lt_of_le (Heap.lt_size e) I.ok.above)
  obtain ⟨m, hn, hl⟩ := I.loc
  have cellK : ∀ y c v, X.env.cells.lookup y = some c → s.heap.IsCell c v → h'.IsCell c v := fun y c v q hc => by
    obtain ⟨o, e, hd⟩ := hc
    obtain ⟨sl, e'⟩ := U c o e fun vs z => by rw [hd] at z; cases z
    exact ⟨_, e', hd⟩
  refine ⟨I.ok, I.os, I.bare, ⟨fun b o e n nf _ => ?_, fun b o e n hf _ => ?_, I.base.free, fun b o e _ => ?_, I.base.tups, I.base.frzs, I.base.tbls⟩, ⟨m, U.ns hn, fun i y v e1 e2 e3 => ?_⟩, fun y c q => ?_, I.free, I.freeC, fun p hp => ?_, hidX_hok I F.stay ha fun T z => (nt T z).2, I.len⟩
  · exact hidX_keep F.stay (I.base.keep b o e n nf (nex b)) (nl b (neL b o e) nf) (nb b o e).1 (nb b o e).2
  · obtain ⟨sl, e1⟩ := I.base.slot b o e n hf (nex b)
    obtain ⟨_, u, hu, nf⟩ := I.ok.funs.mem hf
    rw [e] at hu
    cases hu
    obtain ⟨sl', e2⟩ := U b _ e1 nf
    exact ⟨sl', e2⟩
  · obtain ⟨u, e1⟩ := I.base.there b o e (nex b)
    by_cases hf : b ∈ frs X.stack
    · obtain ⟨_, u', hu, nf⟩ := I.stack.mem hf
      obtain ⟨sl, z⟩ := U b u' hu nf
      exact ⟨_, z⟩
    · exact ⟨u, hidX_keep F.stay e1 hf (nb b o e).1 (nb b o e).2⟩
  · obtain ⟨u, r, lk⟩ := hl i y v e1 e2 e3
    refine ⟨u, r, ?_⟩
    rcases lk with z | ⟨z, c, q, hc⟩
    · exact .inl z
    · exact .inr ⟨z, c, q, cellK y c _ q hc⟩
  · obtain ⟨v, hc⟩ := I.cell y c q
    exact ⟨v, cellK y c v q hc⟩
  · obtain ⟨p1, p2, p3, p4, p5⟩ := I.pin p hp
    exact ⟨hidX_keep F.stay p1 (nl _ p3 p4) (np p hp).1 (np p hp).2, p2, p3, p4, p5⟩
theorem Inv.goes {M : Model} {A : Around} {E : Value → Shared → Prop} {n : Str} {pos : Pos} {Q : Unit → Shared → Prop} (I : Inv X pins σ H s) (hl : X.env.scope.names.lookup n = some .local)
    (h : ∀ s', Inv X pins (List.replicate X.N.length none) H s' → Q () s') : wpAny M A (do bindName X.env n .none; unbindBehindTheSuite X.env n pos) Q E s := by
  obtain ⟨m, hn, _⟩ := id I.loc
  have hcls : (X.env.scope.kind == .class || (X.env.scope.kind == .module && X.env.locals != X.env.globals)) = false := by rw [I.ok.kind]; rfl
  refine wpAny_nameGoes (n := n) hl hn hcls fun h' m' hn' hs => h _ ?_
  obtain ⟨oL, _, _, hoL, _⟩ := id hn
  have neL : ∀ b o, X.s₀.heap.get? b = some o → b ≠ X.env.locals := fun b o e => Nat.ne_of_lt (Nat.lt_of_lt_of_le (Heap.lt_size e) I.ok.above)
  refine ⟨I.ok, I.os, I.bare, ⟨fun b o e n hb hx => (hs.2 b (neL b o e)).trans (I.base.keep b o e n hb hx), fun b o e n hb hx => ?_, I.base.free, fun b o e hx => ?_, I.base.tups, I.base.frzs, I.base.tbls⟩, ⟨m', hn', fun i x v _ e _ => ?_⟩, fun y c q => ?_, I.free, I.freeC, fun p hp => ?_, fun b ob e => ?_, List.length_replicate⟩
  · obtain ⟨sl, e1⟩ := I.base.slot b o e n hb hx
    exact ⟨sl, (hs.2 b (neL b o e)).trans e1⟩
  · obtain ⟨o', e1⟩ := I.base.there b o e hx
    exact ⟨o', (hs.2 b (neL b o e)).trans e1⟩
  · rw [List.getElem?_replicate] at e
    split at e <;> cases e
  · obtain ⟨v, o, e, hd⟩ := I.cell y c q
    exact ⟨v, o, (hs.2 c (I.cne y c q)).trans e, hd⟩
  · obtain ⟨p1, p2, p3, p4, p5⟩ := I.pin p hp
    exact ⟨(hs.2 p.1 p3).trans p1, p2, p3, p4, p5⟩
  · refine (I.hok b ob e).stay (fun c w' hc q => (hs.2 c ?_).trans q) (fun _ q => q) fun _ _ q => q
    intro z
    rw [z] at hc
    rcases hc with y | y
    · rw [← y, I.free] at e; cases e
    · rw [I.free] at y; cases y
end
end L2
namespace L2
open PySem PySem.Spec PyProof.Rows
section
variable {X : Cx} {pins : List (Addr × Obj)} {σ : St} {H : Hp} {s : Shared} {a C : Addr} {dd tb : Option Addr}
abbrev Cx.pinned (X : Cx) (pn : List (Addr × Obj)) (E : Value → Shared → Prop) : Cx := { X with pn := pn, xe := E }
theorem Cx.Ok.pinned (ok : X.Ok) (pn : List (Addr × Obj)) (E : Value → Shared → Prop) : (X.pinned pn E).Ok :=
  ⟨ok.mod, ok.kind, ok.glob, ok.blt, ok.above, ok.inj, ok.has, ok.cab, ok.hd, ok.frames, ok.stk, ok.exf, ok.bs, ok.bsz, ok.noex, ok.exfs, ok.funs, ok.frf⟩
theorem Cx.Ok.unpinned {pn : List (Addr × Obj)} {E : Value → Shared → Prop} (ok : (X.pinned pn E).Ok) : X.Ok :=
  ⟨ok.mod, ok.kind, ok.glob, ok.blt, ok.above, ok.inj, ok.has, ok.cab, ok.hd, ok.frames, ok.stk, ok.exf, ok.bs, ok.bsz, ok.noex, ok.exfs, ok.funs, ok.frf⟩
theorem Inv.pinX (I : Inv X pins σ H s) (E : Value → Shared → Prop) : Inv (X.pinned (X.pn ++ pins) E) [] σ H s :=
  ⟨I.ok.pinned _ E, I.os, I.bare, I.base, I.loc, I.cell, I.free, I.freeC, fun p hp => I.pin p (by rwa [List.append_nil] at hp), I.hok, I.len⟩
theorem Inv.unpinX {ps : List (Addr × Obj)} {E : Value → Shared → Prop} (I : Inv (X.pinned (X.pn ++ pins) E) ps σ H s) : Inv X pins σ H s :=
  ⟨I.ok.unpinned, I.os, I.bare, I.base, I.loc, I.cell, I.free, I.freeC, fun p hp => I.pin p (List.mem_append_left _ hp), I.hok, I.len⟩
theorem Inv.trackX (I : Inv X pins σ H s) (x : Xs s.heap a C dd tb) (hex : X.ex = []) (na : X.s₀.heap.get? a = none) (ha : H a = none) (np : ∀ p ∈ X.pn ++ pins, p.1 ≠ a) : Inv X pins σ (upd H a (XO a C dd)) s := by
  obtain ⟨oa, va, h1, _, _, h4, _⟩ := x.ob
  have nrec : ∀ b o, s.heap.get? b = some o → (∀ vs, o.data ≠ .fields vs) → b ≠ a := fun b o e nf z => by
    rw [z, h1] at e
    exact nf va (Option.some.inj e ▸ h4)
  obtain ⟨m, hn, hl⟩ := id I.loc
  have nL : X.env.locals ≠ a := by
    obtain ⟨o, es, ep, e, hd, _⟩ := id hn
    exact nrec _ o e fun vs z => by rw [hd] at z; cases z
  refine ⟨I.ok, I.os, I.bare, ⟨I.base.keep, I.base.slot, fun b o e n nx => ?_, I.base.there, fun b xs q => ?_, fun b o u q => ?_, fun b ps q => ?_⟩, I.loc, I.cell, ?_, fun y c q => ?_, fun p hp => ?_, fun b o q => ?_, I.len⟩
  · rw [upd_ne (fun z => by rw [z, na] at e; cases e)]; exact I.base.free b o e n nx
  · have := I.base.tups b xs q
    rw [upd_ne (ne_of_none this ha)]; exact this
  · have := I.base.frzs b o u q
    rw [upd_ne (ne_of_none this ha)]; exact this
  · obtain ⟨more, this⟩ := I.base.tbls b ps q
    exact ⟨more, by rw [upd_ne (ne_of_none this ha)]; exact this⟩
  · rw [upd_ne nL]; exact I.free
  · obtain ⟨v, o, e, hd⟩ := I.cell y c q
    rw [upd_ne (nrec c o e fun vs z => by rw [hd] at z; cases z)]; exact I.freeC y c q
  · obtain ⟨p1, p2, p3, p4, p5⟩ := I.pin p hp
    exact ⟨p1, by rw [upd_ne (np p hp)]; exact p2, p3, p4, p5⟩
  · by_cases hb : b = a
    · subst hb; rw [upd_same] at q; cases q; exact xo_ok x
    · rw [upd_ne hb] at q
      refine (I.hok b o q).stay (fun _ _ _ z => z) (fun c z => ?_) fun c xs z => ?_
      · rw [upd_ne (ne_of_none z ha)]; exact z
      · rw [upd_ne (ne_of_none z ha)]; exact z
def tTry (K : PySem.W.Frag) (TE : Addr) (len i : Nat) (E : XK) (tb : TS) (th : Addr → TS) : TS := fun D σ H => tb D σ H ∧
  ∀ (C : Addr) (dd : Option Addr) (H' : Hp) (a : Addr), E (.ref C) dd H' → H' a = none → PySem.W.exmOne K (.ref C) (.ref TE) = some true ∧ th a { nx := fun _ _ => False, rt := D.rt } ((List.replicate len none).set i (some (.ref a))) (upd H' a (XO a C dd))
theorem ps_try {E : XK} {body suite : List Stmt} {b₀ : Stmt} {tn n : Str} {tp hp pos : Pos} {tb : TS} {th : Addr → TS} {i : Nat} {TE : Addr} (hN : X.N.Nodup) (hi : X.N[i]? = some n) (hl : X.env.scope.names.lookup n = some .local) (hex : X.ex = [])
    (hst : X.stack = X.env :: X.outer) (hfr : X.env.frame = some X.env.locals) (hg : Gl X tn) (hm : X.mg tn = some (.ref TE)) (hb : ∀ pn Eh, Rzs (X.pinned pn Eh) E → PSs (X.pinned pn Eh) body tb) (hs : ∀ a, PSs (X.han a) (b₀ :: suite) (th a))
    (hdb : (tn == ("__debug__" : Str)) = false := by decide) :
    PS X (.Try body [.ExceptHandler (some (.Name tn tp)) (some n) (b₀ :: suite) hp] [] [] pos) (tTry X.K TE X.N.length i E tb th) := by
  intro pins s σ H D I h
  obtain ⟨h1, h2⟩ := h
  refine wpAny_Try_except ?_
  refine wpAny_mono (hb (X.pn ++ pins) _ (fun pins' σ' H' s' a C dd tb I' x na nt ha np q => ?_) [] s σ H D (I.pinX _) h1) (fun f s1 q => ?_) fun _ _ z => z
  · have J : Inv X pins σ' H' s' := I'.unpinX
    have np' : ∀ p ∈ X.pn ++ pins, p.1 ≠ a ∧ tb ≠ some p.1 := fun p hp => np p (List.mem_append_left _ hp)
    have F := x.fly J
    have F' := F
    rw [hst] at F'
    refine fly_note (by rw [← hst]; exact J.ok.frames) hfr F' fun g1 F1 U1 => ?_
    have J1 := J.flown x F1 U1 hex na nt ha np'
    obtain ⟨tb1, x1, nt1, nw1⟩ := Xs.of_fly J F1 U1 nt
    have np1 : ∀ p ∈ X.pn ++ pins, p.1 ≠ a ∧ tb1 ≠ some p.1 := fun p hp => ⟨(np' p hp).1, fun z => by
      rcases nw1 _ z with y | y
      · exact (np' p hp).2 y
      · have := (J.pin p hp).1
        rw [y] at this; cases this⟩
    obtain ⟨oa, va, e1, e2, e3, e4, _⟩ := x1.ob
    obtain ⟨em, hth⟩ := h2 C dd H' a q ha
    refine wpAny_handleBy_cons (codeAny_handlers_test ?_) (by intro z; cases z)
    refine ld_glob (J1.han a) hg hm ?_ hdb
    have LT : PySem.W.Looks (model X.prog X.w) g1 (typeOf (.ref a)) (.ref C) := e2 ▸ (PySem.W.Looks.ld e1).andThen .now
    refine (PySem.W.exm_one J1.kIn LT em).here ?_
    refine codeAny_handlers_suite_as ?_
    have F2 := x1.fly J1
    refine fly_land F2 fun g2 F2' U2 => ?_
    have J2 := J1.flown x1 F2' U2 hex na (fun T z => nt1 T z hex) ha np1
    obtain ⟨tb2, x2, nt2, nw2⟩ := Xs.of_fly J1 F2' U2 (fun T z => nt1 T z hex)
    have J3 := (J2.trackX x2 hex na ha fun p hp => (np1 p hp).1).forget
    refine store_ok J3 hN hi (.inl hl) (show RelV (.ref a) (.ref a) from rfl) (fun s4 J4 => ?_) (.inr hl)
    refine wpAny_mono (hs a pins s4 _ _ _ (J4.han a) hth) (fun f s5 q5 => ?_) fun _ _ z => z.elim
    cases f with
    | next => exact (q5.elim fun _ y => y.elim fun _ y => y.2).elim
    | brk => exact (q5.elim fun _ y => y.elim fun _ y => y.2).elim
    | cont => exact (q5.elim fun _ y => y.elim fun _ y => y.2).elim
    | ret u =>
      obtain ⟨v, σ5, H5, J5, r5, d5⟩ := q5
      exact (J5.unhan I.ok.hd).goes hl fun s6 J6 => ⟨v, _, H5, J6, r5, d5⟩
  · cases f with
    | next =>
      obtain ⟨σ', H', J, d⟩ := q
      exact wpAny_execs_nil ⟨σ', H', J.unpinX, d⟩
    | brk => obtain ⟨σ', H', J, d⟩ := q; exact ⟨σ', H', J.unpinX, d⟩
    | cont => obtain ⟨σ', H', J, d⟩ := q; exact ⟨σ', H', J.unpinX, d⟩
    | ret u => obtain ⟨v, σ', H', J, r, d⟩ := q; exact ⟨v, σ', H', J.unpinX, r, d⟩
end
end L2
namespace L2
open PySem PySem.Spec PyProof.Rows
section
variable {prog : Program} {w : World} {A : Around} {E : Value → Shared → Prop} {h : Heap} {g : Array GenState} {d : Drawn} {t : Nat} {os : OsState} {C x : Addr} {ox : Obj} {od : Option Obj} {K : PySem.W.Frag}
variable {nm q : Str} {N TE : Addr} {bs bmB : List Value} {sn : List Str} {sub : List Value} {ab : Bool} {col : Option Bool} {dd : Option Addr} {k0 k1 k2 k3 k5 : Option Value} {newId : String} {name : Str} {tk : Tok}
def XcO (K : PySem.W.Frag) (C : Addr) : Prop := ∃ (nm q : Str) (N TE : Addr) (bs : List Value) (sn : List Str) (sub : List Value) (ab : Bool) (col : Option Bool) (dd : Option Addr) (k0 k1 k2 k3 k5 : Option Value) (newId : String), K.lookup C = some (excClassObj nm q C N bs (.ref TE :: VE) true sn sub ab col dd k0 k1 k2 k3 k5 newId)
theorem xg_kind : builtinKind "BaseException.__getattribute__" = some Manifest.AttrKind.slot := by decide +kernel
theorem xg_split : splitId "BaseException.__getattribute__" = some ("BaseException", "__getattribute__") := by decide +kernel
theorem xg_plain : plainId "BaseException.__getattribute__" = true := by decide +kernel
theorem xg_check {M : Model} {nv : Value} {Q : Unit → Shared → Prop} (hC : h.get? C = some (excClassObj nm q C N bs (.ref TE :: VE) true sn sub ab col dd k0 k1 k2 k3 k5 newId))
    (hx : h.get? x = some ox) (hc : ox.cls = .ref C) (hq : Q () ⟨h, g, d, t, os⟩) : wpAny M A (checkBuiltinCall "BaseException.__getattribute__" ⟨[.ref x, nv], []⟩) Q E ⟨h, g, d, t, os⟩ := by
  have hcO : (Value.ref C :: Value.ref TE :: VE).contains (.type "BaseException") = true := by
    rw [List.contains_cons, List.contains_cons]; simp
  have ha := PySem.F.args_bexc_ga (.ref x) nv
  simp only [checkBuiltinCall, xg_kind, xg_split]
  refine wpAny_bind ?_
  unfold isInstance
  repeat (first | (with_reducible refine wpAny_loadPart_at hx ?_; rw [hc]) | (with_reducible refine wpAny_isSubtype_exc hC ?_; rw [hcO]) | wp_step)
  exact hq
theorem xg_value {v : Value} {Q : PySem.Fin → Shared → Prop} (X : K.In h) (I : PySem.W.InstAt h x ox C od) (fo : PySem.W.findObj K C od name = some (.value v)) (hq : Q (.done (.ret v)) ⟨h, g, d, t, os⟩) :
    wpAny (model prog w) A (Builtin.«object.__getattribute__» ⟨[.ref x, .str name tk], []⟩) Q E ⟨h, g, d, t, os⟩ := by
  have hx := I.at_
  have hc := I.cls
  unfold Builtin.«object.__getattribute__» slotArgs
  repeat (first | (with_reducible refine wpAny_loadPart_at hx ?_; rw [hc]) | with_reducible refine (PySem.W.looks_find X I fo).at ?_ | wp_step)
  exact hq
theorem xg_class {Q : PySem.Fin → Shared → Prop} (X : K.In h) (I : PySem.W.InstAt h x ox C od) (fo : PySem.W.findObj K C od name = some (.bind (.builtin "getset_descriptor.__get__") (.builtin "object.__class__"))) (mo : PySem.W.mroIn K C (.type "object") = some true) (hq : Q (.done (.ret (.ref C))) ⟨h, g, d, t, os⟩) :
    wpAny (model prog w) A (Builtin.«object.__getattribute__» ⟨[.ref x, .str name tk], []⟩) Q E ⟨h, g, d, t, os⟩ := by
  have hx := I.at_
  have hc := I.cls
  unfold Builtin.«object.__getattribute__» slotArgs
  repeat (first | (with_reducible refine wpAny_loadPart_at hx ?_; rw [hc]) | with_reducible refine (PySem.W.looks_find X I fo).at ?_ | wp_step)
  refine PySem.W.class_get (s := ⟨h, g, d, t, os⟩) (ox := ox) (od := od) X I mo ?_
  exact wpAny_pure hq
theorem xg_by {v : Value} {fill expr : Bool} {Q : Value → Shared → Prop} (X : K.In h) (I : PySem.W.InstAt h x ox C od) (g1 : PySem.W.findIn K (.ref C) "__getattribute__" = some (some (.builtin "BaseException.__getattribute__"))) (g2 : PySem.W.findIn K (.ref C) "__getattr__" = some none)
    (hcall : ∀ (A : Around) (R : Result → Shared → Prop), R (.ok (.ret v)) ⟨h, g, d, t, os⟩ → codeAny (model prog w) A (.call (.builtin "BaseException.__getattribute__") ⟨[.ref x, .str name tk], []⟩) R ⟨h, g, d, t, os⟩) (hv : PySem.W.handedIn v = true) (hq : Q v ⟨h, g, d, t, os⟩) :
    wpAny (model prog w) A (getAttrBy (.ref x) (.str name tk) fill expr) Q E ⟨h, g, d, t, os⟩ := by
  have hx := I.at_
  have hc := I.cls
  have f3 := (PySem.F.excAttr_ValueError).ga.bind (.ref x)
  unfold getAttrBy getAttrByItsOwn hookBefore callGetattribute boundAndCalled
  repeat (first | assumption | (with_reducible refine wpAny_loadPart_at hx ?_; rw [hc]) | with_reducible refine (PySem.W.looks_findIn X g1).at ?_ | with_reducible refine (PySem.W.looks_findIn X g2).at ?_ | wp_step)
  rw [if_neg (by rw [show onTheHeap (Value.builtin "BaseException.__getattribute__") = false from rfl, Bool.and_false]; exact Bool.false_ne_true), f3]
  repeat (first | wp_step)
  refine hcall _ _ ?_
  exact PySem.W.handed_on hv hq
theorem xg_call {v : Value} {A : Around} {R : Result → Shared → Prop} (hC : h.get? C = some (excClassObj nm q C N bs (.ref TE :: VE) true sn sub ab col dd k0 k1 k2 k3 k5 newId)) (X : K.In h) (I : PySem.W.InstAt h x ox C od) (fo : PySem.W.findObj K C od name = some (.value v))
    (hq : R (.ok (.ret v)) ⟨h, g, d, t, os⟩) : codeAny (model prog w) A (.call (.builtin "BaseException.__getattribute__") ⟨[.ref x, .str name tk], []⟩) R ⟨h, g, d, t, os⟩ :=
  codeAny_call_builtin xg_plain PySem.F.entry_bexc_ga (xg_check hC I.at_ I.cls (xg_value X I fo hq))
theorem xg_callC {A : Around} {R : Result → Shared → Prop} (hC : h.get? C = some (excClassObj nm q C N bs (.ref TE :: VE) true sn sub ab col dd k0 k1 k2 k3 k5 newId)) (X : K.In h) (I : PySem.W.InstAt h x ox C od) (fo : PySem.W.findObj K C od name = some (.bind (.builtin "getset_descriptor.__get__") (.builtin "object.__class__"))) (mo : PySem.W.mroIn K C (.type "object") = some true)
    (hq : R (.ok (.ret (.ref C))) ⟨h, g, d, t, os⟩) : codeAny (model prog w) A (.call (.builtin "BaseException.__getattribute__") ⟨[.ref x, .str name tk], []⟩) R ⟨h, g, d, t, os⟩ :=
  codeAny_call_builtin xg_plain PySem.F.entry_bexc_ga (xg_check hC I.at_ I.cls (xg_class X I fo mo hq))
end
structure XCl (K : PySem.W.Frag) (C : Addr) : Prop where
  g1 : PySem.W.findIn K (.ref C) "__getattribute__" = some (some (.builtin "BaseException.__getattribute__"))
  g2 : PySem.W.findIn K (.ref C) "__getattr__" = some none
  ob : XcO K C
  hd : PySem.W.hasDictIn K C = true
  ha : PySem.W.findIn K (.ref C) "__class__" = some (some (.builtin "object.__class__"))
  hn : PySem.W.specialIn K (.builtin "object.__class__") "__get__" = some (some (.builtin "getset_descriptor.__get__"))
  tk : PySem.W.takesIn K (.builtin "object.__class__") = some true
  hm : PySem.W.mroIn K C (.type "object") = some true
theorem kitx_exc {K : PySem.W.Frag} {C a : Addr} (x : XCl K C) : PySem.W.KitX K (.ref a) (.ref C) (fun h => ∃ ox od, PySem.W.InstAt h a ox C od) where
  ty := fun _ _ _ I => I.elim fun _ I => I.elim fun _ I => I.type
  it := fun _ _ X _ => by
    obtain ⟨cd, hc, _⟩ := PySem.W.any_some x.hd
    unfold PySem.W.clsIn at hc
    split at hc
    · rename_i ho
      intro A' Q' E' s' k q
      unfold isType loadHead
      exact wpAny_bind (wpAny_loadPart (k _ _ (X _ _ ho)) (wpAny_pure q))
    · cases hc
  ne := fun h tp dd its n sl X htp => by
    obtain ⟨cd, hc, _⟩ := PySem.W.any_some x.hd
    refine Bool.eq_false_iff.mpr fun q => ?_
    cases Value.ref.inj (beq_iff_eq.mp q)
    unfold PySem.W.clsIn at hc
    split at hc
    · rename_i ho
      have z := (X _ _ ho).symm.trans htp
      cases z
    · cases hc
  ca := fun {prog w A E Q s} X I k => by
    obtain ⟨ox, od, I⟩ := I
    have hf : PySem.W.findObj K C od "__class__" = some (.bind (.builtin "getset_descriptor.__get__") (.builtin "object.__class__")) := by
      obtain ⟨cd, hc, _⟩ := PySem.W.any_some x.hd
      unfold PySem.W.findObj
      rw [hc, Option.bind_some, x.ha, Option.bind_some]
      simp only [x.hn, Option.bind_some, x.tk]
    obtain ⟨nm, q, N, TE, bs, sn, sub, ab, col, dd, k0, k1, k2, k3, k5, nid, hC⟩ := x.ob
    obtain ⟨hp, g, d, t, os⟩ := s
    unfold getAttr? getAttrBy?
    refine wpAny_bind (wpAny_mkText ?_)
    refine wpAny_bind (wpAny_attempt ?_)
    refine xg_by X I x.g1 x.g2 (fun A R hR => xg_callC (X _ _ hC) X I hf x.hm hR) rfl (wpAny_pure k)
section
variable {X : Cx} {pins : List (Addr × Obj)} {σ : St} {H : Hp} {s : Shared} {a C : Addr} {dd : Option Addr}
theorem xo_at (I : Inv X pins σ H s) (e : H a = some (XO a C dd)) (hd : ∀ dx, dd = some dx → ∃ o, H dx = some o) : ∃ ox od, PySem.W.InstAt s.heap a ox C od := by
  obtain ⟨⟨o, vs, h1, h2, h3, h4⟩, _, _⟩ := (show ObjOk X.prog X.w H s.heap a (XO a C dd) from I.hok a _ e)
  have nc : PySem.W.notCls o = true := by unfold PySem.W.notCls; rw [h4]
  cases dd with
  | none => exact ⟨o, none, h1, h2, nc, by rw [h3]; trivial⟩
  | some dx =>
    obtain ⟨u, hu⟩ := hd dx rfl
    obtain ⟨od, z⟩ := (I.hok dx u hu).there
    exact ⟨o, some od, h1, h2, nc, by rw [h3]; exact z⟩
abbrev rIsx (K : PySem.W.Frag) : List V → Hp → VK → Prop := fun xs H Q => ∃ a C dd c T b, xs = [.ref a, c] ∧ (c = .ref T ∧ PySem.W.kitOne K (.ref C) (.ref T) = some b) ∧ H a = some (XO a C dd) ∧ (∀ dx, dd = some dx → ∃ o, H dx = some o) ∧ XCl K C ∧ Q (.bl b) H
theorem call_isx : CallR X (.builtin "isinstance") (rIsx X.K) := by
  intro pins s σ H xs us Q I r h
  obtain ⟨a, C, dd, c, T, b, rfl, ⟨rfl, k⟩, e, hd, xc, q⟩ := h
  obtain ⟨u, w', rfl, r1, r2⟩ := vals2 r
  obtain rfl : u = Value.ref a := r1
  obtain rfl : w' = Value.ref T := r2
  exact PySem.W.kia_one (kitx_exc xc) I.kIn (xo_at I e hd) k (fun z => nomatch z) fun tk => ⟨.bl b, H, I.tok tk, rfl, q⟩
abbrev rIst (K : PySem.W.Frag) : List V → Hp → VK → Prop := fun xs H Q => ∃ a C dd c T b, xs = [.ref a, c] ∧ (c = .ty T ∧ PySem.W.kitOne K (.ref C) (.type T) = some b) ∧ H a = some (XO a C dd) ∧ (∀ dx, dd = some dx → ∃ o, H dx = some o) ∧ XCl K C ∧ Q (.bl b) H
theorem call_ist : CallR X (.builtin "isinstance") (rIst X.K) := by
  intro pins s σ H xs us Q I r h
  obtain ⟨a, C, dd, c, T, b, rfl, ⟨rfl, k⟩, e, hd, xc, q⟩ := h
  obtain ⟨u, w', rfl, r1, r2⟩ := vals2 r
  obtain rfl : u = Value.ref a := r1
  obtain rfl : w' = Value.type T := r2
  exact PySem.W.kia_one (kitx_exc xc) I.kIn (xo_at I e hd) k (fun z => nomatch z) fun tk => ⟨.bl b, H, I.tok tk, rfl, q⟩
def tXf (K : PySem.W.Frag) (ta : TE) (f : Str) : TE := fun σ H Q => ta σ H fun x H1 => ∃ a C dx v, x = .ref a ∧ H1 a = some (XO a C (some dx)) ∧ H1 dx = some (.xd [(f, v)]) ∧ XCl K C ∧ NoAttr K C f ∧ Q v H1
theorem pe_xf {e : Expr} {f : Str} {pos : Pos} {ta : TE} (he : PE X e ta) (hb : attributeBase e f X.env (eval e X.env) = eval e X.env) : PE X (.Attribute e f pos) (tXf X.K ta f) := by
  intro pins s σ H Q I h
  refine attr_of hb (thn (he pins s σ H _ I h) fun u s1 zz => el5 zz fun x H1 I1 rx q => ?_)
  obtain ⟨a, C, dx, v, rfl, e1, e2, xc, nf, q⟩ := q
  obtain rfl : u = Value.ref a := rx
  obtain ⟨⟨o, vs, h1, h2, h3, h4⟩, _, _⟩ := (show ObjOk X.prog X.w H1 s1.heap a (XO a C (some dx)) from I1.hok a _ e1)
  obtain ⟨mA, hn, hr⟩ := (show ObjOk X.prog X.w H1 s1.heap dx (.xd [(f, v)]) from I1.hok dx _ e2)
  obtain ⟨od, ho, hl⟩ := lookIn_ns hn
  have nc : PySem.W.notCls o = true := by unfold PySem.W.notCls; rw [h4]
  have J : PySem.W.InstAt s1.heap a o C (some od) := ⟨h1, h2, nc, by rw [h3]; exact ho⟩
  obtain ⟨u, hu, ru⟩ := RelO.some_of (v := v) (o := mA f) (by have := hr f; simpa [List.lookup] using this)
  obtain ⟨nm, q', N, TE, bs, sn, sub, ab, col, dd, k0, k1, k2, k3, k5, nid, hC⟩ := xc.ob
  have KX := I1.kIn
  have I2 := I1.tok (s1.toks + 1)
  obtain ⟨hp, g, d, t, os⟩ := s1
  unfold getAttr
  refine wpAny_bind (wpAny_mkText ?_)
  exact xg_by KX J xc.g1 xc.g2 (fun A R hR => xg_call (KX _ _ hC) KX J (PySem.W.findObj_own xc.hd nf rfl (by rw [hl, hu])) hR) (handed_of ru) ⟨v, H1, I2, ru, q⟩
end
end L2
namespace L2
open PySem PySem.Spec PyProof.Rows
structure RoomN (k : Nat) (A : Around) : Prop where
  dp : A.depth + 3 * k + 5 < recursionLimit
  un : A.units + 16 * k + 200 < cLine
  gd : A.guards = some []
theorem Room.han {k : Nat} {X : Cx} (r : Room k X.A) (a : Addr) : RoomN k (X.han a).A := ⟨r.dp, r.un, r.gd⟩
theorem RoomN.deeper {k : Nat} {A : Around} (r : RoomN (k + 1) A) (env : Env) : RoomN k (A.deeper env) :=
  ⟨by have := r.dp; show A.depth + 1 + 3 * k + 5 < _; lia, by have := r.un; show A.units + 3 + 16 * k + 200 < _; lia, r.gd⟩
theorem RoomN.depth {k : Nat} {A : Around} (r : RoomN k A) : A.depth < recursionLimit := by have := r.dp; lia
theorem RoomN.mono {j k : Nat} {A : Around} (r : RoomN k A) (h : j ≤ k) : RoomN j A := ⟨by have := r.dp; lia, by have := r.un; lia, r.gd⟩
abbrev cxN (P : Program) (w : World) (K : PySem.W.Frag) (mg : Str → Option Value) (base : Heap) (N : List Str) (qual : Str) (scope : Scope) (f : Addr) (cd : Value) (A : Around) (outer : List Env) (s : Shared) (H : Hp) : Cx :=
  { cxOf (fun _ _ _ _ _ _ => False) P w K mg base N qual scope f cd A outer s H (fun _ _ _ => False) with calm := false, xe := fun _ _ => False }
abbrev SpN := List V → Hp → VK → Prop
structure FnOkN (P : Program) (w : World) (K : PySem.W.Frag) (mg : Str → Option Value) (base : Heap) (k : Nat) (f : Addr) (fd : FuncData) (ps : List Str) (sp : SpN) : Prop where
  len : ∀ vs H Q, sp vs H Q → vs.length = ps.length
  run : ∀ (A : Around) (outer : List Env) (s : Shared) (H : Hp) (args : Args) (us : List Value) (vs : List V) (Q : VK), RoomN k A → Env0 P w K mg base A outer s H → BindsTo s fd args (ps.zip us) → Vals vs us → sp vs H Q →
    codeAny (model P w) A (.call (.ref f) args) (fun r s' => ∃ u, r = .ok (.ret u) ∧ CE outer P w H s Q u s') s
theorem fn_ofN {P : Program} {w : World} {K : PySem.W.Frag} {mg : Str → Option Value} {base : Heap} {k : Nat} {f : Addr} {name qual : Str} {params : Arguments} {body : List Stmt} {scope : Scope} {dV kV doc pm cdv ct oc : Value} {an od : Option Addr}
    {osl : Array (Option Value)} {N ps : List Str} {sp : SpN} (lk : K.lookup f = some ⟨oc, od, .func (PySem.W.fnOf name qual params body scope dV kV doc pm an cdv ct), osl⟩) (hcd : PySem.W.codeIn K cdv qual = true) (S : FnScope N ps scope)
    (len : ∀ vs H Q, sp vs H Q → vs.length = ps.length)
    (hbody : ∀ (A : Around) (outer : List Env) (s : Shared) (H : Hp) (vs : List V) (Q : VK), RoomN k (A.deeper (envOfC qual scope s.heap.objs.size f cdv)) → sp vs H Q →
      ∃ t, PSs (cxN P w K mg base N qual scope f cdv A outer s H) body t ∧ t { nx := fun _ H' => Q .non H', rt := Q } (start N vs) H) :
    FnOkN P w K mg base (k + 1) f (PySem.W.fnOf name qual params body scope dV kV doc pm an cdv ct) ps sp := by
  refine ⟨len, fun A outer s H args us vs Q hr e0 hb r hsp => ?_⟩
  have hl := len _ _ _ hsp
  have KX : K.In s.heap := e0.mod.kin.keeps fun b o e => (e0.bs b o e).1
  have lim : s.heap.NoLimit := e0.mod.nolimit.keeps fun b o e => (e0.bs b o e).1
  have hkind : ∀ y ∈ ps.zip us, scope.names.lookup y.1 = some .local ∨ (scope.names.lookup y.1 = some .cell ∧ ((cellsFrom (s.heap.objs.size + 1) scope.names []).lookup y.1).isSome = true) := fun ⟨n, v⟩ hy => by
    rcases S.par n (List.of_mem_zip hy).1 with q | q
    · exact .inl q
    · exact .inr ⟨q, PySem.W.cellsFrom_some _ _ _ (.inl q)⟩
  refine codeAny_call_function hr.depth (KX _ _ lk) rfl S.co S.gen rfl (PySem.W.codeRec_of KX hcd) (hb _ _ _ _ ?_)
  refine wpAny_newFunctionEnv_cells S.kind hkind fun env he s1 x => ?_
  subst he
  refine ⟨lim.keeps x.toInCall.keep, codeAny_func ?_⟩
  obtain ⟨t, ht, hq⟩ := hbody A outer s H vs Q (hr.deeper _) hsp
  have I0 : Inv (cxOf (fun _ _ _ _ _ _ => False) P w K mg base N qual scope f cdv { A with handled := none } outer s H fun _ _ _ => False) [] (start N vs) H s1 :=
    inv_start S rfl ⟨e0.frames, e0.mod, e0.bs, e0.bsz, e0.funs, e0.frf, e0.hok, e0.bare⟩ hl r x
  have I : Inv (cxN P w K mg base N qual scope f cdv A outer s H) [] (start N vs) H s1 :=
    ⟨⟨I0.ok.mod, I0.ok.kind, I0.ok.glob, I0.ok.blt, I0.ok.above, I0.ok.inj, I0.ok.has, I0.ok.cab, (fun z => nomatch z), I0.ok.frames, I0.ok.stk, I0.ok.exf, I0.ok.bs, I0.ok.bsz, I0.ok.noex, I0.ok.exfs, I0.ok.funs, I0.ok.frf⟩, I0.os, I0.bare, I0.base, I0.loc, I0.cell, I0.free, I0.freeC, I0.pin, I0.hok, I0.len⟩
  refine wpAny_mono (ht [] s1 (start N vs) H _ I hq) (fun fl s' hs => ?_) fun e s' hs => hs.elim
  have fin : ∀ {σ' : St} {H' : Hp} {v : V} {u : Value}, Inv (cxN P w K mg base N qual scope f cdv A outer s H) [] σ' H' s' → RelV v u → Q v H' → CE outer P w H s Q u s' :=
    fun {σ' H' v u} J rv q => ⟨v, H', J.os, J.bare, J.base, J.hok, rv, q⟩
  cases fl with
  | ret u =>
    obtain ⟨v, σ', H', J, rv, q⟩ := hs
    exact ⟨u, rfl, fin J rv q⟩
  | next =>
    obtain ⟨σ', H', J, q⟩ := hs
    exact ⟨.none, rfl, fin (v := V.non) (u := Value.none) J rfl q⟩
  | brk =>
    obtain ⟨_, _, _, q⟩ := hs
    exact False.elim q
  | cont =>
    obtain ⟨_, _, _, q⟩ := hs
    exact False.elim q
section
variable {X : Cx} {k : Nat} {f : Addr} {fd : FuncData} {ps : List Str} {sp : SpN} {x : Str} {p pos : Pos} {e : Expr} {es : List Expr} {t : TA}
def tCallN (sp : SpN) (t : TA) : TE := fun σ H Q => t σ H fun vs H1 => sp vs H1 Q
theorem pe_callN (F : FnOkN X.prog X.w X.K X.mg X.base k f fd ps sp) (hr : RoomN k X.A) (hg : Gl X x) (hm : X.mg x = some (.ref f)) (hk : PySem.W.keepIn X.K (.ref f) = true) (hb : Binds X.K fd ps [])
    (ha : PA X (e :: es) t) (hdb : (x == ("__debug__" : Str)) = false := by decide) (he : starEach (e :: es) X.env = (false, eval e X.env) :: starEach es X.env := by rfl) (hpl : (backTo pos (starEach es X.env)).any (·.1) = false := by rfl) :
    PE X (.Call (.Name x p) (e :: es) [] pos) (tCallN sp t) := by
  intro pins s σ H Q I h
  refine wpAny_Call_Name_kw (ld_glob I hg hm ?_ hdb)
  refine PySem.W.callWith_K (h₀ := X.base) I.ok.mod.kin hk (thn (ha pos pins s σ H _ I h) fun us s1 zz => el5 zz fun vs H1 I1 r q => ⟨I1.kIn, ?_⟩) he hpl
  have hl : (us ++ []).length = ps.length := by rw [List.append_nil, ← r.length]; exact F.len _ _ _ q
  have hb' := hb s1 us I1.kIn hl
  rw [List.append_nil] at hb'
  refine wpAny_call (codeAny_mono (F.run X.A X.stack s1 H1 ⟨us, []⟩ us vs Q hr I1.env0 hb' r q) fun r s' hq => ?_)
  obtain ⟨u, rfl, hc⟩ := hq
  exact I1.after hc
end
end L2
namespace My
open PySem L2
open PySem.Spec
abbrev DSpX := List PyData → (PyData → Prop) → (Addr → Int → Prop) → Prop
section
variable {P : Program} {w : World} {K : PySem.W.Frag} {mg : Str → Option Value} {base : Heap}
open Classical in
end
section
variable {X : Cx} {C : DC} {st : Stmt} {e : Expr} {te : DE} {u : DA} {E : XK} {Ex : Addr → Int → Prop} {fld : Str} {ms : List Md} {sp : DSpX} {Cl : Addr}
def xkD (Ex : Addr → Int → Prop) (Cl : Addr) (d : PyData) : Prop := match d with
  | .int k => Ex Cl k
  | _ => False
def dRz (Cl : Addr) (Ex : Addr → Int → Prop) (te : DE) (_ : DEnds) (ρ : List Sl) : Prop := te ρ fun d _ => xkD Ex Cl d
def dCallX (ms : List Md) (sp : DSpX) (Ex : Addr → Int → Prop) (u : DA) (ρ : List Sl) (Q : PyData → List Sl → Prop) : Prop := u ρ fun as ρ' => bnd (arsD ρ' ms as) fun ds => sp ds (fun d => Q d ρ') Ex
end
end My
namespace My
open PySem L2
open PySem.Spec
section
variable {X : Cx} {C : DC} {u : DA} {fld : Str} {ms : List Md} {sp : DSpX} {Cl0 : Addr}
theorem Hq.keep {h : Option (Addr × Addr)} {H H' : Hp} (q : Hq h H) (k : ∀ b o, H b = some o → H' b = some o) : Hq h H' := fun z hz => by
  obtain ⟨ns, p, b, c, u, v, h1, h2, h3⟩ := q z hz
  exact ⟨ns, p, b, c, u, v, k _ _ h1, h2, k _ _ h3⟩
def dTry (Cl0 : Addr) (ms : List Md) (sp : DSpX) (u : DA) (D : DEnds) (ρ : List Sl) : Prop := dCallX ms sp (fun Cl k => Cl = Cl0 ∧ D.rt (.int k)) u ρ fun _ ρ' => D.nx ρ'
end
end My
namespace L2
open PySem PySem.Spec PyProof.Rows
section
variable {K : PySem.W.Frag} {C T N TE : Addr} {oc : Value} {od dd : Option Addr} {sl : Array (Option Value)} {cd : ClassData} {b : Bool}
theorem nsOk_of {es : Array DictEntry} {ep : Nat} (h : K.lookup N = some ⟨oc, od, .dict es ep, sl⟩) (ha : (es.toList.all fun e => match e.key with | .str _ _ => true | _ => false) = true) : PySem.W.nsOkIn K N = true := by
  unfold PySem.W.nsOkIn
  rw [h]
  rw [Array.all_toList] at ha
  exact ha
theorem tail_of (h : K.lookup TE = some ⟨oc, dd, .cls cd, sl⟩) (h1 : PySem.W.nsOkIn K cd.ns = true) (h2 : PySem.W.nsIn K cd.ns "__init__" = some none) : PySem.W.tailIn K VE (.ref TE :: VE) = true := by
  have e : PySem.W.tailIn K VE VE = true := by
    show PySem.W.tailIn K VE (.type "ValueError" :: [.type "Exception", .type "BaseException", .type "object"]) = true
    rw [PySem.W.tailIn]
    · rw [beq_self_eq_true]; rfl
    · intro A z; cases z
  rw [PySem.W.tailIn.eq_2, h]
  dsimp only
  rw [h1, e]
  have : (PySem.W.nsIn K cd.ns (Str.ofString "__init__") == some none) = true := by rw [h2]; rfl
  rw [this]; simp
theorem kit_self : PySem.W.kitOne K (.ref C) (.ref C) = some true := by
  unfold PySem.W.kitOne
  rw [if_pos (beq_self_eq_true _)]
theorem kitCls_ref (h : K.lookup T = some ⟨.type "type", dd, .cls cd, sl⟩) (m : PySem.W.mroIn K C (.ref T) = some b) : PySem.W.kitCls K (.ref C) (.ref T) = some b := by
  have e1 : PySem.W.clsIn K T = some cd := by unfold PySem.W.clsIn; rw [h]
  have e2 : PySem.W.typeIn K (.ref T) = some (.type "type") := by unfold PySem.W.typeIn; dsimp only; rw [h]; rfl
  unfold PySem.W.kitCls
  dsimp only
  rw [e1, e2, if_pos (by rw [beq_self_eq_true]; rfl)]
  exact m
theorem kit_ref (h : K.lookup T = some ⟨.type "type", dd, .cls cd, sl⟩) (m : PySem.W.mroIn K C (.ref T) = some b) (ne : (Value.ref C == Value.ref T) = false) : PySem.W.kitOne K (.ref C) (.ref T) = some b := by
  unfold PySem.W.kitOne
  rw [if_neg (by rw [ne]; exact Bool.false_ne_true)]
  exact kitCls_ref h m
theorem kit_ve (m : PySem.W.mroIn K C (.type "ValueError") = some b) : PySem.W.kitOne K (.ref C) (.type "ValueError") = some b := by
  unfold PySem.W.kitOne
  rw [if_neg (by simp)]
  unfold PySem.W.kitCls
  dsimp only
  rw [if_pos (by decide +kernel)]
  exact m
theorem exm_of (h : K.lookup T = some ⟨.type "type", dd, .cls cd, sl⟩) (m : PySem.W.mroIn K C (.ref T) = some b) (mb : PySem.W.mroIn K T (.type "BaseException") = some true) : PySem.W.exmOne K (.ref C) (.ref T) = some b := by
  unfold PySem.W.exmOne
  rw [if_pos (by unfold PySem.W.subIn; dsimp only; rw [mb]; rfl)]
  exact kitCls_ref h m
structure XcI (K : PySem.W.Frag) (C TE xi : Addr) (fld : Str) : Prop where
  xc : XcK K C
  kp : PySem.W.keepIn K (.ref C) = true
  fi : PySem.W.findIn K (.ref C) "__init__" = some (some (.ref xi))
  fn : PySem.W.typeIn K (.ref xi) = some (.type "function")
  f1 : PySem.W.findIn K (.ref C) "__setattr__" = some (some (.builtin "object.__setattr__"))
  f2 : PySem.W.findIn K (.ref C) fld = some none
  cl : XCl K C
  em : PySem.W.exmOne K (.ref C) (.ref TE) = some true
  ve : PySem.W.kitOne K (.ref C) (.type "ValueError") = some true
theorem XcI.of {xi TN : Addr} {fld : Str} {nm q : Str} {bs : List Value} {sn : List Str} {sub : List Value} {ab : Bool} {col : Option Bool} {k0 k1 k2 k3 k5 : Option Value} {oc1 oc2 : Value} {od1 od2 : Option Addr} {es1 es2 : Array DictEntry} {ep1 ep2 : Nat} {sl1 sl2 : Array (Option Value)} {dT : Option Addr} {cdT : ClassData} {slT : Array (Option Value)}
    (e2 : K.lookup C = some (excClassObj nm q C N bs (.ref TE :: VE) true sn sub ab col dd k0 k1 k2 k3 k5 "ValueError.__new__"))
    (e3 : K.lookup N = some ⟨oc1, od1, .dict es1 ep1, sl1⟩) (a3 : (es1.toList.all fun e => match e.key with | .str _ _ => true | _ => false) = true)
    (e4 : K.lookup TE = some ⟨.type "type", dT, .cls cdT, slT⟩) (n4 : cdT.ns = TN) (e5 : K.lookup TN = some ⟨oc2, od2, .dict es2 ep2, sl2⟩) (a5 : (es2.toList.all fun e => match e.key with | .str _ _ => true | _ => false) = true) (e6 : PySem.W.nsIn K TN "__init__" = some none)
    (kp : PySem.W.keepIn K (.ref C) = true) (fi : PySem.W.findIn K (.ref C) "__init__" = some (some (.ref xi))) (fn : PySem.W.typeIn K (.ref xi) = some (.type "function"))
    (f1 : PySem.W.findIn K (.ref C) "__setattr__" = some (some (.builtin "object.__setattr__"))) (f2 : PySem.W.findIn K (.ref C) fld = some none)
    (g1 : PySem.W.findIn K (.ref C) "__getattribute__" = some (some (.builtin "BaseException.__getattribute__"))) (g2 : PySem.W.findIn K (.ref C) "__getattr__" = some none)
    (hd : PySem.W.hasDictIn K C = true) (ha : PySem.W.findIn K (.ref C) "__class__" = some (some (.builtin "object.__class__")))
    (hn : PySem.W.specialIn K (.builtin "object.__class__") "__get__" = some (some (.builtin "getset_descriptor.__get__"))) (tk : PySem.W.takesIn K (.builtin "object.__class__") = some true)
    (m1 : PySem.W.mroIn K C (.type "object") = some true) (m2 : PySem.W.mroIn K C (.type "ValueError") = some true) (m3 : PySem.W.mroIn K C (.ref TE) = some true) (m4 : PySem.W.mroIn K TE (.type "BaseException") = some true) : XcI K C TE xi fld :=
  ⟨⟨nm, q, N, TE, bs, sn, sub, ab, col, dd, k0, k1, k2, k3, k5, e2, nsOk_of e3 a3, tail_of e4 (n4 ▸ nsOk_of e5 a5) (n4 ▸ e6)⟩, kp, fi, fn, f1, f2,
    ⟨g1, g2, ⟨nm, q, N, TE, bs, sn, sub, ab, col, dd, k0, k1, k2, k3, k5, "ValueError.__new__", e2⟩, hd, ha, hn, tk, m1⟩, exm_of e4 m3 m4, kit_ve m2⟩
theorem XcI.init {P : Program} {w : World} {mg : Str → Option Value} {base : Heap} {k : Nat} {f : Addr} {fld qual me par : Str} {st : Stmt} {fd : FuncData} {p1 p2 p3 p4 : Pos} (X : XcI K C TE f fld) (F : Fun K "__init__" qual st f fd)
    (hbody : defBody st = [.Assign [.Attribute (.Name me p1) fld p2] (.Name par p3) p4]) (S : FnScope [me, par] [me, par] (defScope st))
    (hb : Binds K fd [me, par] []) (d1 : (me == ("__debug__" : Str)) = false := by decide) (d2 : (me == ("__classdict__" : Str)) = false := by decide) (d3 : (par == ("__debug__" : Str)) = false := by decide) (d4 : (par == ("__classdict__" : Str)) = false := by decide)
    (sw : ∀ env, swapsWith (.Name par p3) (some (.Attribute (.Name me p1) fld p2)) p4.line env = pure false := by intro _; rfl) : InitP P w K mg base (k + 1) f C fld := by
  obtain ⟨oc, od, kV, doc, pm, an, cdv, ct, osl, rfl, lk, hcd⟩ := F.ex
  rw [hbody] at lk hb
  exact initP_of lk hcd S d1 d2 d3 d4 sw X.f1 X.f2 X.xc hb
end
end L2
namespace My
open PySem L2
open PySem.Spec
section
variable {P : Program} {w : World} {K : PySem.W.Frag} {mg : Str → Option Value} {base : Heap}
end
end My
namespace L2
open PySem PySem.Spec PyProof.Rows
def clsAt (i : Nat) : Stmt → Stmt
  | .ClassDef _ _ _ body _ _ _ _ _ _ _ => body.getD i (.Pass ⟨0, 0, 0, 0⟩)
  | s => s
theorem bt_ValueError : bootBuiltins "ValueError" = some (.type "ValueError") := by decide +kernel
section
variable {P : Program} {w : World} {K : PySem.W.Frag} {mg : Str → Option Value} {base : Heap}
theorem Fun.okN {x qual : Str} {st : Stmt} {f : Addr} {fd : FuncData} {N ps : List Str} {k : Nat} {sp : SpN} (F : Fun K x qual st f fd) (S : FnScope N ps (defScope st)) (len : ∀ vs H Q, sp vs H Q → vs.length = ps.length)
    (hbody : ∀ (cdv : Value) (A : Around) (outer : List Env) (s : Shared) (H : Hp) (vs : List V) (Q : VK), RoomN k (A.deeper (envOfC qual (defScope st) s.heap.objs.size f cdv)) → sp vs H Q →
      ∃ t, PSs (cxN P w K mg base N qual (defScope st) f cdv A outer s H) (defBody st) t ∧ t { nx := fun _ H' => Q .non H', rt := Q } (start N vs) H) : FnOkN P w K mg base (k + 1) f fd ps sp := by
  obtain ⟨oc, od, kV, doc, pm, an, cdv, ct, osl, rfl, lk, hcd⟩ := F.ex
  exact fn_ofN lk hcd S len fun A outer s H vs Q hr hsp => hbody cdv A outer s H vs Q hr hsp
end
end L2
namespace My
open PySem L2
end My
namespace L2
open PySem PySem.Spec PyProof.Rows
section
variable {K : PySem.W.Frag} {i : Nat} {a C T dx : Addr} {b : Bool} {σ : St} {H : Hp} {o : HO} {k : Int} {fld : Str}
theorem iteNo {p q : Prop} (h : q) : if false = true then p else q := by rw [if_neg Bool.false_ne_true]; exact h
end
end L2
namespace L2
open PySem PySem.Spec PyProof.Rows
section
variable {K : PySem.W.Frag} {C T N TE : Addr} {dd : Option Addr}
structure XcN (K : PySem.W.Frag) (C TE : Addr) : Prop where
  xc : Xc0 K C
  kp : PySem.W.keepIn K (.ref C) = true
  cl : XCl K C
  em : PySem.W.exmOne K (.ref C) (.ref TE) = some true
  ve : PySem.W.kitOne K (.ref C) (.type "ValueError") = some true
theorem XcN.of {TN : Addr} {nm q : Str} {bs : List Value} {sn : List Str} {sub : List Value} {ab : Bool} {col : Option Bool} {k0 k1 k2 k3 k5 : Option Value} {oc1 oc2 : Value} {od1 od2 : Option Addr} {es1 es2 : Array DictEntry} {ep1 ep2 : Nat} {sl1 sl2 : Array (Option Value)} {dT : Option Addr} {cdT : ClassData} {slT : Array (Option Value)}
    (e2 : K.lookup C = some (excClassObj nm q C N bs (.ref TE :: VE) true sn sub ab col dd k0 k1 k2 k3 k5 "ValueError.__new__"))
    (e3 : K.lookup N = some ⟨oc1, od1, .dict es1 ep1, sl1⟩) (a3 : (es1.toList.all fun e => match e.key with | .str _ _ => true | _ => false) = true) (i3 : PySem.W.nsIn K N "__init__" = some none)
    (e4 : K.lookup TE = some ⟨.type "type", dT, .cls cdT, slT⟩) (n4 : cdT.ns = TN) (e5 : K.lookup TN = some ⟨oc2, od2, .dict es2 ep2, sl2⟩) (a5 : (es2.toList.all fun e => match e.key with | .str _ _ => true | _ => false) = true) (e6 : PySem.W.nsIn K TN "__init__" = some none)
    (kp : PySem.W.keepIn K (.ref C) = true)
    (g1 : PySem.W.findIn K (.ref C) "__getattribute__" = some (some (.builtin "BaseException.__getattribute__"))) (g2 : PySem.W.findIn K (.ref C) "__getattr__" = some none)
    (hd : PySem.W.hasDictIn K C = true) (ha : PySem.W.findIn K (.ref C) "__class__" = some (some (.builtin "object.__class__")))
    (hn : PySem.W.specialIn K (.builtin "object.__class__") "__get__" = some (some (.builtin "getset_descriptor.__get__"))) (tk : PySem.W.takesIn K (.builtin "object.__class__") = some true)
    (m1 : PySem.W.mroIn K C (.type "object") = some true) (m2 : PySem.W.mroIn K C (.type "ValueError") = some true) (m3 : PySem.W.mroIn K C (.ref TE) = some true) (m4 : PySem.W.mroIn K TE (.type "BaseException") = some true) : XcN K C TE :=
  ⟨⟨nm, q, N, TE, bs, sn, sub, ab, col, dd, k0, k1, k2, k3, k5, e2, nsOk_of e3 a3, i3, tail_of e4 (n4 ▸ nsOk_of e5 a5) (n4 ▸ e6)⟩, kp,
    ⟨g1, g2, ⟨nm, q, N, TE, bs, sn, sub, ab, col, dd, k0, k1, k2, k3, k5, "ValueError.__new__", e2⟩, hd, ha, hn, tk, m1⟩, exm_of e4 m3 m4, kit_ve m2⟩
end
section
variable {P : Program} {w : World} {K : PySem.W.Frag} {mg : Str → Option Value} {base : Heap}
theorem Fun.okX {x qual : Str} {st : Stmt} {f : Addr} {fd : FuncData} {N ps : List Str} {k : Nat} {sp : Sp} (F : Fun K x qual st f fd) (S : FnScope N ps (defScope st)) (len : ∀ vs H Q E, sp vs H Q E → vs.length = ps.length)
    (hbody : ∀ (cdv : Value) (A : Around) (outer : List Env) (s : Shared) (H : Hp) (vs : List V) (Q : VK) (E : XK), Room k (A.deeper (envOfC qual (defScope st) s.heap.objs.size f cdv)) → sp vs H Q E →
      ∃ t, PSs (cxOf (CXe P w) P w K mg base N qual (defScope st) f cdv A outer s H E) (defBody st) t ∧ t { nx := fun _ H' => Q .non H', rt := Q } (start N vs) H) : FnOk P w K mg base (CXe P w) (k + 1) f fd ps sp := by
  obtain ⟨oc, od, kV, doc, pm, an, cdv, ct, osl, rfl, lk, hcd⟩ := F.ex
  exact fn_of lk hcd S len fun A outer s H vs Q E hr hsp => hbody cdv A outer s H vs Q E hr hsp
end
section
variable {K : PySem.W.Frag} {i : Nat} {a C T : Addr} {dd : Option Addr} {b : Bool} {σ : St} {H : Hp}
structure Xat (K : PySem.W.Frag) (H : Hp) (a C : Addr) (dd : Option Addr) : Prop where
  h1 : H a = some (XO a C dd)
  hd : ∀ dx, dd = some dx → ∃ o, H dx = some o
  cl : XCl K C
theorem Xat.keep {H' : Hp} (h : Xat K H a C dd) (k : ∀ b o, H b = some o → H' b = some o) : Xat K H' a C dd := ⟨k _ _ h.h1, fun dx e => (h.hd dx e).elim fun o z => ⟨o, k _ _ z⟩, h.cl⟩
theorem Xat.isx {Q : VK} (h : Xat K H a C dd) (h3 : σ[i]? = some (some (.ref a))) (kk : PySem.W.kitOne K (.ref C) (.ref T) = some b) (q : Q (.bl b) H) : tCB (rIsx K) (tCons (tVar i) (tCons (tC (.ref T)) tNil)) σ H Q :=
  ⟨_, h3, a, C, dd, _, T, b, rfl, ⟨rfl, kk⟩, h.h1, h.hd, h.cl, q⟩
end
end L2
namespace My
open PySem L2
theorem us_c {us : List Value} {n : Nat} (h : us.length = n + 1) : ∃ a r, us = a :: r ∧ r.length = n := by
  cases us with
  | nil => cases h
  | cons a r => exact ⟨a, r, rfl, Nat.succ.inj h⟩
theorem usl0 {us : List Value} (h : us.length = 0) : us = [] := by
  cases List.eq_nil_of_length_eq_zero h
  exact rfl
theorem usl1 {us : List Value} (h : us.length = 1) : ∃ a0, us = [a0] := by
  obtain ⟨a0, u0, rfl, h0⟩ := us_c h
  cases List.eq_nil_of_length_eq_zero h0
  exact ⟨a0, rfl⟩
theorem usl2 {us : List Value} (h : us.length = 2) : ∃ a0 a1, us = [a0, a1] := by
  obtain ⟨a0, u0, rfl, h0⟩ := us_c h
  obtain ⟨a1, u1, rfl, h1⟩ := us_c h0
  cases List.eq_nil_of_length_eq_zero h1
  exact ⟨a0, a1, rfl⟩
theorem usl3 {us : List Value} (h : us.length = 3) : ∃ a0 a1 a2, us = [a0, a1, a2] := by
  obtain ⟨a0, u0, rfl, h0⟩ := us_c h
  obtain ⟨a1, u1, rfl, h1⟩ := us_c h0
  obtain ⟨a2, u2, rfl, h2⟩ := us_c h1
  cases List.eq_nil_of_length_eq_zero h2
  exact ⟨a0, a1, a2, rfl⟩
theorem usl4 {us : List Value} (h : us.length = 4) : ∃ a0 a1 a2 a3, us = [a0, a1, a2, a3] := by
  obtain ⟨a0, u0, rfl, h0⟩ := us_c h
  obtain ⟨a1, u1, rfl, h1⟩ := us_c h0
  obtain ⟨a2, u2, rfl, h2⟩ := us_c h1
  obtain ⟨a3, u3, rfl, h3⟩ := us_c h2
  cases List.eq_nil_of_length_eq_zero h3
  exact ⟨a0, a1, a2, a3, rfl⟩
theorem usl5 {us : List Value} (h : us.length = 5) : ∃ a0 a1 a2 a3 a4, us = [a0, a1, a2, a3, a4] := by
  obtain ⟨a0, u0, rfl, h0⟩ := us_c h
  obtain ⟨a1, u1, rfl, h1⟩ := us_c h0
  obtain ⟨a2, u2, rfl, h2⟩ := us_c h1
  obtain ⟨a3, u3, rfl, h3⟩ := us_c h2
  obtain ⟨a4, u4, rfl, h4⟩ := us_c h3
  cases List.eq_nil_of_length_eq_zero h4
  exact ⟨a0, a1, a2, a3, a4, rfl⟩
theorem usl6 {us : List Value} (h : us.length = 6) : ∃ a0 a1 a2 a3 a4 a5, us = [a0, a1, a2, a3, a4, a5] := by
  obtain ⟨a0, u0, rfl, h0⟩ := us_c h
  obtain ⟨a1, u1, rfl, h1⟩ := us_c h0
  obtain ⟨a2, u2, rfl, h2⟩ := us_c h1
  obtain ⟨a3, u3, rfl, h3⟩ := us_c h2
  obtain ⟨a4, u4, rfl, h4⟩ := us_c h3
  obtain ⟨a5, u5, rfl, h5⟩ := us_c h4
  cases List.eq_nil_of_length_eq_zero h5
  exact ⟨a0, a1, a2, a3, a4, a5, rfl⟩
theorem usl7 {us : List Value} (h : us.length = 7) : ∃ a0 a1 a2 a3 a4 a5 a6, us = [a0, a1, a2, a3, a4, a5, a6] := by
  obtain ⟨a0, u0, rfl, h0⟩ := us_c h
  obtain ⟨a1, u1, rfl, h1⟩ := us_c h0
  obtain ⟨a2, u2, rfl, h2⟩ := us_c h1
  obtain ⟨a3, u3, rfl, h3⟩ := us_c h2
  obtain ⟨a4, u4, rfl, h4⟩ := us_c h3
  obtain ⟨a5, u5, rfl, h5⟩ := us_c h4
  obtain ⟨a6, u6, rfl, h6⟩ := us_c h5
  cases List.eq_nil_of_length_eq_zero h6
  exact ⟨a0, a1, a2, a3, a4, a5, a6, rfl⟩
theorem usl8 {us : List Value} (h : us.length = 8) : ∃ a0 a1 a2 a3 a4 a5 a6 a7, us = [a0, a1, a2, a3, a4, a5, a6, a7] := by
  obtain ⟨a0, u0, rfl, h0⟩ := us_c h
  obtain ⟨a1, u1, rfl, h1⟩ := us_c h0
  obtain ⟨a2, u2, rfl, h2⟩ := us_c h1
  obtain ⟨a3, u3, rfl, h3⟩ := us_c h2
  obtain ⟨a4, u4, rfl, h4⟩ := us_c h3
  obtain ⟨a5, u5, rfl, h5⟩ := us_c h4
  obtain ⟨a6, u6, rfl, h6⟩ := us_c h5
  obtain ⟨a7, u7, rfl, h7⟩ := us_c h6
  cases List.eq_nil_of_length_eq_zero h7
  exact ⟨a0, a1, a2, a3, a4, a5, a6, a7, rfl⟩
def top (i : Nat) : Stmt := PySem.Challenge.pw_trudge_k19_refusals_apart.main.body.getD i (.Pass ⟨0, 0, 0, 0⟩)
abbrev i_BadLand : Stmt := clsAt 0 (top 2)
abbrev i_BadTrip : Stmt := clsAt 0 (top 3)
abbrev i_BadPlan : Stmt := clsAt 0 (top 4)
abbrev i_Taken : Stmt := clsAt 0 (top 6)
abbrev i_NoWay : Stmt := clsAt 0 (top 9)
abbrev i_TooMany : Stmt := clsAt 0 (top 8)
abbrev s_hand : Stmt := top 16
abbrev s_next : Stmt := top 17
abbrev s_take : Stmt := top 18
abbrev s_draw : Stmt := top 19
abbrev s_raise : Stmt := top 20
abbrev s_kinds : Stmt := top 21
abbrev s_field : Stmt := top 22
abbrev s_told : Stmt := top 23
abbrev s_law : Stmt := top 24
set_option genInjectivity false in
set_option genSizeOf false in
structure Txt (K : PySem.W.Frag) (mg : Str → Option Value) where
  n_ValueError : mg "ValueError" = none
  n_abs : mg "abs" = none
  n_isinstance : mg "isinstance" = none
  n_len : mg "len" = none
  n_list : mg "list" = none
  n_range : mg "range" = none
  c_TrudgeError : Addr
  mg_TrudgeError : mg "TrudgeError" = some (.ref c_TrudgeError)
  c_BadLand : Addr
  mg_BadLand : mg "BadLand" = some (.ref c_BadLand)
  c_BadTrip : Addr
  mg_BadTrip : mg "BadTrip" = some (.ref c_BadTrip)
  c_BadPlan : Addr
  mg_BadPlan : mg "BadPlan" = some (.ref c_BadPlan)
  c_BadLabel : Addr
  mg_BadLabel : mg "BadLabel" = some (.ref c_BadLabel)
  c_Taken : Addr
  mg_Taken : mg "Taken" = some (.ref c_Taken)
  c_BadWay : Addr
  mg_BadWay : mg "BadWay" = some (.ref c_BadWay)
  c_TooMany : Addr
  mg_TooMany : mg "TooMany" = some (.ref c_TooMany)
  c_NoWay : Addr
  mg_NoWay : mg "NoWay" = some (.ref c_NoWay)
  c_BadStore : Addr
  mg_BadStore : mg "BadStore" = some (.ref c_BadStore)
  c_BadGoal : Addr
  mg_BadGoal : mg "BadGoal" = some (.ref c_BadGoal)
  c_NoRow : Addr
  mg_NoRow : mg "NoRow" = some (.ref c_NoRow)
  c_NoText : Addr
  mg_NoText : mg "NoText" = some (.ref c_NoText)
  c_NoLand : Addr
  mg_NoLand : mg "NoLand" = some (.ref c_NoLand)
  xi_BadLand : Addr
  xd_BadLand : FuncData
  F_BadLand : Fun K "__init__" "BadLand.__init__" i_BadLand xi_BadLand xd_BadLand
  xc_BadLand : XcI K c_BadLand c_TrudgeError xi_BadLand "at"
  xi_BadTrip : Addr
  xd_BadTrip : FuncData
  F_BadTrip : Fun K "__init__" "BadTrip.__init__" i_BadTrip xi_BadTrip xd_BadTrip
  xc_BadTrip : XcI K c_BadTrip c_TrudgeError xi_BadTrip "at"
  xi_BadPlan : Addr
  xd_BadPlan : FuncData
  F_BadPlan : Fun K "__init__" "BadPlan.__init__" i_BadPlan xi_BadPlan xd_BadPlan
  xc_BadPlan : XcI K c_BadPlan c_TrudgeError xi_BadPlan "at"
  xi_Taken : Addr
  xd_Taken : FuncData
  F_Taken : Fun K "__init__" "Taken.__init__" i_Taken xi_Taken xd_Taken
  xc_Taken : XcI K c_Taken c_TrudgeError xi_Taken "label"
  xi_NoWay : Addr
  xd_NoWay : FuncData
  F_NoWay : Fun K "__init__" "NoWay.__init__" i_NoWay xi_NoWay xd_NoWay
  xc_NoWay : XcI K c_NoWay c_TrudgeError xi_NoWay "label"
  xi_TooMany : Addr
  xd_TooMany : FuncData
  F_TooMany : Fun K "__init__" "TooMany.__init__" i_TooMany xi_TooMany xd_TooMany
  xc_TooMany : XcI K c_TooMany c_TrudgeError xi_TooMany "most"
  xc_NoLand : XcN K c_NoLand c_TrudgeError
  xc_BadLabel : XcN K c_BadLabel c_TrudgeError
  xc_BadWay : XcN K c_BadWay c_TrudgeError
  xc_BadStore : XcN K c_BadStore c_TrudgeError
  xc_BadGoal : XcN K c_BadGoal c_TrudgeError
  xc_NoRow : XcN K c_NoRow c_TrudgeError
  xc_NoText : XcN K c_NoText c_TrudgeError
  k_BadLand_BadGoal : PySem.W.kitOne K (.ref c_BadLand) (.ref c_BadGoal) = some false
  k_BadLand_BadLabel : PySem.W.kitOne K (.ref c_BadLand) (.ref c_BadLabel) = some false
  k_BadLand_BadLand : PySem.W.kitOne K (.ref c_BadLand) (.ref c_BadLand) = some true
  k_BadLand_BadPlan : PySem.W.kitOne K (.ref c_BadLand) (.ref c_BadPlan) = some false
  k_BadLand_BadStore : PySem.W.kitOne K (.ref c_BadLand) (.ref c_BadStore) = some false
  k_BadLand_BadTrip : PySem.W.kitOne K (.ref c_BadLand) (.ref c_BadTrip) = some false
  k_BadLand_BadWay : PySem.W.kitOne K (.ref c_BadLand) (.ref c_BadWay) = some false
  k_BadLand_NoLand : PySem.W.kitOne K (.ref c_BadLand) (.ref c_NoLand) = some false
  k_BadLand_NoRow : PySem.W.kitOne K (.ref c_BadLand) (.ref c_NoRow) = some false
  k_BadLand_NoText : PySem.W.kitOne K (.ref c_BadLand) (.ref c_NoText) = some false
  k_BadLand_NoWay : PySem.W.kitOne K (.ref c_BadLand) (.ref c_NoWay) = some false
  k_BadLand_Taken : PySem.W.kitOne K (.ref c_BadLand) (.ref c_Taken) = some false
  k_BadLand_TooMany : PySem.W.kitOne K (.ref c_BadLand) (.ref c_TooMany) = some false
  k_BadTrip_BadGoal : PySem.W.kitOne K (.ref c_BadTrip) (.ref c_BadGoal) = some false
  k_BadTrip_BadLabel : PySem.W.kitOne K (.ref c_BadTrip) (.ref c_BadLabel) = some false
  k_BadTrip_BadLand : PySem.W.kitOne K (.ref c_BadTrip) (.ref c_BadLand) = some false
  k_BadTrip_BadPlan : PySem.W.kitOne K (.ref c_BadTrip) (.ref c_BadPlan) = some false
  k_BadTrip_BadStore : PySem.W.kitOne K (.ref c_BadTrip) (.ref c_BadStore) = some false
  k_BadTrip_BadTrip : PySem.W.kitOne K (.ref c_BadTrip) (.ref c_BadTrip) = some true
  k_BadTrip_BadWay : PySem.W.kitOne K (.ref c_BadTrip) (.ref c_BadWay) = some false
  k_BadTrip_NoLand : PySem.W.kitOne K (.ref c_BadTrip) (.ref c_NoLand) = some false
  k_BadTrip_NoRow : PySem.W.kitOne K (.ref c_BadTrip) (.ref c_NoRow) = some false
  k_BadTrip_NoText : PySem.W.kitOne K (.ref c_BadTrip) (.ref c_NoText) = some false
  k_BadTrip_NoWay : PySem.W.kitOne K (.ref c_BadTrip) (.ref c_NoWay) = some false
  k_BadTrip_Taken : PySem.W.kitOne K (.ref c_BadTrip) (.ref c_Taken) = some false
  k_BadTrip_TooMany : PySem.W.kitOne K (.ref c_BadTrip) (.ref c_TooMany) = some false
  k_BadPlan_BadGoal : PySem.W.kitOne K (.ref c_BadPlan) (.ref c_BadGoal) = some false
  k_BadPlan_BadLabel : PySem.W.kitOne K (.ref c_BadPlan) (.ref c_BadLabel) = some false
  k_BadPlan_BadLand : PySem.W.kitOne K (.ref c_BadPlan) (.ref c_BadLand) = some false
  k_BadPlan_BadPlan : PySem.W.kitOne K (.ref c_BadPlan) (.ref c_BadPlan) = some true
  k_BadPlan_BadStore : PySem.W.kitOne K (.ref c_BadPlan) (.ref c_BadStore) = some false
  k_BadPlan_BadTrip : PySem.W.kitOne K (.ref c_BadPlan) (.ref c_BadTrip) = some false
  k_BadPlan_BadWay : PySem.W.kitOne K (.ref c_BadPlan) (.ref c_BadWay) = some false
  k_BadPlan_NoLand : PySem.W.kitOne K (.ref c_BadPlan) (.ref c_NoLand) = some false
  k_BadPlan_NoRow : PySem.W.kitOne K (.ref c_BadPlan) (.ref c_NoRow) = some false
  k_BadPlan_NoText : PySem.W.kitOne K (.ref c_BadPlan) (.ref c_NoText) = some false
  k_BadPlan_NoWay : PySem.W.kitOne K (.ref c_BadPlan) (.ref c_NoWay) = some false
  k_BadPlan_Taken : PySem.W.kitOne K (.ref c_BadPlan) (.ref c_Taken) = some false
  k_BadPlan_TooMany : PySem.W.kitOne K (.ref c_BadPlan) (.ref c_TooMany) = some false
  k_Taken_BadGoal : PySem.W.kitOne K (.ref c_Taken) (.ref c_BadGoal) = some false
  k_Taken_BadLabel : PySem.W.kitOne K (.ref c_Taken) (.ref c_BadLabel) = some false
  k_Taken_BadLand : PySem.W.kitOne K (.ref c_Taken) (.ref c_BadLand) = some false
  k_Taken_BadPlan : PySem.W.kitOne K (.ref c_Taken) (.ref c_BadPlan) = some false
  k_Taken_BadStore : PySem.W.kitOne K (.ref c_Taken) (.ref c_BadStore) = some false
  k_Taken_BadTrip : PySem.W.kitOne K (.ref c_Taken) (.ref c_BadTrip) = some false
  k_Taken_BadWay : PySem.W.kitOne K (.ref c_Taken) (.ref c_BadWay) = some false
  k_Taken_NoLand : PySem.W.kitOne K (.ref c_Taken) (.ref c_NoLand) = some false
  k_Taken_NoRow : PySem.W.kitOne K (.ref c_Taken) (.ref c_NoRow) = some false
  k_Taken_NoText : PySem.W.kitOne K (.ref c_Taken) (.ref c_NoText) = some false
  k_Taken_NoWay : PySem.W.kitOne K (.ref c_Taken) (.ref c_NoWay) = some false
  k_Taken_Taken : PySem.W.kitOne K (.ref c_Taken) (.ref c_Taken) = some true
  k_Taken_TooMany : PySem.W.kitOne K (.ref c_Taken) (.ref c_TooMany) = some false
  k_NoWay_BadGoal : PySem.W.kitOne K (.ref c_NoWay) (.ref c_BadGoal) = some false
  k_NoWay_BadLabel : PySem.W.kitOne K (.ref c_NoWay) (.ref c_BadLabel) = some false
  k_NoWay_BadLand : PySem.W.kitOne K (.ref c_NoWay) (.ref c_BadLand) = some false
  k_NoWay_BadPlan : PySem.W.kitOne K (.ref c_NoWay) (.ref c_BadPlan) = some false
  k_NoWay_BadStore : PySem.W.kitOne K (.ref c_NoWay) (.ref c_BadStore) = some false
  k_NoWay_BadTrip : PySem.W.kitOne K (.ref c_NoWay) (.ref c_BadTrip) = some false
  k_NoWay_BadWay : PySem.W.kitOne K (.ref c_NoWay) (.ref c_BadWay) = some false
  k_NoWay_NoLand : PySem.W.kitOne K (.ref c_NoWay) (.ref c_NoLand) = some false
  k_NoWay_NoRow : PySem.W.kitOne K (.ref c_NoWay) (.ref c_NoRow) = some false
  k_NoWay_NoText : PySem.W.kitOne K (.ref c_NoWay) (.ref c_NoText) = some false
  k_NoWay_NoWay : PySem.W.kitOne K (.ref c_NoWay) (.ref c_NoWay) = some true
  k_NoWay_Taken : PySem.W.kitOne K (.ref c_NoWay) (.ref c_Taken) = some false
  k_NoWay_TooMany : PySem.W.kitOne K (.ref c_NoWay) (.ref c_TooMany) = some false
  k_TooMany_BadGoal : PySem.W.kitOne K (.ref c_TooMany) (.ref c_BadGoal) = some false
  k_TooMany_BadLabel : PySem.W.kitOne K (.ref c_TooMany) (.ref c_BadLabel) = some false
  k_TooMany_BadLand : PySem.W.kitOne K (.ref c_TooMany) (.ref c_BadLand) = some false
  k_TooMany_BadPlan : PySem.W.kitOne K (.ref c_TooMany) (.ref c_BadPlan) = some false
  k_TooMany_BadStore : PySem.W.kitOne K (.ref c_TooMany) (.ref c_BadStore) = some false
  k_TooMany_BadTrip : PySem.W.kitOne K (.ref c_TooMany) (.ref c_BadTrip) = some false
  k_TooMany_BadWay : PySem.W.kitOne K (.ref c_TooMany) (.ref c_BadWay) = some false
  k_TooMany_NoLand : PySem.W.kitOne K (.ref c_TooMany) (.ref c_NoLand) = some false
  k_TooMany_NoRow : PySem.W.kitOne K (.ref c_TooMany) (.ref c_NoRow) = some false
  k_TooMany_NoText : PySem.W.kitOne K (.ref c_TooMany) (.ref c_NoText) = some false
  k_TooMany_NoWay : PySem.W.kitOne K (.ref c_TooMany) (.ref c_NoWay) = some false
  k_TooMany_Taken : PySem.W.kitOne K (.ref c_TooMany) (.ref c_Taken) = some false
  k_TooMany_TooMany : PySem.W.kitOne K (.ref c_TooMany) (.ref c_TooMany) = some true
  k_NoLand_BadGoal : PySem.W.kitOne K (.ref c_NoLand) (.ref c_BadGoal) = some false
  k_NoLand_BadLabel : PySem.W.kitOne K (.ref c_NoLand) (.ref c_BadLabel) = some false
  k_NoLand_BadLand : PySem.W.kitOne K (.ref c_NoLand) (.ref c_BadLand) = some false
  k_NoLand_BadPlan : PySem.W.kitOne K (.ref c_NoLand) (.ref c_BadPlan) = some false
  k_NoLand_BadStore : PySem.W.kitOne K (.ref c_NoLand) (.ref c_BadStore) = some false
  k_NoLand_BadTrip : PySem.W.kitOne K (.ref c_NoLand) (.ref c_BadTrip) = some false
  k_NoLand_BadWay : PySem.W.kitOne K (.ref c_NoLand) (.ref c_BadWay) = some false
  k_NoLand_NoLand : PySem.W.kitOne K (.ref c_NoLand) (.ref c_NoLand) = some true
  k_NoLand_NoRow : PySem.W.kitOne K (.ref c_NoLand) (.ref c_NoRow) = some false
  k_NoLand_NoText : PySem.W.kitOne K (.ref c_NoLand) (.ref c_NoText) = some false
  k_NoLand_NoWay : PySem.W.kitOne K (.ref c_NoLand) (.ref c_NoWay) = some false
  k_NoLand_Taken : PySem.W.kitOne K (.ref c_NoLand) (.ref c_Taken) = some false
  k_NoLand_TooMany : PySem.W.kitOne K (.ref c_NoLand) (.ref c_TooMany) = some false
  k_BadLabel_BadGoal : PySem.W.kitOne K (.ref c_BadLabel) (.ref c_BadGoal) = some false
  k_BadLabel_BadLabel : PySem.W.kitOne K (.ref c_BadLabel) (.ref c_BadLabel) = some true
  k_BadLabel_BadLand : PySem.W.kitOne K (.ref c_BadLabel) (.ref c_BadLand) = some false
  k_BadLabel_BadPlan : PySem.W.kitOne K (.ref c_BadLabel) (.ref c_BadPlan) = some false
  k_BadLabel_BadStore : PySem.W.kitOne K (.ref c_BadLabel) (.ref c_BadStore) = some false
  k_BadLabel_BadTrip : PySem.W.kitOne K (.ref c_BadLabel) (.ref c_BadTrip) = some false
  k_BadLabel_BadWay : PySem.W.kitOne K (.ref c_BadLabel) (.ref c_BadWay) = some false
  k_BadLabel_NoLand : PySem.W.kitOne K (.ref c_BadLabel) (.ref c_NoLand) = some false
  k_BadLabel_NoRow : PySem.W.kitOne K (.ref c_BadLabel) (.ref c_NoRow) = some false
  k_BadLabel_NoText : PySem.W.kitOne K (.ref c_BadLabel) (.ref c_NoText) = some false
  k_BadLabel_NoWay : PySem.W.kitOne K (.ref c_BadLabel) (.ref c_NoWay) = some false
  k_BadLabel_Taken : PySem.W.kitOne K (.ref c_BadLabel) (.ref c_Taken) = some false
  k_BadLabel_TooMany : PySem.W.kitOne K (.ref c_BadLabel) (.ref c_TooMany) = some false
  k_BadWay_BadGoal : PySem.W.kitOne K (.ref c_BadWay) (.ref c_BadGoal) = some false
  k_BadWay_BadLabel : PySem.W.kitOne K (.ref c_BadWay) (.ref c_BadLabel) = some false
  k_BadWay_BadLand : PySem.W.kitOne K (.ref c_BadWay) (.ref c_BadLand) = some false
  k_BadWay_BadPlan : PySem.W.kitOne K (.ref c_BadWay) (.ref c_BadPlan) = some false
  k_BadWay_BadStore : PySem.W.kitOne K (.ref c_BadWay) (.ref c_BadStore) = some false
  k_BadWay_BadTrip : PySem.W.kitOne K (.ref c_BadWay) (.ref c_BadTrip) = some false
  k_BadWay_BadWay : PySem.W.kitOne K (.ref c_BadWay) (.ref c_BadWay) = some true
  k_BadWay_NoLand : PySem.W.kitOne K (.ref c_BadWay) (.ref c_NoLand) = some false
  k_BadWay_NoRow : PySem.W.kitOne K (.ref c_BadWay) (.ref c_NoRow) = some false
  k_BadWay_NoText : PySem.W.kitOne K (.ref c_BadWay) (.ref c_NoText) = some false
  k_BadWay_NoWay : PySem.W.kitOne K (.ref c_BadWay) (.ref c_NoWay) = some false
  k_BadWay_Taken : PySem.W.kitOne K (.ref c_BadWay) (.ref c_Taken) = some false
  k_BadWay_TooMany : PySem.W.kitOne K (.ref c_BadWay) (.ref c_TooMany) = some false
  k_BadStore_BadGoal : PySem.W.kitOne K (.ref c_BadStore) (.ref c_BadGoal) = some false
  k_BadStore_BadLabel : PySem.W.kitOne K (.ref c_BadStore) (.ref c_BadLabel) = some false
  k_BadStore_BadLand : PySem.W.kitOne K (.ref c_BadStore) (.ref c_BadLand) = some false
  k_BadStore_BadPlan : PySem.W.kitOne K (.ref c_BadStore) (.ref c_BadPlan) = some false
  k_BadStore_BadStore : PySem.W.kitOne K (.ref c_BadStore) (.ref c_BadStore) = some true
  k_BadStore_BadTrip : PySem.W.kitOne K (.ref c_BadStore) (.ref c_BadTrip) = some false
  k_BadStore_BadWay : PySem.W.kitOne K (.ref c_BadStore) (.ref c_BadWay) = some false
  k_BadStore_NoLand : PySem.W.kitOne K (.ref c_BadStore) (.ref c_NoLand) = some false
  k_BadStore_NoRow : PySem.W.kitOne K (.ref c_BadStore) (.ref c_NoRow) = some false
  k_BadStore_NoText : PySem.W.kitOne K (.ref c_BadStore) (.ref c_NoText) = some false
  k_BadStore_NoWay : PySem.W.kitOne K (.ref c_BadStore) (.ref c_NoWay) = some false
  k_BadStore_Taken : PySem.W.kitOne K (.ref c_BadStore) (.ref c_Taken) = some false
  k_BadStore_TooMany : PySem.W.kitOne K (.ref c_BadStore) (.ref c_TooMany) = some false
  k_BadGoal_BadGoal : PySem.W.kitOne K (.ref c_BadGoal) (.ref c_BadGoal) = some true
  k_BadGoal_BadLabel : PySem.W.kitOne K (.ref c_BadGoal) (.ref c_BadLabel) = some false
  k_BadGoal_BadLand : PySem.W.kitOne K (.ref c_BadGoal) (.ref c_BadLand) = some false
  k_BadGoal_BadPlan : PySem.W.kitOne K (.ref c_BadGoal) (.ref c_BadPlan) = some false
  k_BadGoal_BadStore : PySem.W.kitOne K (.ref c_BadGoal) (.ref c_BadStore) = some false
  k_BadGoal_BadTrip : PySem.W.kitOne K (.ref c_BadGoal) (.ref c_BadTrip) = some false
  k_BadGoal_BadWay : PySem.W.kitOne K (.ref c_BadGoal) (.ref c_BadWay) = some false
  k_BadGoal_NoLand : PySem.W.kitOne K (.ref c_BadGoal) (.ref c_NoLand) = some false
  k_BadGoal_NoRow : PySem.W.kitOne K (.ref c_BadGoal) (.ref c_NoRow) = some false
  k_BadGoal_NoText : PySem.W.kitOne K (.ref c_BadGoal) (.ref c_NoText) = some false
  k_BadGoal_NoWay : PySem.W.kitOne K (.ref c_BadGoal) (.ref c_NoWay) = some false
  k_BadGoal_Taken : PySem.W.kitOne K (.ref c_BadGoal) (.ref c_Taken) = some false
  k_BadGoal_TooMany : PySem.W.kitOne K (.ref c_BadGoal) (.ref c_TooMany) = some false
  k_NoRow_BadGoal : PySem.W.kitOne K (.ref c_NoRow) (.ref c_BadGoal) = some false
  k_NoRow_BadLabel : PySem.W.kitOne K (.ref c_NoRow) (.ref c_BadLabel) = some false
  k_NoRow_BadLand : PySem.W.kitOne K (.ref c_NoRow) (.ref c_BadLand) = some false
  k_NoRow_BadPlan : PySem.W.kitOne K (.ref c_NoRow) (.ref c_BadPlan) = some false
  k_NoRow_BadStore : PySem.W.kitOne K (.ref c_NoRow) (.ref c_BadStore) = some false
  k_NoRow_BadTrip : PySem.W.kitOne K (.ref c_NoRow) (.ref c_BadTrip) = some false
  k_NoRow_BadWay : PySem.W.kitOne K (.ref c_NoRow) (.ref c_BadWay) = some false
  k_NoRow_NoLand : PySem.W.kitOne K (.ref c_NoRow) (.ref c_NoLand) = some false
  k_NoRow_NoRow : PySem.W.kitOne K (.ref c_NoRow) (.ref c_NoRow) = some true
  k_NoRow_NoText : PySem.W.kitOne K (.ref c_NoRow) (.ref c_NoText) = some false
  k_NoRow_NoWay : PySem.W.kitOne K (.ref c_NoRow) (.ref c_NoWay) = some false
  k_NoRow_Taken : PySem.W.kitOne K (.ref c_NoRow) (.ref c_Taken) = some false
  k_NoRow_TooMany : PySem.W.kitOne K (.ref c_NoRow) (.ref c_TooMany) = some false
  k_NoText_BadGoal : PySem.W.kitOne K (.ref c_NoText) (.ref c_BadGoal) = some false
  k_NoText_BadLabel : PySem.W.kitOne K (.ref c_NoText) (.ref c_BadLabel) = some false
  k_NoText_BadLand : PySem.W.kitOne K (.ref c_NoText) (.ref c_BadLand) = some false
  k_NoText_BadPlan : PySem.W.kitOne K (.ref c_NoText) (.ref c_BadPlan) = some false
  k_NoText_BadStore : PySem.W.kitOne K (.ref c_NoText) (.ref c_BadStore) = some false
  k_NoText_BadTrip : PySem.W.kitOne K (.ref c_NoText) (.ref c_BadTrip) = some false
  k_NoText_BadWay : PySem.W.kitOne K (.ref c_NoText) (.ref c_BadWay) = some false
  k_NoText_NoLand : PySem.W.kitOne K (.ref c_NoText) (.ref c_NoLand) = some false
  k_NoText_NoRow : PySem.W.kitOne K (.ref c_NoText) (.ref c_NoRow) = some false
  k_NoText_NoText : PySem.W.kitOne K (.ref c_NoText) (.ref c_NoText) = some true
  k_NoText_NoWay : PySem.W.kitOne K (.ref c_NoText) (.ref c_NoWay) = some false
  k_NoText_Taken : PySem.W.kitOne K (.ref c_NoText) (.ref c_Taken) = some false
  k_NoText_TooMany : PySem.W.kitOne K (.ref c_NoText) (.ref c_TooMany) = some false
  a_hand : Addr
  d_hand : FuncData
  F_hand : Fun K "_law_hand" "_law_hand" s_hand a_hand d_hand
  mg_hand : mg "_law_hand" = some (.ref a_hand)
  kp_hand : PySem.W.keepIn K (.ref a_hand) = true
  a_next : Addr
  d_next : FuncData
  F_next : Fun K "_law_next" "_law_next" s_next a_next d_next
  mg_next : mg "_law_next" = some (.ref a_next)
  kp_next : PySem.W.keepIn K (.ref a_next) = true
  a_take : Addr
  d_take : FuncData
  F_take : Fun K "_law_take" "_law_take" s_take a_take d_take
  mg_take : mg "_law_take" = some (.ref a_take)
  kp_take : PySem.W.keepIn K (.ref a_take) = true
  a_draw : Addr
  d_draw : FuncData
  F_draw : Fun K "_law_draw" "_law_draw" s_draw a_draw d_draw
  mg_draw : mg "_law_draw" = some (.ref a_draw)
  kp_draw : PySem.W.keepIn K (.ref a_draw) = true
  a_raise : Addr
  d_raise : FuncData
  F_raise : Fun K "_law_raise" "_law_raise" s_raise a_raise d_raise
  mg_raise : mg "_law_raise" = some (.ref a_raise)
  kp_raise : PySem.W.keepIn K (.ref a_raise) = true
  a_kinds : Addr
  d_kinds : FuncData
  F_kinds : Fun K "_law_kinds" "_law_kinds" s_kinds a_kinds d_kinds
  mg_kinds : mg "_law_kinds" = some (.ref a_kinds)
  kp_kinds : PySem.W.keepIn K (.ref a_kinds) = true
  a_field : Addr
  d_field : FuncData
  F_field : Fun K "_law_field" "_law_field" s_field a_field d_field
  mg_field : mg "_law_field" = some (.ref a_field)
  kp_field : PySem.W.keepIn K (.ref a_field) = true
  a_told : Addr
  d_told : FuncData
  F_told : Fun K "_law_told" "_law_told" s_told a_told d_told
  mg_told : mg "_law_told" = some (.ref a_told)
  kp_told : PySem.W.keepIn K (.ref a_told) = true
  a_law : Addr
  d_law : FuncData
  F_law : Fun K "law" "law" s_law a_law d_law
  mg_law : mg "law" = some (.ref a_law)
  kp_law : PySem.W.keepIn K (.ref a_law) = true
theorem sc_hand : FnScope ["_law_script"] ["_law_script"] (defScope s_hand) := ⟨rfl, rfl, rfl, by decide +kernel, rfl, by decide +kernel, by decide +kernel⟩
theorem sc_next : FnScope ["_law_hand_here"] ["_law_hand_here"] (defScope s_next) := ⟨rfl, rfl, rfl, by decide +kernel, rfl, by decide +kernel, by decide +kernel⟩
theorem sc_take : FnScope ["_law_hand_here", "_law_cell"] ["_law_hand_here"] (defScope s_take) := ⟨rfl, rfl, rfl, by decide +kernel, rfl, by decide +kernel, by decide +kernel⟩
theorem sc_draw : FnScope ["_law_hand_here", "_law_many", "_law_got", "_law_value", "_law_size"] ["_law_hand_here", "_law_many"] (defScope s_draw) := ⟨rfl, rfl, rfl, by decide +kernel, rfl, by decide +kernel, by decide +kernel⟩
theorem sc_raise : FnScope ["_law_door", "_law_thing"] ["_law_door", "_law_thing"] (defScope s_raise) := ⟨rfl, rfl, rfl, by decide +kernel, rfl, by decide +kernel, by decide +kernel⟩
theorem sc_kinds : FnScope ["_law_e", "_law_some"] ["_law_e"] (defScope s_kinds) := ⟨rfl, rfl, rfl, by decide +kernel, rfl, by decide +kernel, by decide +kernel⟩
theorem sc_field : FnScope ["_law_e", "_law_kinds_here"] ["_law_e", "_law_kinds_here"] (defScope s_field) := ⟨rfl, rfl, rfl, by decide +kernel, rfl, by decide +kernel, by decide +kernel⟩
theorem sc_told : FnScope ["_law_door", "_law_thing", "_law_e", "_law_kinds_here"] ["_law_door", "_law_thing"] (defScope s_told) := ⟨rfl, rfl, rfl, by decide +kernel, rfl, by decide +kernel, by decide +kernel⟩
theorem sc_law : FnScope ["_law_script", "_law_hand_here", "_law_door", "_law_thing", "_law_fields"] ["_law_script"] (defScope s_law) := ⟨rfl, rfl, rfl, by decide +kernel, rfl, by decide +kernel, by decide +kernel⟩
theorem sc_i_BadLand : FnScope ["self", "at"] ["self", "at"] (defScope i_BadLand) := ⟨rfl, rfl, rfl, by decide +kernel, rfl, by decide +kernel, by decide +kernel⟩
theorem sc_i_BadTrip : FnScope ["self", "at"] ["self", "at"] (defScope i_BadTrip) := ⟨rfl, rfl, rfl, by decide +kernel, rfl, by decide +kernel, by decide +kernel⟩
theorem sc_i_BadPlan : FnScope ["self", "at"] ["self", "at"] (defScope i_BadPlan) := ⟨rfl, rfl, rfl, by decide +kernel, rfl, by decide +kernel, by decide +kernel⟩
theorem sc_i_Taken : FnScope ["self", "label"] ["self", "label"] (defScope i_Taken) := ⟨rfl, rfl, rfl, by decide +kernel, rfl, by decide +kernel, by decide +kernel⟩
theorem sc_i_NoWay : FnScope ["self", "label"] ["self", "label"] (defScope i_NoWay) := ⟨rfl, rfl, rfl, by decide +kernel, rfl, by decide +kernel, by decide +kernel⟩
theorem sc_i_TooMany : FnScope ["self", "most"] ["self", "most"] (defScope i_TooMany) := ⟨rfl, rfl, rfl, by decide +kernel, rfl, by decide +kernel, by decide +kernel⟩
theorem bd_hand {K : PySem.W.Frag} {mg : Str → Option Value} (T : Txt K mg) : Binds K T.d_hand ["_law_script"] [] := T.F_hand.binds fun _ _ _ _ _ _ us hl => by obtain ⟨_, rfl⟩ := usl1 hl; rfl
theorem bd_next {K : PySem.W.Frag} {mg : Str → Option Value} (T : Txt K mg) : Binds K T.d_next ["_law_hand_here"] [] := T.F_next.binds fun _ _ _ _ _ _ us hl => by obtain ⟨_, rfl⟩ := usl1 hl; rfl
theorem bd_take {K : PySem.W.Frag} {mg : Str → Option Value} (T : Txt K mg) : Binds K T.d_take ["_law_hand_here"] [] := T.F_take.binds fun _ _ _ _ _ _ us hl => by obtain ⟨_, rfl⟩ := usl1 hl; rfl
theorem bd_draw {K : PySem.W.Frag} {mg : Str → Option Value} (T : Txt K mg) : Binds K T.d_draw ["_law_hand_here", "_law_many"] [] := T.F_draw.binds fun _ _ _ _ _ _ us hl => by obtain ⟨_, _, rfl⟩ := usl2 hl; rfl
theorem bd_raise {K : PySem.W.Frag} {mg : Str → Option Value} (T : Txt K mg) : Binds K T.d_raise ["_law_door", "_law_thing"] [] := T.F_raise.binds fun _ _ _ _ _ _ us hl => by obtain ⟨_, _, rfl⟩ := usl2 hl; rfl
theorem bd_kinds {K : PySem.W.Frag} {mg : Str → Option Value} (T : Txt K mg) : Binds K T.d_kinds ["_law_e"] [] := T.F_kinds.binds fun _ _ _ _ _ _ us hl => by obtain ⟨_, rfl⟩ := usl1 hl; rfl
theorem bd_field {K : PySem.W.Frag} {mg : Str → Option Value} (T : Txt K mg) : Binds K T.d_field ["_law_e", "_law_kinds_here"] [] := T.F_field.binds fun _ _ _ _ _ _ us hl => by obtain ⟨_, _, rfl⟩ := usl2 hl; rfl
theorem bd_told {K : PySem.W.Frag} {mg : Str → Option Value} (T : Txt K mg) : Binds K T.d_told ["_law_door", "_law_thing"] [] := T.F_told.binds fun _ _ _ _ _ _ us hl => by obtain ⟨_, _, rfl⟩ := usl2 hl; rfl
theorem bd_law {K : PySem.W.Frag} {mg : Str → Option Value} (T : Txt K mg) : Binds K T.d_law ["_law_script"] [] := T.F_law.binds fun _ _ _ _ _ _ us hl => by obtain ⟨_, rfl⟩ := usl1 hl; rfl
theorem bd_i_BadLand {K : PySem.W.Frag} {mg : Str → Option Value} (T : Txt K mg) : Binds K T.xd_BadLand ["self", "at"] [] := T.F_BadLand.binds fun _ _ _ _ _ _ us hl => match us, hl with | [_, _], _ => rfl
theorem in_BadLand {P : Program} {w : World} {K : PySem.W.Frag} {mg : Str → Option Value} {base : Heap} (T : Txt K mg) : InitP P w K mg base 1 T.xi_BadLand T.c_BadLand "at" := T.xc_BadLand.init T.F_BadLand rfl sc_i_BadLand (bd_i_BadLand T)
theorem bd_i_BadTrip {K : PySem.W.Frag} {mg : Str → Option Value} (T : Txt K mg) : Binds K T.xd_BadTrip ["self", "at"] [] := T.F_BadTrip.binds fun _ _ _ _ _ _ us hl => match us, hl with | [_, _], _ => rfl
theorem in_BadTrip {P : Program} {w : World} {K : PySem.W.Frag} {mg : Str → Option Value} {base : Heap} (T : Txt K mg) : InitP P w K mg base 1 T.xi_BadTrip T.c_BadTrip "at" := T.xc_BadTrip.init T.F_BadTrip rfl sc_i_BadTrip (bd_i_BadTrip T)
theorem bd_i_BadPlan {K : PySem.W.Frag} {mg : Str → Option Value} (T : Txt K mg) : Binds K T.xd_BadPlan ["self", "at"] [] := T.F_BadPlan.binds fun _ _ _ _ _ _ us hl => match us, hl with | [_, _], _ => rfl
theorem in_BadPlan {P : Program} {w : World} {K : PySem.W.Frag} {mg : Str → Option Value} {base : Heap} (T : Txt K mg) : InitP P w K mg base 1 T.xi_BadPlan T.c_BadPlan "at" := T.xc_BadPlan.init T.F_BadPlan rfl sc_i_BadPlan (bd_i_BadPlan T)
theorem bd_i_Taken {K : PySem.W.Frag} {mg : Str → Option Value} (T : Txt K mg) : Binds K T.xd_Taken ["self", "label"] [] := T.F_Taken.binds fun _ _ _ _ _ _ us hl => match us, hl with | [_, _], _ => rfl
theorem in_Taken {P : Program} {w : World} {K : PySem.W.Frag} {mg : Str → Option Value} {base : Heap} (T : Txt K mg) : InitP P w K mg base 1 T.xi_Taken T.c_Taken "label" := T.xc_Taken.init T.F_Taken rfl sc_i_Taken (bd_i_Taken T)
theorem bd_i_NoWay {K : PySem.W.Frag} {mg : Str → Option Value} (T : Txt K mg) : Binds K T.xd_NoWay ["self", "label"] [] := T.F_NoWay.binds fun _ _ _ _ _ _ us hl => match us, hl with | [_, _], _ => rfl
theorem in_NoWay {P : Program} {w : World} {K : PySem.W.Frag} {mg : Str → Option Value} {base : Heap} (T : Txt K mg) : InitP P w K mg base 1 T.xi_NoWay T.c_NoWay "label" := T.xc_NoWay.init T.F_NoWay rfl sc_i_NoWay (bd_i_NoWay T)
theorem bd_i_TooMany {K : PySem.W.Frag} {mg : Str → Option Value} (T : Txt K mg) : Binds K T.xd_TooMany ["self", "most"] [] := T.F_TooMany.binds fun _ _ _ _ _ _ us hl => match us, hl with | [_, _], _ => rfl
theorem in_TooMany {P : Program} {w : World} {K : PySem.W.Frag} {mg : Str → Option Value} {base : Heap} (T : Txt K mg) : InitP P w K mg base 1 T.xi_TooMany T.c_TooMany "most" := T.xc_TooMany.init T.F_TooMany rfl sc_i_TooMany (bd_i_TooMany T)
section
variable {P : Program} {w : World} {K : PySem.W.Frag} {mg : Str → Option Value} {base : Heap}
theorem ok_hand (T : Txt K mg) : FnOk P w K mg base CX0 1 T.a_hand T.d_hand ["_law_script"] (spHand K) := by
  refine T.F_hand.ok sc_hand (fun vs H Q E h => ?_) (fun cdv A outer s H vs Q E hr h => ?_)
  · obtain ⟨a, ns, rfl, _⟩ := h
    rfl
  · obtain ⟨a, ns, rfl, hS, k⟩ := h
    refine ⟨_, (pss_one (ps_ret (pe_lst (pa_cons (pe_callTy call_list_of rfl T.n_list bt_list (pa_cons (pe_slice sl_list (pv 0) po_none (po_some pe_int)) pa_nil se_Subscript) (he := se_Subscript) (hpl := np_nil)) (pa_cons pe_int (pa_cons pe_int (pa_cons pe_int (pa_cons pe_int (pa_cons pe_int pa_nil se_Constant) se_Constant) se_Constant) se_Constant) se_Constant) se_Call)))), ?_⟩
    refine ⟨_, rfl, _, rfl, a, _, rfl, hS, fun p1 h1 => ⟨p1, _, rfl, .inl (SqL.of upd_same), fun l hl => ⟨(by show 6 ≤ sizeLine; decide), fun p hp => ?_⟩⟩⟩
    have n1 : p ≠ p1 := (ne_of_none (H := upd (upd H p1 _) l _) (by rw [upd_ne (ne_of_none upd_same hl)]; exact upd_same) hp).symm
    have n2 : p ≠ l := (ne_of_none (H := upd (upd H p1 _) l _) upd_same hp).symm
    have hp0 : H p = none := by rw [upd_ne n2, upd_ne n1] at hp; exact hp
    have hl0 : H l = none := by
      have nl : l ≠ p1 := (ne_of_none upd_same hl).symm
      rw [upd_ne nl] at hl; exact hl
    refine k p l _ hp0 hl0 ⟨(ns.drop (HT.sIx (ns.map V.int).length 0 none)).take (HT.sIx (ns.map V.int).length (ns.map V.int).length (some 63) - HT.sIx (ns.map V.int).length 0 none), 0, 0, 0, 20011, 40009, ?_, Int.le_refl _, upd_same⟩ (((Same.refl H).lay h1).lay hl |>.lay hp)
    rw [upd_ne n2.symm, upd_same]
    unfold cutV
    rw [List.map_take, List.map_drop]
theorem ok_next (T : Txt K mg) : FnOk P w K mg base CX0 1 T.a_next T.d_next ["_law_hand_here"] spNext := by
  refine T.F_next.ok sc_next (fun vs H Q E h => ?_) (fun cdv A outer s H vs Q E hr h => ?_)
  · obtain ⟨a, l, rfl, _⟩ := h
    rfl
  · obtain ⟨a, l, rfl, ⟨ns, p, b, c, u, v, hl, hp, ha⟩, k⟩ := h
    have ne := ne_hand hl ha
    refine ⟨_, (pss_cons (ps_asg (pe_op op_mod (pe_op op_mul (pe_ix ix_list (pv 0) pe_int (fun _ _ => rfl)) pe_int) pe_int) (pg_sub (pv 0) pe_int set_list))
      (pss_cons (ps_asg (pe_op op_mod (pe_op op_mul (pe_ix ix_list (pv 0) pe_int (fun _ _ => rfl)) pe_int) pe_int) (pg_sub (pv 0) pe_int set_list))
      (pss_one (ps_ret (pe_op op_add (pe_ix ix_list (pv 0) pe_int (fun _ _ => rfl)) (pe_ix ix_list (pv 0) pe_int (fun _ _ => rfl))))))), ?_⟩
    refine ⟨_, rfl, a, _, _, _, rfl, rfl, SqL.of ha, rfl, _, _, rfl, rfl, .inr ⟨by decide, by decide⟩, _, _, rfl, rfl, (by first | decide | (dsimp only; decide)), _, rfl, a, _, _, _, rfl, rfl, ha, rfl, ?_⟩
    refine ⟨_, rfl, a, _, _, _, rfl, rfl, SqL.of upd_same, rfl, _, _, rfl, rfl, .inr ⟨by decide, by decide⟩, _, _, rfl, rfl, (by first | decide | (dsimp only; decide)), _, rfl, a, _, _, _, rfl, rfl, upd_same, rfl, ?_⟩
    refine ⟨_, rfl, a, _, _, _, rfl, rfl, SqL.of upd_same, rfl, _, rfl, a, _, _, _, rfl, rfl, SqL.of upd_same, rfl, _, _, rfl, rfl, ?_⟩
    exact k _ _ ⟨ns, p, b, c, _, _, by rw [upd_ne ne, upd_ne ne]; exact hl, hp, upd_same⟩ fun b o e nb => by rw [upd_ne nb, upd_ne nb]; exact e
theorem ok_take (T : Txt K mg) : FnOk P w K mg base CX0 2 T.a_take T.d_take ["_law_hand_here"] spTake := by
  have G_next : FnOk P w K mg base CX0 1 T.a_next T.d_next ["_law_hand_here"] spNext := ok_next T
  have b_next := bd_next T
  refine T.F_take.ok sc_take (fun vs H Q E h => ?_) (fun cdv A outer s H vs Q E hr h => ?_)
  · obtain ⟨a, l, rfl, _⟩ := h
    rfl
  · obtain ⟨a, l, rfl, ⟨ns, p, b, c, u, v, hl, hp, ha⟩, k⟩ := h
    have ne := ne_hand hl ha
    refine ⟨_, (pss_cons (ps_set (i := 1) sc_take.nd rfl (Or.inl rfl) pe_int)
      (pss_cons (ps_mid (ps_if (pt_cmpR op_lt (pe_ix ix_list (pv 0) pe_int (fun _ _ => rfl)) (pe_callB call_len_seq rfl T.n_len bt_len (pa_cons (pe_ix ix_list (pv 0) pe_int (fun _ _ => rfl)) pa_nil se_Subscript) (he := se_Subscript) (hpl := np_nil)) (nomark _))
      (pss_one (ps_set (i := 1) sc_take.nd rfl (Or.inl rfl) (pe_callB call_abs rfl T.n_abs bt_abs (pa_cons (pe_ix ix_list (pe_ix ix_list (pv 0) pe_int (fun _ _ => rfl)) (pe_ix ix_list (pv 0) pe_int (fun _ _ => rfl)) (fun _ _ => rfl)) pa_nil se_Subscript) (he := se_Subscript) (hpl := np_nil))))
      pss_nil))
      (pss_cons (ps_augS (pv 0) pe_int get_list pe_int ip_add set_list)
      (pss_cons (ps_mid (ps_if (pt_cmpR op_ge (pv 1) (pe_op op_pow pe_int pe_int) (nomark _))
      (pss_one (ps_asg (pv 1) (pg_sub (pv 0) pe_int set_list)))
      (pss_one (ps_asg pe_int (pg_sub (pv 0) pe_int set_list)))))
      (pss_cons (ps_asg (pe_op op_add (pe_op op_mod (pe_op op_add (pe_ix ix_list (pv 0) pe_int (fun _ _ => rfl)) (pe_op op_mod (pv 1) pe_int)) pe_int) pe_int) (pg_sub (pv 0) pe_int set_list))
      (pss_cons (ps_asg (pe_op op_add (pe_op op_mod (pe_op op_add (pe_op op_mul (pe_ix ix_list (pv 0) pe_int (fun _ _ => rfl)) pe_int) (pe_op op_mod (pv 1) pe_int)) pe_int) pe_int) (pg_sub (pv 0) pe_int set_list))
      (pss_cons (ps_expr (pe_call G_next (hr.mono (by decide)) rfl T.mg_next T.kp_next b_next .nil pass0 (pa_cons (pv 0) pa_nil se_Name) (he := se_Name) (hpl := np_nil)))
      (pss_one (ps_expr (pe_call G_next (hr.mono (by decide)) rfl T.mg_next T.kp_next b_next .nil pass0 (pa_cons (pv 0) pa_nil se_Name) (he := se_Name) (hpl := np_nil))))))))))), ?_⟩
    refine ⟨fun σ H1 => H = H1 ∧ ∃ z : Int, σ = [some (.ref a), some (.int z)], ?_, ?_⟩
    · refine ⟨_, rfl, a, _, _, _, rfl, rfl, SqL.of ha, rfl, _, rfl, a, _, _, _, rfl, rfl, SqL.of ha, rfl, l, _, rfl, .inl (SqL.of hl), _, _, rfl, rfl, _, rfl, ?_⟩
      refine ite2 (fun hlt => ?_) (fun _ => ⟨rfl, _, rfl⟩)
      have hlt' : p < (ns.length : Int) := by simpa using hlt
      obtain ⟨z, hz⟩ := atI_ints hp hlt'
      exact ⟨_, rfl, a, _, _, _, rfl, rfl, SqL.of ha, rfl, _, rfl, a, _, _, _, rfl, rfl, SqL.of ha, rfl, l, _, _, _, rfl, rfl, SqL.of hl, hz, _, rfl, rfl, _, rfl⟩
    · rintro σ H1 ⟨rfl, z, rfl⟩
      refine ⟨_, rfl, a, _, _, _, rfl, rfl, (by first | decide | (dsimp only; decide)), SqL.of ha, rfl, _, _, rfl, rfl, a, _, _, _, rfl, rfl, ha, rfl, ?_⟩
      refine ⟨fun σ H1 => σ = [some (.ref a), some (.int z)] ∧ Hd H1 a l ∧ Kp a H H1, ?_, ?_⟩
      · refine ⟨_, rfl, _, _, rfl, rfl, ⟨by decide, by decide, by decide⟩, _, _, rfl, rfl, _, rfl, ?_⟩
        refine ite2 (fun _ => ?_) (fun _ => ?_)
        · refine ⟨_, rfl, _, rfl, a, _, _, _, rfl, rfl, upd_same, rfl, rfl, ⟨ns, p + 1, _, _, _, _, by rw [upd_ne ne, upd_ne ne]; exact hl, by omega, upd_same⟩, fun b o e nb => by rw [upd_ne nb, upd_ne nb]; exact e⟩
        · refine ⟨_, rfl, a, _, _, _, rfl, rfl, upd_same, rfl, rfl, ⟨ns, p + 1, _, _, _, _, by rw [upd_ne ne, upd_ne ne]; exact hl, by omega, upd_same⟩, fun b o e nb => by rw [upd_ne nb, upd_ne nb]; exact e⟩
      · rintro σ H1 ⟨rfl, ⟨ns, p, b, c, u, v, hl, hp, ha⟩, k1⟩
        have ne := ne_hand hl ha
        refine ⟨_, rfl, a, _, _, _, rfl, rfl, SqL.of ha, rfl, _, rfl, _, _, rfl, rfl, (by first | decide | (dsimp only; decide)), _, _, rfl, rfl, _, _, rfl, rfl, (by first | decide | (dsimp only; decide)), _, _, rfl, rfl, _, rfl, a, _, _, _, rfl, rfl, ha, rfl, ?_⟩
        refine ⟨_, rfl, a, _, _, _, rfl, rfl, SqL.of upd_same, rfl, _, _, rfl, rfl, .inr ⟨by decide, by decide⟩, _, rfl, _, _, rfl, rfl, (by first | decide | (dsimp only; decide)), _, _, rfl, rfl, _, _, rfl, rfl, (by first | decide | (dsimp only; decide)), _, _, rfl, rfl, _, rfl, a, _, _, _, rfl, rfl, upd_same, rfl, ?_⟩
        refine ⟨_, rfl, a, l, rfl, ⟨ns, p, _, _, _, _, by rw [upd_ne ne, upd_ne ne]; exact hl, hp, upd_same⟩, fun r H2 h2 k2 => ?_⟩
        refine ⟨_, rfl, a, l, rfl, h2, fun r H3 h3 k3 => ?_⟩
        exact k H3 h3 (((k1.trans fun b o e nb => by rw [upd_ne nb, upd_ne nb]; exact e).trans k2).trans k3)
theorem ok_draw (T : Txt K mg) : FnOk P w K mg base CX0 3 T.a_draw T.d_draw ["_law_hand_here", "_law_many"] spDraw := by
  have G_next : FnOk P w K mg base CX0 1 T.a_next T.d_next ["_law_hand_here"] spNext := ok_next T
  have G_take : FnOk P w K mg base CX0 2 T.a_take T.d_take ["_law_hand_here"] spTake := ok_take T
  have b_next := bd_next T
  have b_take := bd_take T
  refine T.F_draw.ok sc_draw (fun vs H Q E h => ?_) (fun cdv A outer s H vs Q E hr h => ?_)
  · obtain ⟨a, l, m, rfl, _⟩ := h
    rfl
  · obtain ⟨a, l, m, rfl, hd, hm0, hm1, k⟩ := h
    refine ⟨_, (pss_cons (ps_mid (ps_if (PW.pt (pw_and (pt_cmpR op_eq (pe_ix ix_list (pv 0) pe_int (fun _ _ => rfl)) pe_int (nomark _)) (pw_and1 (pt_cmpR op_eq (pe_ix ix_list (pv 0) pe_int (fun _ _ => rfl)) pe_int (nomark _)))))
      (pss_one (ps_expr (pe_call G_take (hr.mono (by decide)) rfl T.mg_take T.kp_take b_take .nil pass0 (pa_cons (pv 0) pa_nil se_Name) (he := se_Name) (hpl := np_nil))))
      pss_nil))
      (pss_cons (ps_mid (ps_if (pt_cmpR op_gt (pe_ix ix_list (pv 0) pe_int (fun _ _ => rfl)) pe_int (nomark _))
      (pss_cons (ps_set (i := 2) sc_draw.nd rfl (Or.inl rfl) (pe_op op_mod (pe_ix ix_list (pv 0) pe_int (fun _ _ => rfl)) (pv 1)))
      (pss_cons (ps_asg (pe_op op_fdivB (pe_ix ix_list (pv 0) pe_int (fun _ _ => rfl)) (pv 1)) (pg_sub (pv 0) pe_int set_list))
      (pss_one (ps_ret (pv 2)))))
      pss_nil))
      (pss_cons (ps_augS (pv 0) pe_int get_list pe_int ip_sub set_list)
      (pss_cons (ps_set (i := 3) sc_draw.nd rfl (Or.inl rfl) (pe_call G_next (hr.mono (by decide)) rfl T.mg_next T.kp_next b_next .nil pass0 (pa_cons (pv 0) pa_nil se_Name) (he := se_Name) (hpl := np_nil)))
      (pss_cons (ps_set (i := 4) sc_draw.nd rfl (Or.inl rfl) pe_int)
      (pss_cons (ps_while PassesOwn.never (pt_cmpR op_lt (pv 4) (pv 1) (nomark _))
      (pss_cons (ps_set (i := 3) sc_draw.nd rfl (Or.inl rfl) (pe_op op_add (pe_op op_mul (pv 3) pe_int) (pe_call G_next (hr.mono (by decide)) rfl T.mg_next T.kp_next b_next .nil pass0 (pa_cons (pv 0) pa_nil se_Name) (he := se_Name) (hpl := np_nil))))
      (pss_one (ps_set (i := 4) sc_draw.nd rfl (Or.inl rfl) (pe_op op_mul (pv 4) pe_int)))))
      (pss_one (ps_ret (pe_op op_mod (pv 3) (pv 1)))))))))), ?_⟩
    refine ⟨fun σ H1 => σ = [some (.ref a), some (.int m), none, none, none] ∧ Hd H1 a l ∧ Kp a H H1, ?_, ?_⟩
    · obtain ⟨ns, p, b, c, u, v, hl, hp, ha⟩ := id hd
      refine ⟨_, rfl, a, _, _, _, rfl, rfl, SqL.of ha, rfl, rfl, _, rfl, ?_⟩
      refine ite2 (fun _ => ?_) (fun _ => iteF ⟨rfl, hd, .refl a H⟩)
      refine ⟨_, rfl, a, _, _, _, rfl, rfl, SqL.of ha, rfl, rfl, _, rfl, ?_⟩
      refine ite2 (fun _ => ?_) (fun _ => ⟨rfl, hd, .refl a H⟩)
      exact ⟨_, rfl, a, l, rfl, hd, fun H1 h1 k1 => ⟨rfl, h1, k1⟩⟩
    · rintro σ H1 ⟨rfl, ⟨ns, p, b, c, u, v, hl, hp, ha⟩, k1⟩
      have ne := ne_hand hl ha
      refine ⟨fun σ H2 => H1 = H2 ∧ σ = [some (.ref a), some (.int m), none, none, none], ?_, ?_⟩
      · refine ⟨_, rfl, a, _, _, _, rfl, rfl, SqL.of ha, rfl, _, _, rfl, rfl, _, rfl, ?_⟩
        refine ite2 (fun _ => ?_) (fun _ => ⟨rfl, rfl⟩)
        refine ⟨_, rfl, a, _, _, _, rfl, rfl, SqL.of ha, rfl, _, rfl, _, _, rfl, rfl, hm0, ?_⟩
        refine ⟨_, rfl, a, _, _, _, rfl, rfl, SqL.of ha, rfl, _, rfl, _, _, rfl, rfl, ⟨hm0, hm1⟩, _, rfl, a, _, _, _, rfl, rfl, ha, rfl, ?_⟩
        refine ⟨_, rfl, ?_⟩
        exact k _ _ (Int.emod_nonneg _ (by omega)) (Int.emod_lt_of_pos _ hm0) ⟨ns, p, _, _, _, _, by rw [upd_ne ne]; exact hl, hp, upd_same⟩ (k1.trans fun b o e nb => by rw [upd_ne nb]; exact e)
      · rintro σ H2 ⟨rfl, rfl⟩
        refine ⟨_, rfl, a, _, _, _, rfl, rfl, (by first | decide | (dsimp only; decide)), SqL.of ha, rfl, _, _, rfl, rfl, a, _, _, _, rfl, rfl, ha, rfl, ?_⟩
        refine ⟨_, rfl, a, l, rfl, ⟨ns, p, _, _, _, _, by rw [upd_ne ne]; exact hl, hp, upd_same⟩, fun r H3 h3 k3 => ?_⟩
        have k3' : Kp a H H3 := (k1.trans fun b o e nb => by rw [upd_ne nb]; exact e).trans k3
        refine while_by (fun σ H4 => ∃ (val sz : Int), σ = [some (.ref a), some (.int m), none, some (.int val), some (.int sz)] ∧ Hd H4 a l ∧ Kp a H H4 ∧ 0 < sz)
          (fun σ _ => match σ with | [_, _, _, _, some (.int sz)] => (m - sz).toNat | _ => 0) ⟨r, 4294967296, rfl, h3, k3', by decide⟩ ?_ (fun σ H Q Q' f ⟨v, e1, u, e2, i, j, e3, e4, c, e5, q⟩ => ⟨v, e1, u, e2, i, j, e3, e4, c, e5, f _ _ q⟩)
        rintro σ H4 ⟨val, sz, rfl, h4, k4, hsz⟩
        refine ⟨_, rfl, _, rfl, _, _, rfl, rfl, _, rfl, ?_⟩
        refine ite2 (fun hlt => ?_) (fun _ => ?_)
        · have hlt' : sz < m := by simpa using hlt
          refine ⟨_, rfl, _, _, rfl, rfl, .inr ⟨by decide, by decide⟩, _, rfl, a, l, rfl, h4, fun r H5 h5 k5 => ⟨_, _, rfl, rfl, ?_⟩⟩
          refine ⟨_, rfl, _, _, rfl, rfl, .inr ⟨by decide, by decide⟩, ?_⟩
          refine ⟨⟨_, sz * 4294967296, rfl, h5, k4.trans k5, by omega⟩, ?_⟩
          show (m - sz * 4294967296).toNat < (m - sz).toNat
          omega
        · refine ⟨_, rfl, _, rfl, _, _, rfl, rfl, hm0, ?_⟩
          exact k _ _ (Int.emod_nonneg _ (by omega)) (Int.emod_lt_of_pos _ hm0) h4 k4
end
local macro_rules | `(tactic| decreasing_tactic) => `(tactic| try dsimp only [dSeq, dSeqG, dSet, dOwn, dOp, dVar, dIfS, dT, dRet, dDrop, dCb, dCons, dNil, dC, dF, dLst, dTup, dNeg, dNot, dAnd, dOr, dAndV, dOrV, dNotV, dBV, dIf, dChain, dIx, dIxV, dLenV, dListV, dList, dSlV, dSl, dCat, dRep, dIsiV, dIsi, dCall, aNil, aV, aS, arsD, arD, isSl, slotD, bnd_some, ixD, lenD, listD, itemsD, gI, gI0, gAdd, gMns, gMul, gMod, gDiv, gPow, gLt, gLe, gGt, gGe, gEq, gIsN, isN, gLen, gMin, gMax, gI2, gAbs, gInt, gAll, gAny, dNext, dLrev, dApp, dSetI, dAsg, gN, gT2, gT3, gT5, gInS, strsD, gMaxP, dPopI, dLrng, dZip, dCompT2, dComp, dCompT3, dIndexV, gIn, gB2, oN, oS, startN, slOf, a1_0, a2_0, a2_1, a3_0, a3_1, a3_2, isiD, tyD, List.tail_cons, List.tail_nil, List.getElem?_cons_zero, List.getElem?_cons_succ, List.set_cons_zero, List.set_cons_succ, List.length_cons, List.length_nil, Option.bind_some, Option.map_some, List.cons_append, List.nil_append, iteTT, iteFF, iteTB, iteFB, iteTI, iteFI, Bool.not_true, Bool.not_false, dTry, dCallX, dRz, xkD])
local macro_rules | `(tactic| array_get_dec) => `(tactic| try dsimp only [dFor, dIl, dIv, dIt, dRng1, dRng2, dEnum, dIrev, dSeq, dSeqG, dSet, dOwn, dOp, dVar, dIfS, dT, dRet, dDrop, dCb, dCons, dNil, dC, dF, dLst, dTup, dNeg, dNot, dAnd, dOr, dAndV, dOrV, dNotV, dBV, dIf, dChain, dIx, dIxV, dLenV, dListV, dList, dSlV, dSl, dCat, dRep, dIsiV, dIsi, dCall, aNil, aV, aS, arsD, arD, isSl, slotD, bnd_some, ixD, lenD, listD, itemsD, gI, gI0, gAdd, gMns, gMul, gMod, gDiv, gPow, gLt, gLe, gGt, gGe, gEq, gIsN, isN, gLen, gMin, gMax, gI2, gAbs, gInt, gAll, gAny, dNext, dLrev, dApp, dSetI, dAsg, gN, gT2, gT3, gT5, gInS, strsD, gMaxP, dPopI, dLrng, dZip, dCompT2, dComp, dCompT3, dIndexV, gIn, gB2, oN, oS, startN, slOf, a1_0, a2_0, a2_1, a3_0, a3_1, a3_2, isiD, tyD, List.tail_cons, List.tail_nil, List.getElem?_cons_zero, List.getElem?_cons_succ, List.set_cons_zero, List.set_cons_succ, List.length_cons, List.length_nil, Option.bind_some, Option.map_some, List.cons_append, List.nil_append, iteTT, iteFF, iteTB, iteFB, iteTI, iteFI, Bool.not_true, Bool.not_false, dTry, dCallX, dRz, xkD])
local macro_rules | `(tactic| sizeOf_list_dec) => `(tactic| try dsimp only [Blk, dSeq, dSeqG, dSet, dOwn, dOp, dVar, dIfS, dT, dRet, dDrop, dCb, dCons, dNil, dC, dF, dLst, dTup, dNeg, dNot, dAnd, dOr, dAndV, dOrV, dNotV, dBV, dIf, dChain, dIx, dIxV, dLenV, dListV, dList, dSlV, dSl, dCat, dRep, dIsiV, dIsi, dCall, aNil, aV, aS, arsD, arD, isSl, slotD, bnd_some, ixD, lenD, listD, itemsD, gI, gI0, gAdd, gMns, gMul, gMod, gDiv, gPow, gLt, gLe, gGt, gGe, gEq, gIsN, isN, gLen, gMin, gMax, gI2, gAbs, gInt, gAll, gAny, dNext, dLrev, dApp, dSetI, dAsg, gN, gT2, gT3, gT5, gInS, strsD, gMaxP, dPopI, dLrng, dZip, dCompT2, dComp, dCompT3, dIndexV, gIn, gB2, oN, oS, startN, slOf, a1_0, a2_0, a2_1, a3_0, a3_1, a3_2, isiD, tyD, List.tail_cons, List.tail_nil, List.getElem?_cons_zero, List.getElem?_cons_succ, List.set_cons_zero, List.set_cons_succ, List.length_cons, List.length_nil, Option.bind_some, Option.map_some, List.cons_append, List.nil_append, iteTT, iteFF, iteTB, iteFB, iteTI, iteFI, Bool.not_true, Bool.not_false, dTry, dCallX, dRz, xkD])
theorem units_of {k : Nat} {A : Around} (hr : Room k A) : A.units + 64 < cLine := hr.units
def spDrawD : DSp := fun ds Q => ∃ m : Int, ds = [.none, .int m] ∧ 0 < m ∧ m < 100000000000000000000000000000000000000000000000000000000000000 ∧ ∀ r : Int, 0 ≤ r → r < m → Q (.int r)
theorem hd_args {F : Addr → Prop} {hand : Option (Addr × Addr)} {H : Hp} {vs : List V} {ds : List PyData} {ms : List Md} (a : ArgsR F hand H (.hd :: ms) vs ds) : ∃ q vs' d ds', hand = some q ∧ vs = .ref q.1 :: vs' ∧ ds = d :: ds' ∧ ArgsR F hand H ms vs' ds' := by
  cases a with
  | cons x t =>
    obtain ⟨q, e, rfl⟩ := x
    exact ⟨q, _, _, _, e, rfl, rfl, t⟩
section
variable {P : Program} {w : World} {K : PySem.W.Frag} {mg : Str → Option Value} {base : Heap}
theorem ok_drawD (T : Txt K mg) : FnOk P w K mg base CX0 3 T.a_draw T.d_draw ["_law_hand_here", "_law_many"] (spD [.hd, .sh] spDrawD) := (ok_draw T).imp fun vs H Q E h => by
  obtain ⟨F, hand, ds, Qd, h1, h2, h3, a, ⟨m, rfl, m0, m1, hr⟩, h5⟩ := h
  obtain ⟨q, vs', d, ds', e, rfl, e2, a⟩ := hd_args a
  cases e2
  subst e
  cases a with
  | cons x t =>
    cases t
    cases (show ThV F H _ (.int m) from x)
    exact ⟨q.1, q.2, m, rfl, h3 q rfl, m0, m1, fun r H' r0 r1 hd kp => h5 _ _ _ (hr r r0 r1) (.int r) (fun b o eb n => kp b o eb (n q rfl)) fun q' e' => by cases e'; exact hd⟩
end
def oD : Option Int → PyData
  | none => .none
  | some i => .int i
def tabL (t : List (Option Int)) : List PyData := t.map oD
def wayD (w : Wy) : PyData := .tuple [.int ((w.1 : Nat) : Int), .int ((w.2.1 : Nat) : Int), .int w.2.2]
def landD (m : Nat) (ws : List Wy) : PyData := .tuple [.int ((m : Nat) : Int), .list (ws.map wayD)]
def onD : Option Nat → PyData := fun _ => .none
def effD : Option Nat → PyData := fun _ => .none
def rowD : Option Nat → PyData := fun _ => .none
def partD : Option Nat → PyData := fun _ => .none
theorem len_tab {t : List (Option Int)} : (tabL t).length = t.length := by unfold tabL; rw [List.length_map]
theorem tab_at {t : List (Option Int)} {p : Nat} (h : p < t.length) : atI (tabL t) ((p : Nat) : Int) = some (oD (gt t p)) := atI_nat (by unfold tabL; rw [List.getElem?_map, gt_at h]; rfl)
theorem ixN_nat {n j : Nat} (h : j < n) : ixN n ((j : Nat) : Int) = some j := by
  unfold ixN
  rw [if_pos (by omega), if_pos (by omega)]; rfl
theorem rngD0 (n : Nat) : rngD 0 n = (List.range n).map fun k => PyData.int ((k : Nat) : Int) := by
  unfold rngD
  exact List.map_congr_left fun k _ => by rw [Int.zero_add]
theorem min0 (i j : Int) : min (PyData.depth (.int i)) (PyData.depth (.int j)) ≤ 64 := by show min 0 0 ≤ 64; decide
theorem eqv_int (i j : Int) : PyData.eqv (.int i) (.int j) = (i == j) := by rw [PyData.eqv]
def sptD (s : Spt) : PyData := .tuple [.int ((s.1 : Nat) : Int), .int ((s.2 : Nat) : Int)]
def mvD (x : PyData × Mv) : PyData := .tuple [x.1, sptD x.2.1, sptD x.2.2.1, .int x.2.2.2]
def rowsC (t : Ct) : List (List PyData) := t.map tabL
local macro_rules | `(tactic| decreasing_trivial) => `(tactic| try dsimp only [dSeq, dSeqG, dSet, dOwn, dOp, dVar, dIfS, dT, dRet, dDrop, dCb, dCons, dNil, dC, dF, dLst, dTup, dNeg, dNot, dAnd, dOr, dAndV, dOrV, dNotV, dBV, dIf, dChain, dIx, dIxV, dLenV, dListV, dList, dSlV, dSl, dCat, dRep, dIsiV, dIsi, dCall, aNil, aV, aS, arsD, arD, isSl, slotD, bnd_some, ixD, lenD, listD, itemsD, gI, gI0, gAdd, gMns, gMul, gMod, gDiv, gPow, gLt, gLe, gGt, gGe, gEq, gIsN, isN, gLen, gMin, gMax, gI2, gAbs, gInt, gAll, gAny, dNext, dLrev, dApp, dSetI, dAsg, gN, gT2, gT3, gT5, gInS, strsD, gMaxP, dPopI, dLrng, dZip, dCompT2, dComp, dCompT3, dIndexV, gIn, gB2, oN, oS, startN, slOf, a1_0, a2_0, a2_1, a3_0, a3_1, a3_2, isiD, tyD, List.tail_cons, List.tail_nil, List.getElem?_cons_zero, List.getElem?_cons_succ, List.set_cons_zero, List.set_cons_succ, List.length_cons, List.length_nil, Option.bind_some, Option.map_some, List.cons_append, List.nil_append, iteTT, iteFF, iteTB, iteFB, iteTI, iteFI, Bool.not_true, Bool.not_false, dTry, dCallX, dRz, xkD, oD, onD, effD, rowD, landD, wayD, partD, sptD, mvD])
local macro_rules | `(tactic| array_mem_dec) => `(tactic| try dsimp only [dFor, dIl, dIv, dIt, dRng1, dRng2, dEnum, dIrev, dSeq, dSeqG, dSet, dOwn, dOp, dVar, dIfS, dT, dRet, dDrop, dCb, dCons, dNil, dC, dF, dLst, dTup, dNeg, dNot, dAnd, dOr, dAndV, dOrV, dNotV, dBV, dIf, dChain, dIx, dIxV, dLenV, dListV, dList, dSlV, dSl, dCat, dRep, dIsiV, dIsi, dCall, aNil, aV, aS, arsD, arD, isSl, slotD, bnd_some, ixD, lenD, listD, itemsD, gI, gI0, gAdd, gMns, gMul, gMod, gDiv, gPow, gLt, gLe, gGt, gGe, gEq, gIsN, isN, gLen, gMin, gMax, gI2, gAbs, gInt, gAll, gAny, dNext, dLrev, dApp, dSetI, dAsg, gN, gT2, gT3, gT5, gInS, strsD, gMaxP, dPopI, dLrng, dZip, dCompT2, dComp, dCompT3, dIndexV, gIn, gB2, oN, oS, startN, slOf, a1_0, a2_0, a2_1, a3_0, a3_1, a3_2, isiD, tyD, List.tail_cons, List.tail_nil, List.getElem?_cons_zero, List.getElem?_cons_succ, List.set_cons_zero, List.set_cons_succ, List.length_cons, List.length_nil, Option.bind_some, Option.map_some, List.cons_append, List.nil_append, iteTT, iteFF, iteTB, iteFB, iteTI, iteFI, Bool.not_true, Bool.not_false, dTry, dCallX, dRz, xkD, oD, onD, effD, rowD, landD, wayD, partD, sptD, mvD])
local macro_rules | `(tactic| decreasing_trivial_pre_omega) => `(tactic| try dsimp only [Blk, dSeq, dSeqG, dSet, dOwn, dOp, dVar, dIfS, dT, dRet, dDrop, dCb, dCons, dNil, dC, dF, dLst, dTup, dNeg, dNot, dAnd, dOr, dAndV, dOrV, dNotV, dBV, dIf, dChain, dIx, dIxV, dLenV, dListV, dList, dSlV, dSl, dCat, dRep, dIsiV, dIsi, dCall, aNil, aV, aS, arsD, arD, isSl, slotD, bnd_some, ixD, lenD, listD, itemsD, gI, gI0, gAdd, gMns, gMul, gMod, gDiv, gPow, gLt, gLe, gGt, gGe, gEq, gIsN, isN, gLen, gMin, gMax, gI2, gAbs, gInt, gAll, gAny, dNext, dLrev, dApp, dSetI, dAsg, gN, gT2, gT3, gT5, gInS, strsD, gMaxP, dPopI, dLrng, dZip, dCompT2, dComp, dCompT3, dIndexV, gIn, gB2, oN, oS, startN, slOf, a1_0, a2_0, a2_1, a3_0, a3_1, a3_2, isiD, tyD, List.tail_cons, List.tail_nil, List.getElem?_cons_zero, List.getElem?_cons_succ, List.set_cons_zero, List.set_cons_succ, List.length_cons, List.length_nil, Option.bind_some, Option.map_some, List.cons_append, List.nil_append, iteTT, iteFF, iteTB, iteFB, iteTI, iteFI, Bool.not_true, Bool.not_false, dTry, dCallX, dRz, xkD, oD, onD, effD, rowD, landD, wayD, partD, sptD, mvD])
def spStepD : DSp := fun ds Q => ∃ st lv ch : Int, ds = [.int st, .int lv, .int ch] ∧ Q (oD (stepF st lv ch))
def spWiD : DSp := fun ds Q => ∃ a b : Option Int, ds = [oD a, oD b] ∧ Q (.bool (wiF a b))
def spCostAtD : DSp := fun ds Q => ∃ (m n : Nat) (t : Ct) (s : Spt), ds = [.list (lls (rowsC t)), sptD s] ∧ CtOk m n t ∧ s.1 < m ∧ s.2 < n ∧ Q (oD (ca t s))
def spCostByD : DSp := fun ds Q => ∃ (m n : Nat) (t : Ct) (v : PyData × Mv), ds = [.list (lls (rowsC t)), mvD v] ∧ CtOk m n t ∧ v.2.2.1.1 < m ∧ v.2.2.1.2 < n ∧ Q (oD (addO (ca t v.2.2.1) v.2.2.2))
theorem rows_at {m n : Nat} {t : Ct} {p : Nat} (h : CtOk m n t) (hp : p < m) : atI (rowsC t) ((p : Nat) : Int) = some (tabL (t.getD p [])) := atI_nat (by
  have hl : p < t.length := by rw [h.len]; exact hp
  unfold rowsC
  rw [List.getElem?_map, List.getElem?_eq_getElem hl, List.getD_eq_getElem?_getD, List.getElem?_eq_getElem hl]; rfl)
theorem row_len {m n : Nat} {t : Ct} {p : Nat} (h : CtOk m n t) (hp : p < m) : (t.getD p []).length = n := by
  have hl : p < t.length := by rw [h.len]; exact hp
  rw [List.getD_eq_getElem?_getD, List.getElem?_eq_getElem hl]
  exact h.row _ (List.getElem_mem hl)
theorem rowsD_lls (dss : List (List PyData)) : rowsD (.list (lls dss)) = some dss := rowsL_lls dss
section
variable {P : Program} {w : World} {K : PySem.W.Frag} {mg : Str → Option Value} {base : Heap}
end
theorem layAll_ways : ∀ ws : List Wy, PyData.canLayAll0 (ws.map wayD) = true
  | [] => rfl
  | w :: ws => by
    show (PyData.canLay0 (wayD w) && PyData.canLayAll0 (ws.map wayD)) = true
    rw [layAll_ways ws]; rfl
theorem depAll_ways : ∀ ws : List Wy, PyData.depthAll (ws.map wayD) ≤ 1
  | [] => Nat.zero_le _
  | w :: ws => by
    show max (PyData.depth (wayD w)) (PyData.depthAll (ws.map wayD)) ≤ 1
    have := depAll_ways ws
    have h : PyData.depth (wayD w) = 1 := rfl
    omega
theorem landD_lay (m : Nat) (ws : List Wy) : (landD m ws).canLay0 = true := by
  show (PyData.canLay0 (.int m) && (PyData.canLayAll0 (ws.map wayD) && true)) = true
  rw [layAll_ways]; rfl
theorem landD_dep (m : Nat) (ws : List Wy) (d : PyData) : min (landD m ws).depth d.depth ≤ 64 := by
  have : (landD m ws).depth ≤ 64 := by
    show max (PyData.depth (.int m)) (max (PyData.depthAll (ws.map wayD) + 1) 0) + 1 ≤ 64
    have := depAll_ways ws
    have h : PyData.depth (.int m) = 0 := rfl
    omega
  omega
theorem rng_cons' {lo : Int} {N k : Nat} {x : PyData} {r : List PyData} (h : x :: r = (rngD lo N).drop k) : x = .int (lo + ((k : Nat) : Int)) ∧ r = (rngD lo N).drop (k + 1) ∧ k < N := by
  have hk : k < (rngD lo N).length := by
    rcases Nat.lt_or_ge k (rngD lo N).length with c | c
    · exact c
    · rw [List.drop_of_length_le c] at h; cases h
  rw [List.drop_eq_getElem_cons hk] at h
  injection h with h1 h2
  obtain ⟨hk', e⟩ := rngD_get (List.getElem?_eq_getElem hk)
  exact ⟨by rw [h1, e], h2, hk'⟩
theorem rng_nil' {lo : Int} {N k : Nat} (h : [] = (rngD lo N).drop k) : N ≤ k := by
  have := congrArg List.length h
  unfold rngD at this
  simp at this
  omega
theorem rng0 (n : Nat) : rngD 0 n = (List.range n).map fun k => PyData.int ((k : Nat) : Int) := by
  unfold rngD
  congr 1
  funext i
  rw [Int.zero_add]
def LayN (n : Nat) (d : PyData) : Prop := d.canLay0 = true ∧ d.depth ≤ n
theorem LayN.all {n : Nat} : ∀ {ds : List PyData}, (∀ d ∈ ds, LayN n d) → PyData.canLayAll0 ds = true ∧ PyData.depthAll ds ≤ n
  | [], _ => ⟨rfl, Nat.zero_le _⟩
  | d :: ds, h => by
    obtain ⟨a, b⟩ := LayN.all fun x hx => h x (List.mem_cons_of_mem _ hx)
    obtain ⟨a1, b1⟩ := h d List.mem_cons_self
    constructor
    · show (PyData.canLay0 d && PyData.canLayAll0 ds) = true
      rw [a, a1]; rfl
    · show max (PyData.depth d) (PyData.depthAll ds) ≤ n
      omega
theorem LayN.lst {n : Nat} {ds : List PyData} (h : ∀ d ∈ ds, LayN n d) : LayN (n + 1) (.list ds) := by
  obtain ⟨a, b⟩ := LayN.all h
  refine ⟨by rw [PyData.canLay0]; exact a, ?_⟩
  show PyData.depthAll ds + 1 ≤ n + 1
  omega
theorem LayN.tup {n : Nat} {ds : List PyData} (h : ∀ d ∈ ds, LayN n d) : LayN (n + 1) (.tuple ds) := by
  obtain ⟨a, b⟩ := LayN.all h
  refine ⟨by rw [PyData.canLay0]; exact a, ?_⟩
  show PyData.depthAll ds + 1 ≤ n + 1
  omega
theorem LayN.mono {n k : Nat} {d : PyData} (h : LayN n d) (l : n ≤ k) : LayN k d := ⟨h.1, Nat.le_trans h.2 l⟩
theorem LayN.int {n : Nat} (i : Int) : LayN n (.int i) := ⟨rfl, Nat.zero_le _⟩
theorem LayN.str {n : Nat} {i : Str} (h : (PyData.str i).canLay0 = true) : LayN n (.str i) := ⟨h, Nat.zero_le _⟩
theorem LayN.non {n : Nat} : LayN n .none := ⟨rfl, Nat.zero_le _⟩
theorem LayN.bl {n : Nat} (b : Bool) : LayN n (.bool b) := ⟨rfl, Nat.zero_le _⟩
theorem LayN.o {n : Nat} (o : Option Int) : LayN n (oD o) := by cases o <;> exact ⟨rfl, Nat.zero_le _⟩
theorem LayN.tab (t : Tb) : LayN 1 (.list (tabL t)) := LayN.lst fun d hd => by
  unfold tabL at hd
  obtain ⟨o, _, rfl⟩ := List.mem_map.mp hd
  exact .o o
theorem LayN.way (w : Wy) : LayN 1 (wayD w) := LayN.tup fun d hd => by
  rcases List.mem_cons.mp hd with rfl | hd
  · exact .int _
  rcases List.mem_cons.mp hd with rfl | hd
  · exact .int _
  rw [List.mem_singleton.mp hd]; exact .int _
theorem LayN.land (m : Nat) (ws : List Wy) : LayN 3 (landD m ws) := LayN.tup fun d hd => by
  rcases List.mem_cons.mp hd with rfl | hd
  · exact .int _
  rw [List.mem_singleton.mp hd]
  exact LayN.lst fun d hd => by
    obtain ⟨w, _, rfl⟩ := List.mem_map.mp hd
    exact .way w
theorem LayN.two {n : Nat} {a b : PyData} (ha : LayN n a) (hb : LayN n b) : ∀ d ∈ [a, b], LayN n d := fun d hd => by
  rcases List.mem_cons.mp hd with rfl | hd
  · exact ha
  rw [List.mem_singleton.mp hd]; exact hb
theorem LayN.three {n : Nat} {a b c : PyData} (ha : LayN n a) (hb : LayN n b) (hc : LayN n c) : ∀ d ∈ [a, b, c], LayN n d := fun d hd => by
  rcases List.mem_cons.mp hd with rfl | hd
  · exact ha
  exact LayN.two hb hc d hd
theorem LayN.dep {n : Nat} {a : PyData} (h : LayN n a) (l : n ≤ 64) (b : PyData) : min a.depth b.depth ≤ 64 := by have := h.2; omega
theorem LayN.same {n : Nat} {a : PyData} (h : LayN n a) : PyData.eqv a a = true := PySem.SeqAt.eqv_refl _ h.1
theorem LayN.eq {n : Nat} {a : PyData} (h : LayN n a) (l : n ≤ 64) {Q : Bool → Prop} (q : Q true) : a.canLay0 = true ∧ a.canLay0 = true ∧ min a.depth a.depth ≤ 64 ∧ Q (PyData.eqv a a) := ⟨h.1, h.1, h.dep l a, by rw [h.same]; exact q⟩
theorem mid_of {t u : DS} {D : DEnds} {ρ : List Sl} (M : List Sl → Prop) (h1 : t { D with nx := M } ρ) (h2 : ∀ ρ', M ρ' → Go (u D) ρ') : dSeqG (dMid t) u D ρ := ⟨M, h1, h2⟩
def ForW (g : DG) (tb : DS) (D : DEnds) (xs : List PyData) (ρ1 : List Sl) : Prop := ∃ I : List PyData → List Sl → Prop, I xs ρ1 ∧ (∀ x r ρ, I (x :: r) ρ → g x ρ (Blk tb { nx := I r, ct := I r, bk := D.nx, rt := D.rt })) ∧ ∀ ρ, I [] ρ → D.nx ρ
theorem for_of {it : DF} {g : DG} {tb : DS} {D : DEnds} {ρ : List Sl} (h : it ρ fun xs ρ1 => ForW g tb D xs ρ1) : dFor it g tb D ρ := h
theorem forW {g : DG} {tb : DS} {D : DEnds} {xs : List PyData} {ρ1 : List Sl} (I : List PyData → List Sl → Prop) (h0 : I xs ρ1) (h1 : ∀ x r ρ, I (x :: r) ρ → g x ρ (Blk tb { nx := I r, ct := I r, bk := D.nx, rt := D.rt })) (h2 : ∀ ρ, I [] ρ → D.nx ρ) : ForW g tb D xs ρ1 := ⟨I, h0, h1, h2⟩
theorem bnd_at {α : Type} {o : Option α} {d : α} {f : α → Prop} (h : o = some d) (q : f d) : bnd o f := by rw [h]; exact q
def clsN {K : PySem.W.Frag} {mg : Str → Option Value} (T : Txt K mg) : List (Addr × Option Str) := [(T.c_BadLand, some "at"), (T.c_BadTrip, some "at"), (T.c_BadPlan, some "at"), (T.c_Taken, some "label"), (T.c_NoWay, some "label"), (T.c_TooMany, some "most"), (T.c_BadLabel, none), (T.c_BadWay, none), (T.c_BadStore, none), (T.c_BadGoal, none), (T.c_NoRow, none), (T.c_NoText, none), (T.c_NoLand, none)]
def Lies (k : Int) (H : Hp) (x : Addr × Option Str) (E : XK) : Prop := match x.2 with
  | some f => ∀ dx, H dx = none → E (.ref x.1) (some dx) (upd H dx (.xd [(f, .int k)]))
  | none => E (.ref x.1) none H
def spRaise {K : PySem.W.Frag} {mg : Str → Option Value} (T : Txt K mg) : Sp := fun vs H Q E => ∃ (d : Nat) (k : Int) (x : Addr × Option Str), vs = [.int ((d : Nat) : Int), .int k] ∧ (clsN T)[d]? = some x ∧ Lies k H x E
section
variable {σ : St} {H : Hp} {D : Ends} {t r : TS} {x c : Int}
theorem seqNo (h : σ[0]? = some (some (.int x))) (n : x ≠ c) (q : r D σ H) : tSeq (tIfS (tTest (tOp rEq (tVar 0) (tC (.int c)))) t tNext) r D σ H := by
  refine ⟨_, h, rfl, _, rfl, ?_⟩
  show if decide (V.int x = V.int c) = true then _ else _
  rw [dec_int, beq_eq_false_iff_ne.mpr n]
  exact iteNo q
theorem seqYes (h : σ[0]? = some (some (.int x))) (n : x = c) (q : t { D with nx := r D } σ H) : tSeq (tIfS (tTest (tOp rEq (tVar 0) (tC (.int c)))) t tNext) r D σ H := by
  refine ⟨_, h, rfl, _, rfl, ?_⟩
  show if decide (V.int x = V.int c) = true then _ else _
  rw [dec_int, n, beq_self_eq_true]
  exact iteT q
end
section
variable {P : Program} {w : World} {K : PySem.W.Frag} {mg : Str → Option Value} {base : Heap}
theorem okX_raise (T : Txt K mg) : FnOk P w K mg base (CXe P w) 3 T.a_raise T.d_raise ["_law_door", "_law_thing"] (spRaise T) := by
  refine T.F_raise.okX sc_raise (fun vs H Q E h => ?_) fun cdv A outer s H vs Q E hr h => ⟨_, (pss_cons (ps_if (pt_cmpR op_eq (pv 0) pe_int (nomark _))
      (pss_one (ps_raise rzs_of rfl rfl (k := 1) (hr.mono (by decide)) rfl T.mg_BadLand T.xc_BadLand.kp T.xc_BadLand.xc (in_BadLand T) T.xc_BadLand.fi T.xc_BadLand.fn (pa_cons (pv 1) pa_nil se_Name)))
      pss_nil)
      (pss_cons (ps_if (pt_cmpR op_eq (pv 0) pe_int (nomark _))
      (pss_one (ps_raise rzs_of rfl rfl (k := 1) (hr.mono (by decide)) rfl T.mg_BadTrip T.xc_BadTrip.kp T.xc_BadTrip.xc (in_BadTrip T) T.xc_BadTrip.fi T.xc_BadTrip.fn (pa_cons (pv 1) pa_nil se_Name)))
      pss_nil)
      (pss_cons (ps_if (pt_cmpR op_eq (pv 0) pe_int (nomark _))
      (pss_one (ps_raise rzs_of rfl rfl (k := 1) (hr.mono (by decide)) rfl T.mg_BadPlan T.xc_BadPlan.kp T.xc_BadPlan.xc (in_BadPlan T) T.xc_BadPlan.fi T.xc_BadPlan.fn (pa_cons (pv 1) pa_nil se_Name)))
      pss_nil)
      (pss_cons (ps_if (pt_cmpR op_eq (pv 0) pe_int (nomark _))
      (pss_one (ps_raise rzs_of rfl rfl (k := 1) (hr.mono (by decide)) rfl T.mg_Taken T.xc_Taken.kp T.xc_Taken.xc (in_Taken T) T.xc_Taken.fi T.xc_Taken.fn (pa_cons (pv 1) pa_nil se_Name)))
      pss_nil)
      (pss_cons (ps_if (pt_cmpR op_eq (pv 0) pe_int (nomark _))
      (pss_one (ps_raise rzs_of rfl rfl (k := 1) (hr.mono (by decide)) rfl T.mg_NoWay T.xc_NoWay.kp T.xc_NoWay.xc (in_NoWay T) T.xc_NoWay.fi T.xc_NoWay.fn (pa_cons (pv 1) pa_nil se_Name)))
      pss_nil)
      (pss_cons (ps_if (pt_cmpR op_eq (pv 0) pe_int (nomark _))
      (pss_one (ps_raise rzs_of rfl rfl (k := 1) (hr.mono (by decide)) rfl T.mg_TooMany T.xc_TooMany.kp T.xc_TooMany.xc (in_TooMany T) T.xc_TooMany.fi T.xc_TooMany.fn (pa_cons (pv 1) pa_nil se_Name)))
      pss_nil)
      (pss_cons (ps_if (pt_cmpR op_eq (pv 0) pe_int (nomark _))
      (pss_one (ps_raise0 rzs_of rfl rfl rfl T.mg_BadLabel T.xc_BadLabel.kp T.xc_BadLabel.xc (pa_cons pe_str pa_nil se_Constant)))
      pss_nil)
      (pss_cons (ps_if (pt_cmpR op_eq (pv 0) pe_int (nomark _))
      (pss_one (ps_raise0 rzs_of rfl rfl rfl T.mg_BadWay T.xc_BadWay.kp T.xc_BadWay.xc (pa_cons pe_str pa_nil se_Constant)))
      pss_nil)
      (pss_cons (ps_if (pt_cmpR op_eq (pv 0) pe_int (nomark _))
      (pss_one (ps_raise0 rzs_of rfl rfl rfl T.mg_BadStore T.xc_BadStore.kp T.xc_BadStore.xc (pa_cons pe_str pa_nil se_Constant)))
      pss_nil)
      (pss_cons (ps_if (pt_cmpR op_eq (pv 0) pe_int (nomark _))
      (pss_one (ps_raise0 rzs_of rfl rfl rfl T.mg_BadGoal T.xc_BadGoal.kp T.xc_BadGoal.xc (pa_cons pe_str pa_nil se_Constant)))
      pss_nil)
      (pss_cons (ps_if (pt_cmpR op_eq (pv 0) pe_int (nomark _))
      (pss_one (ps_raise0 rzs_of rfl rfl rfl T.mg_NoRow T.xc_NoRow.kp T.xc_NoRow.xc (pa_cons pe_str pa_nil se_Constant)))
      pss_nil)
      (pss_cons (ps_if (pt_cmpR op_eq (pv 0) pe_int (nomark _))
      (pss_one (ps_raise0 rzs_of rfl rfl rfl T.mg_NoText T.xc_NoText.kp T.xc_NoText.xc (pa_cons pe_str pa_nil se_Constant)))
      pss_nil)
      (pss_one (ps_raise0 rzs_of rfl rfl rfl T.mg_NoLand T.xc_NoLand.kp T.xc_NoLand.xc (pa_cons pe_str pa_nil se_Constant))))))))))))))), ?_⟩
  · obtain ⟨d, k, x, rfl, _⟩ := h
    rfl
  · obtain ⟨d, k, x, rfl, hx, q⟩ := h
    match d, hx with
    | 0, hx => cases hx; exact seqYes rfl rfl ⟨_, rfl, _, rfl, fun dx hd => q dx hd⟩
    | 1, hx => cases hx; exact seqNo rfl (by decide) (seqYes rfl rfl ⟨_, rfl, _, rfl, fun dx hd => q dx hd⟩)
    | 2, hx => cases hx; exact seqNo rfl (by decide) (seqNo rfl (by decide) (seqYes rfl rfl ⟨_, rfl, _, rfl, fun dx hd => q dx hd⟩))
    | 3, hx => cases hx; exact seqNo rfl (by decide) (seqNo rfl (by decide) (seqNo rfl (by decide) (seqYes rfl rfl ⟨_, rfl, _, rfl, fun dx hd => q dx hd⟩)))
    | 4, hx => cases hx; exact seqNo rfl (by decide) (seqNo rfl (by decide) (seqNo rfl (by decide) (seqNo rfl (by decide) (seqYes rfl rfl ⟨_, rfl, _, rfl, fun dx hd => q dx hd⟩))))
    | 5, hx => cases hx; exact seqNo rfl (by decide) (seqNo rfl (by decide) (seqNo rfl (by decide) (seqNo rfl (by decide) (seqNo rfl (by decide) (seqYes rfl rfl ⟨_, rfl, _, rfl, fun dx hd => q dx hd⟩)))))
    | 6, hx => cases hx; exact seqNo rfl (by decide) (seqNo rfl (by decide) (seqNo rfl (by decide) (seqNo rfl (by decide) (seqNo rfl (by decide) (seqNo rfl (by decide) (seqYes rfl rfl ⟨⟨_, rfl⟩, q⟩))))))
    | 7, hx => cases hx; exact seqNo rfl (by decide) (seqNo rfl (by decide) (seqNo rfl (by decide) (seqNo rfl (by decide) (seqNo rfl (by decide) (seqNo rfl (by decide) (seqNo rfl (by decide) (seqYes rfl rfl ⟨⟨_, rfl⟩, q⟩)))))))
    | 8, hx => cases hx; exact seqNo rfl (by decide) (seqNo rfl (by decide) (seqNo rfl (by decide) (seqNo rfl (by decide) (seqNo rfl (by decide) (seqNo rfl (by decide) (seqNo rfl (by decide) (seqNo rfl (by decide) (seqYes rfl rfl ⟨⟨_, rfl⟩, q⟩))))))))
    | 9, hx => cases hx; exact seqNo rfl (by decide) (seqNo rfl (by decide) (seqNo rfl (by decide) (seqNo rfl (by decide) (seqNo rfl (by decide) (seqNo rfl (by decide) (seqNo rfl (by decide) (seqNo rfl (by decide) (seqNo rfl (by decide) (seqYes rfl rfl ⟨⟨_, rfl⟩, q⟩)))))))))
    | 10, hx => cases hx; exact seqNo rfl (by decide) (seqNo rfl (by decide) (seqNo rfl (by decide) (seqNo rfl (by decide) (seqNo rfl (by decide) (seqNo rfl (by decide) (seqNo rfl (by decide) (seqNo rfl (by decide) (seqNo rfl (by decide) (seqNo rfl (by decide) (seqYes rfl rfl ⟨⟨_, rfl⟩, q⟩))))))))))
    | 11, hx => cases hx; exact seqNo rfl (by decide) (seqNo rfl (by decide) (seqNo rfl (by decide) (seqNo rfl (by decide) (seqNo rfl (by decide) (seqNo rfl (by decide) (seqNo rfl (by decide) (seqNo rfl (by decide) (seqNo rfl (by decide) (seqNo rfl (by decide) (seqNo rfl (by decide) (seqYes rfl rfl ⟨⟨_, rfl⟩, q⟩)))))))))))
    | 12, hx => cases hx; exact seqNo rfl (by decide) (seqNo rfl (by decide) (seqNo rfl (by decide) (seqNo rfl (by decide) (seqNo rfl (by decide) (seqNo rfl (by decide) (seqNo rfl (by decide) (seqNo rfl (by decide) (seqNo rfl (by decide) (seqNo rfl (by decide) (seqNo rfl (by decide) (seqNo rfl (by decide) (⟨⟨_, rfl⟩, q⟩))))))))))))
    | n + 13, hx => cases hx
end
section
variable {P : Program} {w : World} {K : PySem.W.Frag} {mg : Str → Option Value} {base : Heap}
def bitsN (d : Nat) : List Bool := (List.range 13).map (· == d)
def fldN (d : Nat) : Option Str := if d < 3 then some "at" else if d < 5 then some "label" else if d = 5 then some "most" else none
section
variable {K : PySem.W.Frag} {σ : St} {H : Hp} {a C : Addr} {dd : Option Addr} {Q : VK}
theorem isx1 {T1 : Addr} {b1 : Bool} (h : Xat K H a C dd) (h3 : σ[0]? = some (some (.ref a))) (k1 : PySem.W.kitOne K (.ref C) (.ref T1) = some b1) (q : ∀ p, H p = none → Q (.ref p) (upd H p (.lst [.bl b1]))) :
    tLst (tCons (tCB (rIsx K) (tCons (tVar 0) (tCons (tC (.ref T1)) tNil))) tNil) σ H Q := h.isx h3 k1 ⟨by show 1 ≤ sizeLine; decide, q⟩
theorem isx4 {T1 T2 T3 T4 : Addr} {b1 b2 b3 b4 : Bool} (h : Xat K H a C dd) (h3 : σ[0]? = some (some (.ref a))) (k1 : PySem.W.kitOne K (.ref C) (.ref T1) = some b1) (k2 : PySem.W.kitOne K (.ref C) (.ref T2) = some b2) (k3 : PySem.W.kitOne K (.ref C) (.ref T3) = some b3) (k4 : PySem.W.kitOne K (.ref C) (.ref T4) = some b4)
    (q : ∀ p, H p = none → Q (.ref p) (upd H p (.lst [.bl b1, .bl b2, .bl b3, .bl b4]))) :
    tLst (tCons (tCB (rIsx K) (tCons (tVar 0) (tCons (tC (.ref T1)) tNil))) (tCons (tCB (rIsx K) (tCons (tVar 0) (tCons (tC (.ref T2)) tNil))) (tCons (tCB (rIsx K) (tCons (tVar 0) (tCons (tC (.ref T3)) tNil))) (tCons (tCB (rIsx K) (tCons (tVar 0) (tCons (tC (.ref T4)) tNil))) tNil)))) σ H Q :=
  h.isx h3 k1 (h.isx h3 k2 (h.isx h3 k3 (h.isx h3 k4 ⟨by show 4 ≤ sizeLine; decide, q⟩)))
theorem asgL4 {r : TS} {D : Ends} {T1 T2 T3 T4 : Addr} {b1 b2 b3 b4 : Bool} (h : Xat K H a C dd) (h3 : σ[0]? = some (some (.ref a))) (k1 : PySem.W.kitOne K (.ref C) (.ref T1) = some b1) (k2 : PySem.W.kitOne K (.ref C) (.ref T2) = some b2) (k3 : PySem.W.kitOne K (.ref C) (.ref T3) = some b3) (k4 : PySem.W.kitOne K (.ref C) (.ref T4) = some b4)
    (q : ∀ p, H p = none → r D (σ.set 1 (some (.ref p))) (upd H p (.lst [.bl b1, .bl b2, .bl b3, .bl b4]))) : tSeq (tAsg (tLst (tCons (tCB (rIsx K) (tCons (tVar 0) (tCons (tC (.ref T1)) tNil))) (tCons (tCB (rIsx K) (tCons (tVar 0) (tCons (tC (.ref T2)) tNil))) (tCons (tCB (rIsx K) (tCons (tVar 0) (tCons (tC (.ref T3)) tNil))) (tCons (tCB (rIsx K) (tCons (tVar 0) (tCons (tC (.ref T4)) tNil))) tNil))))) (gName 1)) r D σ H := by
  unfold tSeq tAsg gName
  exact isx4 (Q := fun x H1 => r D (σ.set 1 (some x)) H1) h h3 k1 k2 k3 k4 q
theorem keepU {H H' : Hp} {p : Addr} {o : HO} (k : ∀ b o, H b = some o → H' b = some o) (n : H' p = none) : ∀ b u, H b = some u → upd H' p o b = some u := fun b u z => by
  have z' := k b u z
  rw [upd_ne (ne_of_none z' n)]; exact z'
theorem noneU {H H' : Hp} {p : Addr} (k : ∀ b o, H b = some o → H' b = some o) (n : H' p = none) : H p = none := by
  cases z : H p with
  | none => rfl
  | some o => rw [k p o z] at n; cases n
theorem asgC4 {r : TS} {D : Ends} {T1 T2 T3 T4 p0 : Addr} {xs : List V} {b1 b2 b3 b4 : Bool} (h : Xat K H a C dd) (h3 : σ[0]? = some (some (.ref a))) (hp : σ[1]? = some (some (.ref p0))) (hx : H p0 = some (.lst xs)) (hl : xs.length ≤ 100) (k1 : PySem.W.kitOne K (.ref C) (.ref T1) = some b1) (k2 : PySem.W.kitOne K (.ref C) (.ref T2) = some b2) (k3 : PySem.W.kitOne K (.ref C) (.ref T3) = some b3) (k4 : PySem.W.kitOne K (.ref C) (.ref T4) = some b4)
    (q : ∀ p H', H p = none → (∀ b o, H b = some o → H' b = some o) → H' p = some (.lst (xs ++ [.bl b1, .bl b2, .bl b3, .bl b4])) → r D (σ.set 1 (some (.ref p))) H') : tSeq (tAsg (tOp rCat (tVar 1) (tLst (tCons (tCB (rIsx K) (tCons (tVar 0) (tCons (tC (.ref T1)) tNil))) (tCons (tCB (rIsx K) (tCons (tVar 0) (tCons (tC (.ref T2)) tNil))) (tCons (tCB (rIsx K) (tCons (tVar 0) (tCons (tC (.ref T3)) tNil))) (tCons (tCB (rIsx K) (tCons (tVar 0) (tCons (tC (.ref T4)) tNil))) tNil)))))) (gName 1)) r D σ H := by
  unfold tSeq tAsg gName tOp tVar
  refine ⟨_, hp, isx4 (Q := fun y H2 => rCat (.ref p0) y H2 fun x H1 => r D (σ.set 1 (some x)) H1) h h3 k1 k2 k3 k4 fun p1 n1 => ⟨p0, p1, xs, _, rfl, rfl, by rw [upd_ne (ne_of_none hx n1)]; exact hx, upd_same, ?_, fun p n => q p _ ?_ (keepU (keepU (fun b o z => z) n1) n) upd_same⟩⟩
  · refine Nat.le_trans (Nat.add_le_add_right hl 4) (by show 104 ≤ sizeLine; decide)
  · have : p ≠ p1 := fun z => by rw [z, upd_same] at n; cases n
    rw [upd_ne this] at n; exact n
theorem retC1 {D : Ends} {T1 p0 : Addr} {xs : List V} {b1 : Bool} (h : Xat K H a C dd) (h3 : σ[0]? = some (some (.ref a))) (hp : σ[1]? = some (some (.ref p0))) (hx : H p0 = some (.lst xs)) (hl : xs.length ≤ 100) (k1 : PySem.W.kitOne K (.ref C) (.ref T1) = some b1)
    (q : ∀ p H', H p = none → (∀ b o, H b = some o → H' b = some o) → H' p = some (.lst (xs ++ [.bl b1])) → D.rt (.ref p) H') : tRet (tOp rCat (tVar 1) (tLst (tCons (tCB (rIsx K) (tCons (tVar 0) (tCons (tC (.ref T1)) tNil))) tNil))) D σ H := by
  unfold tRet tOp tVar
  refine ⟨_, hp, isx1 (Q := fun y H2 => rCat (.ref p0) y H2 D.rt) h h3 k1 fun p1 n1 => ⟨p0, p1, xs, _, rfl, rfl, by rw [upd_ne (ne_of_none hx n1)]; exact hx, upd_same, ?_, fun p n => q p _ ?_ (keepU (keepU (fun b o z => z) n1) n) upd_same⟩⟩
  · refine Nat.le_trans (Nat.add_le_add_right hl 1) (by show 101 ≤ sizeLine; decide)
  · have : p ≠ p1 := fun z => by rw [z, upd_same] at n; cases n
    rw [upd_ne this] at n; exact n
end
def spKinds (K : PySem.W.Frag) (cs : List Addr) : SpN := fun vs H Q => ∃ (a C : Addr) (dd : Option Addr) (d : Nat), vs = [.ref a] ∧ Xat K H a C dd ∧ (∀ (i : Nat) (c : Addr), cs[i]? = some c → PySem.W.kitOne K (.ref C) (.ref c) = some (i == d)) ∧
  ∀ p H', H p = none → H' p = some (.lst ((bitsN d).map V.bl)) → (∀ b o, H b = some o → H' b = some o) → Q (.ref p) H'
theorem okN_kinds (T : Txt K mg) : FnOkN P w K mg base 1 T.a_kinds T.d_kinds ["_law_e"] (spKinds K ((clsN T).map (·.1))) := by
  refine T.F_kinds.okN sc_kinds ?_ fun cdv A outer s H vs Q hr h => ⟨_, (pss_cons (ps_set (i := 1) sc_kinds.nd rfl (Or.inl rfl) (pe_lst (pa_cons (pe_callB call_isx rfl T.n_isinstance bt_isinstance (pa_cons (pv 0) (pa_cons (pe_glob (v := V.ref T.c_BadLand) rfl T.mg_BadLand rfl) pa_nil se_Name) se_Name) (he := se_Name) (hpl := (np_cons se_Name np_nil))) (pa_cons (pe_callB call_isx rfl T.n_isinstance bt_isinstance (pa_cons (pv 0) (pa_cons (pe_glob (v := V.ref T.c_BadTrip) rfl T.mg_BadTrip rfl) pa_nil se_Name) se_Name) (he := se_Name) (hpl := (np_cons se_Name np_nil))) (pa_cons (pe_callB call_isx rfl T.n_isinstance bt_isinstance (pa_cons (pv 0) (pa_cons (pe_glob (v := V.ref T.c_BadPlan) rfl T.mg_BadPlan rfl) pa_nil se_Name) se_Name) (he := se_Name) (hpl := (np_cons se_Name np_nil))) (pa_cons (pe_callB call_isx rfl T.n_isinstance bt_isinstance (pa_cons (pv 0) (pa_cons (pe_glob (v := V.ref T.c_Taken) rfl T.mg_Taken rfl) pa_nil se_Name) se_Name) (he := se_Name) (hpl := (np_cons se_Name np_nil))) pa_nil se_Call) se_Call) se_Call) se_Call)))
      (pss_cons (ps_set (i := 1) sc_kinds.nd rfl (Or.inl rfl) (pe_op op_cat (pv 1) (pe_lst (pa_cons (pe_callB call_isx rfl T.n_isinstance bt_isinstance (pa_cons (pv 0) (pa_cons (pe_glob (v := V.ref T.c_NoWay) rfl T.mg_NoWay rfl) pa_nil se_Name) se_Name) (he := se_Name) (hpl := (np_cons se_Name np_nil))) (pa_cons (pe_callB call_isx rfl T.n_isinstance bt_isinstance (pa_cons (pv 0) (pa_cons (pe_glob (v := V.ref T.c_TooMany) rfl T.mg_TooMany rfl) pa_nil se_Name) se_Name) (he := se_Name) (hpl := (np_cons se_Name np_nil))) (pa_cons (pe_callB call_isx rfl T.n_isinstance bt_isinstance (pa_cons (pv 0) (pa_cons (pe_glob (v := V.ref T.c_BadLabel) rfl T.mg_BadLabel rfl) pa_nil se_Name) se_Name) (he := se_Name) (hpl := (np_cons se_Name np_nil))) (pa_cons (pe_callB call_isx rfl T.n_isinstance bt_isinstance (pa_cons (pv 0) (pa_cons (pe_glob (v := V.ref T.c_BadWay) rfl T.mg_BadWay rfl) pa_nil se_Name) se_Name) (he := se_Name) (hpl := (np_cons se_Name np_nil))) pa_nil se_Call) se_Call) se_Call) se_Call))))
      (pss_cons (ps_set (i := 1) sc_kinds.nd rfl (Or.inl rfl) (pe_op op_cat (pv 1) (pe_lst (pa_cons (pe_callB call_isx rfl T.n_isinstance bt_isinstance (pa_cons (pv 0) (pa_cons (pe_glob (v := V.ref T.c_BadStore) rfl T.mg_BadStore rfl) pa_nil se_Name) se_Name) (he := se_Name) (hpl := (np_cons se_Name np_nil))) (pa_cons (pe_callB call_isx rfl T.n_isinstance bt_isinstance (pa_cons (pv 0) (pa_cons (pe_glob (v := V.ref T.c_BadGoal) rfl T.mg_BadGoal rfl) pa_nil se_Name) se_Name) (he := se_Name) (hpl := (np_cons se_Name np_nil))) (pa_cons (pe_callB call_isx rfl T.n_isinstance bt_isinstance (pa_cons (pv 0) (pa_cons (pe_glob (v := V.ref T.c_NoRow) rfl T.mg_NoRow rfl) pa_nil se_Name) se_Name) (he := se_Name) (hpl := (np_cons se_Name np_nil))) (pa_cons (pe_callB call_isx rfl T.n_isinstance bt_isinstance (pa_cons (pv 0) (pa_cons (pe_glob (v := V.ref T.c_NoText) rfl T.mg_NoText rfl) pa_nil se_Name) se_Name) (he := se_Name) (hpl := (np_cons se_Name np_nil))) pa_nil se_Call) se_Call) se_Call) se_Call))))
      (pss_one (ps_ret (pe_op op_cat (pv 1) (pe_lst (pa_cons (pe_callB call_isx rfl T.n_isinstance bt_isinstance (pa_cons (pv 0) (pa_cons (pe_glob (v := V.ref T.c_NoLand) rfl T.mg_NoLand rfl) pa_nil se_Name) se_Name) (he := se_Name) (hpl := (np_cons se_Name np_nil))) pa_nil se_Call)))))))), ?_⟩
  · rintro vs H Q ⟨a, C, dd, d, rfl, _⟩
    rfl
  · obtain ⟨a, C, dd, d, rfl, hX, hk, q⟩ := h
    refine asgL4 hX rfl (hk 0 _ rfl) (hk 1 _ rfl) (hk 2 _ rfl) (hk 3 _ rfl) fun p1 n1 => ?_
    have e1 := keepU (o := .lst [.bl (0 == d), .bl (1 == d), .bl (2 == d), .bl (3 == d)]) (fun b o (z : H b = some o) => z) n1
    refine asgC4 (hX.keep e1) rfl rfl upd_same (by show 4 ≤ 100; decide) (hk 4 _ rfl) (hk 5 _ rfl) (hk 6 _ rfl) (hk 7 _ rfl) fun p2 H2 n2 e2 x2 => ?_
    have e2' : ∀ b o, H b = some o → H2 b = some o := fun b o z => e2 b o (e1 b o z)
    refine asgC4 (hX.keep e2') rfl rfl x2 (by show 8 ≤ 100; decide) (hk 8 _ rfl) (hk 9 _ rfl) (hk 10 _ rfl) (hk 11 _ rfl) fun p3 H3 n3 e3 x3 => ?_
    have e3' : ∀ b o, H b = some o → H3 b = some o := fun b o z => e3 b o (e2' b o z)
    refine retC1 (hX.keep e3') rfl rfl x3 (by show 12 ≤ 100; decide) (hk 12 _ rfl) fun p4 H4 n4 e4 x4 => ?_
    refine q p4 H4 ?_ x4 fun b o z => e4 b o (e3' b o z)
    cases z : H p4 with
    | none => rfl
    | some o =>
      rw [e3' p4 o z] at n4; cases n4
end
section
variable {P : Program} {w : World} {K : PySem.W.Frag} {mg : Str → Option Value} {base : Heap}
theorem ixB {K : PySem.W.Frag} {σ : St} {H : Hp} {p : Addr} {xs : List V} {n : Nat} {b : Bool} {Q : Bool → Hp → Prop} (h : σ[1]? = some (some (.ref p))) (hp : H p = some (.lst xs)) (hx : xs[n]? = some (.bl b)) (q : Q b H) : tB (tOp (rIxL K) (tVar 1) (tC (.int ((n : Nat) : Int)))) σ H Q := by
  exact ⟨_, h, p, xs, _, _, rfl, rfl, SqL.of hp, atI_nat hx, _, rfl, q⟩
def spField (K : PySem.W.Frag) : SpN := fun vs H Q => ∃ (a C p : Addr) (dd : Option Addr) (d : Nat) (k : Int), vs = [.ref a, .ref p] ∧ d < 13 ∧ Xat K H a C dd ∧ H p = some (.lst ((bitsN d).map V.bl)) ∧
  (∀ f, fldN d = some f → ∃ dx, dd = some dx ∧ H dx = some (.xd [(f, .int k)]) ∧ NoAttr K C f) ∧ ∀ l, H l = none → Q (.ref l) (upd H l (.lst (if d < 6 then [.int k] else [])))
theorem okN_field (T : Txt K mg) : FnOkN P w K mg base 1 T.a_field T.d_field ["_law_e", "_law_kinds_here"] (spField K) := by
  refine T.F_field.okN sc_field ?_ fun cdv A outer s H vs Q hr h => ⟨_, (pss_cons (ps_if (PW.pt (pw_or (pt_val (pe_ix ix_list (pv 1) pe_int (fun _ _ => rfl))) (pw_or (pt_val (pe_ix ix_list (pv 1) pe_int (fun _ _ => rfl))) (pw_or1 (pt_val (pe_ix ix_list (pv 1) pe_int (fun _ _ => rfl)))))))
      (pss_one (ps_ret (pe_lst (pa_cons (pe_xf (pv 0) rfl) pa_nil se_Attribute))))
      pss_nil)
      (pss_cons (ps_if (PW.pt (pw_or (pt_val (pe_ix ix_list (pv 1) pe_int (fun _ _ => rfl))) (pw_or1 (pt_val (pe_ix ix_list (pv 1) pe_int (fun _ _ => rfl))))))
      (pss_one (ps_ret (pe_lst (pa_cons (pe_xf (pv 0) rfl) pa_nil se_Attribute))))
      pss_nil)
      (pss_cons (ps_if (pt_val (pe_ix ix_list (pv 1) pe_int (fun _ _ => rfl)))
      (pss_one (ps_ret (pe_lst (pa_cons (pe_xf (pv 0) rfl) pa_nil se_Attribute))))
      pss_nil)
      (pss_one (ps_ret (pe_lst pa_nil)))))), ?_⟩
  · rintro vs H Q ⟨a, C, p, dd, d, k, rfl, _⟩
    rfl
  · obtain ⟨a, C, p, dd, d, k, rfl, hd, hX, hp, hf, q⟩ := h
    match d, hd, hf, q, hp with
    | 0, hd, hf, q, hp => obtain ⟨dx, rfl, h2, na⟩ := hf _ rfl; exact ixB (n := 0) rfl hp rfl (iteT (iteT (⟨_, rfl, a, C, dx, .int k, rfl, hX.h1, h2, hX.cl, na, by show 1 ≤ sizeLine; decide, q⟩)))
    | 1, hd, hf, q, hp => obtain ⟨dx, rfl, h2, na⟩ := hf _ rfl; exact ixB (n := 0) rfl hp rfl (iteF (ixB (n := 1) rfl hp rfl (iteT (iteT (⟨_, rfl, a, C, dx, .int k, rfl, hX.h1, h2, hX.cl, na, by show 1 ≤ sizeLine; decide, q⟩)))))
    | 2, hd, hf, q, hp => obtain ⟨dx, rfl, h2, na⟩ := hf _ rfl; exact ixB (n := 0) rfl hp rfl (iteF (ixB (n := 1) rfl hp rfl (iteF (ixB (n := 2) rfl hp rfl (iteT (⟨_, rfl, a, C, dx, .int k, rfl, hX.h1, h2, hX.cl, na, by show 1 ≤ sizeLine; decide, q⟩))))))
    | 3, hd, hf, q, hp => obtain ⟨dx, rfl, h2, na⟩ := hf _ rfl; exact ixB (n := 0) rfl hp rfl (iteF (ixB (n := 1) rfl hp rfl (iteF (ixB (n := 2) rfl hp rfl (iteF (ixB (n := 3) rfl hp rfl (iteT (iteT (⟨_, rfl, a, C, dx, .int k, rfl, hX.h1, h2, hX.cl, na, by show 1 ≤ sizeLine; decide, q⟩)))))))))
    | 4, hd, hf, q, hp => obtain ⟨dx, rfl, h2, na⟩ := hf _ rfl; exact ixB (n := 0) rfl hp rfl (iteF (ixB (n := 1) rfl hp rfl (iteF (ixB (n := 2) rfl hp rfl (iteF (ixB (n := 3) rfl hp rfl (iteF (ixB (n := 4) rfl hp rfl (iteT (⟨_, rfl, a, C, dx, .int k, rfl, hX.h1, h2, hX.cl, na, by show 1 ≤ sizeLine; decide, q⟩))))))))))
    | 5, hd, hf, q, hp => obtain ⟨dx, rfl, h2, na⟩ := hf _ rfl; exact ixB (n := 0) rfl hp rfl (iteF (ixB (n := 1) rfl hp rfl (iteF (ixB (n := 2) rfl hp rfl (iteF (ixB (n := 3) rfl hp rfl (iteF (ixB (n := 4) rfl hp rfl (iteF (ixB (n := 5) rfl hp rfl (iteT (⟨_, rfl, a, C, dx, .int k, rfl, hX.h1, h2, hX.cl, na, by show 1 ≤ sizeLine; decide, q⟩))))))))))))
    | 6, hd, hf, q, hp => exact ixB (n := 0) rfl hp rfl (iteF (ixB (n := 1) rfl hp rfl (iteF (ixB (n := 2) rfl hp rfl (iteF (ixB (n := 3) rfl hp rfl (iteF (ixB (n := 4) rfl hp rfl (iteF (ixB (n := 5) rfl hp rfl (iteF (⟨by show 0 ≤ sizeLine; decide, q⟩))))))))))))
    | 7, hd, hf, q, hp => exact ixB (n := 0) rfl hp rfl (iteF (ixB (n := 1) rfl hp rfl (iteF (ixB (n := 2) rfl hp rfl (iteF (ixB (n := 3) rfl hp rfl (iteF (ixB (n := 4) rfl hp rfl (iteF (ixB (n := 5) rfl hp rfl (iteF (⟨by show 0 ≤ sizeLine; decide, q⟩))))))))))))
    | 8, hd, hf, q, hp => exact ixB (n := 0) rfl hp rfl (iteF (ixB (n := 1) rfl hp rfl (iteF (ixB (n := 2) rfl hp rfl (iteF (ixB (n := 3) rfl hp rfl (iteF (ixB (n := 4) rfl hp rfl (iteF (ixB (n := 5) rfl hp rfl (iteF (⟨by show 0 ≤ sizeLine; decide, q⟩))))))))))))
    | 9, hd, hf, q, hp => exact ixB (n := 0) rfl hp rfl (iteF (ixB (n := 1) rfl hp rfl (iteF (ixB (n := 2) rfl hp rfl (iteF (ixB (n := 3) rfl hp rfl (iteF (ixB (n := 4) rfl hp rfl (iteF (ixB (n := 5) rfl hp rfl (iteF (⟨by show 0 ≤ sizeLine; decide, q⟩))))))))))))
    | 10, hd, hf, q, hp => exact ixB (n := 0) rfl hp rfl (iteF (ixB (n := 1) rfl hp rfl (iteF (ixB (n := 2) rfl hp rfl (iteF (ixB (n := 3) rfl hp rfl (iteF (ixB (n := 4) rfl hp rfl (iteF (ixB (n := 5) rfl hp rfl (iteF (⟨by show 0 ≤ sizeLine; decide, q⟩))))))))))))
    | 11, hd, hf, q, hp => exact ixB (n := 0) rfl hp rfl (iteF (ixB (n := 1) rfl hp rfl (iteF (ixB (n := 2) rfl hp rfl (iteF (ixB (n := 3) rfl hp rfl (iteF (ixB (n := 4) rfl hp rfl (iteF (ixB (n := 5) rfl hp rfl (iteF (⟨by show 0 ≤ sizeLine; decide, q⟩))))))))))))
    | 12, hd, hf, q, hp => exact ixB (n := 0) rfl hp rfl (iteF (ixB (n := 1) rfl hp rfl (iteF (ixB (n := 2) rfl hp rfl (iteF (ixB (n := 3) rfl hp rfl (iteF (ixB (n := 4) rfl hp rfl (iteF (ixB (n := 5) rfl hp rfl (iteF (⟨by show 0 ≤ sizeLine; decide, q⟩))))))))))))
    | n + 13, hd, _, _, _ => exact absurd hd (by omega)
end
structure DoorF (K : PySem.W.Frag) (TE : Addr) (cs : List Addr) (x : Addr × Option Str) (d : Nat) : Prop where
  cl : XCl K x.1
  em : PySem.W.exmOne K (.ref x.1) (.ref TE) = some true
  ve : PySem.W.kitOne K (.ref x.1) (.type "ValueError") = some true
  kit : ∀ (i : Nat) (c : Addr), cs[i]? = some c → PySem.W.kitOne K (.ref x.1) (.ref c) = some (i == d)
  na : ∀ f, x.2 = some f → NoAttr K x.1 f
  fl : x.2 = fldN d
theorem door_of {K : PySem.W.Frag} {mg : Str → Option Value} (T : Txt K mg) {x : Addr × Option Str} : ∀ {d : Nat}, (clsN T)[d]? = some x → DoorF K T.c_TrudgeError ((clsN T).map (·.1)) x d
  | 0, hx => by
    cases hx
    exact ⟨T.xc_BadLand.cl, T.xc_BadLand.em, T.xc_BadLand.ve, (fun i c hc => match i, hc with | 0, hc => by cases hc; exact T.k_BadLand_BadLand | 1, hc => by cases hc; exact T.k_BadLand_BadTrip | 2, hc => by cases hc; exact T.k_BadLand_BadPlan | 3, hc => by cases hc; exact T.k_BadLand_Taken | 4, hc => by cases hc; exact T.k_BadLand_NoWay | 5, hc => by cases hc; exact T.k_BadLand_TooMany | 6, hc => by cases hc; exact T.k_BadLand_BadLabel | 7, hc => by cases hc; exact T.k_BadLand_BadWay | 8, hc => by cases hc; exact T.k_BadLand_BadStore | 9, hc => by cases hc; exact T.k_BadLand_BadGoal | 10, hc => by cases hc; exact T.k_BadLand_NoRow | 11, hc => by cases hc; exact T.k_BadLand_NoText | 12, hc => by cases hc; exact T.k_BadLand_NoLand | n + 13, hc => by cases hc), (fun f hf => by cases hf; exact T.xc_BadLand.f2), rfl⟩
  | 1, hx => by
    cases hx
    exact ⟨T.xc_BadTrip.cl, T.xc_BadTrip.em, T.xc_BadTrip.ve, (fun i c hc => match i, hc with | 0, hc => by cases hc; exact T.k_BadTrip_BadLand | 1, hc => by cases hc; exact T.k_BadTrip_BadTrip | 2, hc => by cases hc; exact T.k_BadTrip_BadPlan | 3, hc => by cases hc; exact T.k_BadTrip_Taken | 4, hc => by cases hc; exact T.k_BadTrip_NoWay | 5, hc => by cases hc; exact T.k_BadTrip_TooMany | 6, hc => by cases hc; exact T.k_BadTrip_BadLabel | 7, hc => by cases hc; exact T.k_BadTrip_BadWay | 8, hc => by cases hc; exact T.k_BadTrip_BadStore | 9, hc => by cases hc; exact T.k_BadTrip_BadGoal | 10, hc => by cases hc; exact T.k_BadTrip_NoRow | 11, hc => by cases hc; exact T.k_BadTrip_NoText | 12, hc => by cases hc; exact T.k_BadTrip_NoLand | n + 13, hc => by cases hc), (fun f hf => by cases hf; exact T.xc_BadTrip.f2), rfl⟩
  | 2, hx => by
    cases hx
    exact ⟨T.xc_BadPlan.cl, T.xc_BadPlan.em, T.xc_BadPlan.ve, (fun i c hc => match i, hc with | 0, hc => by cases hc; exact T.k_BadPlan_BadLand | 1, hc => by cases hc; exact T.k_BadPlan_BadTrip | 2, hc => by cases hc; exact T.k_BadPlan_BadPlan | 3, hc => by cases hc; exact T.k_BadPlan_Taken | 4, hc => by cases hc; exact T.k_BadPlan_NoWay | 5, hc => by cases hc; exact T.k_BadPlan_TooMany | 6, hc => by cases hc; exact T.k_BadPlan_BadLabel | 7, hc => by cases hc; exact T.k_BadPlan_BadWay | 8, hc => by cases hc; exact T.k_BadPlan_BadStore | 9, hc => by cases hc; exact T.k_BadPlan_BadGoal | 10, hc => by cases hc; exact T.k_BadPlan_NoRow | 11, hc => by cases hc; exact T.k_BadPlan_NoText | 12, hc => by cases hc; exact T.k_BadPlan_NoLand | n + 13, hc => by cases hc), (fun f hf => by cases hf; exact T.xc_BadPlan.f2), rfl⟩
  | 3, hx => by
    cases hx
    exact ⟨T.xc_Taken.cl, T.xc_Taken.em, T.xc_Taken.ve, (fun i c hc => match i, hc with | 0, hc => by cases hc; exact T.k_Taken_BadLand | 1, hc => by cases hc; exact T.k_Taken_BadTrip | 2, hc => by cases hc; exact T.k_Taken_BadPlan | 3, hc => by cases hc; exact T.k_Taken_Taken | 4, hc => by cases hc; exact T.k_Taken_NoWay | 5, hc => by cases hc; exact T.k_Taken_TooMany | 6, hc => by cases hc; exact T.k_Taken_BadLabel | 7, hc => by cases hc; exact T.k_Taken_BadWay | 8, hc => by cases hc; exact T.k_Taken_BadStore | 9, hc => by cases hc; exact T.k_Taken_BadGoal | 10, hc => by cases hc; exact T.k_Taken_NoRow | 11, hc => by cases hc; exact T.k_Taken_NoText | 12, hc => by cases hc; exact T.k_Taken_NoLand | n + 13, hc => by cases hc), (fun f hf => by cases hf; exact T.xc_Taken.f2), rfl⟩
  | 4, hx => by
    cases hx
    exact ⟨T.xc_NoWay.cl, T.xc_NoWay.em, T.xc_NoWay.ve, (fun i c hc => match i, hc with | 0, hc => by cases hc; exact T.k_NoWay_BadLand | 1, hc => by cases hc; exact T.k_NoWay_BadTrip | 2, hc => by cases hc; exact T.k_NoWay_BadPlan | 3, hc => by cases hc; exact T.k_NoWay_Taken | 4, hc => by cases hc; exact T.k_NoWay_NoWay | 5, hc => by cases hc; exact T.k_NoWay_TooMany | 6, hc => by cases hc; exact T.k_NoWay_BadLabel | 7, hc => by cases hc; exact T.k_NoWay_BadWay | 8, hc => by cases hc; exact T.k_NoWay_BadStore | 9, hc => by cases hc; exact T.k_NoWay_BadGoal | 10, hc => by cases hc; exact T.k_NoWay_NoRow | 11, hc => by cases hc; exact T.k_NoWay_NoText | 12, hc => by cases hc; exact T.k_NoWay_NoLand | n + 13, hc => by cases hc), (fun f hf => by cases hf; exact T.xc_NoWay.f2), rfl⟩
  | 5, hx => by
    cases hx
    exact ⟨T.xc_TooMany.cl, T.xc_TooMany.em, T.xc_TooMany.ve, (fun i c hc => match i, hc with | 0, hc => by cases hc; exact T.k_TooMany_BadLand | 1, hc => by cases hc; exact T.k_TooMany_BadTrip | 2, hc => by cases hc; exact T.k_TooMany_BadPlan | 3, hc => by cases hc; exact T.k_TooMany_Taken | 4, hc => by cases hc; exact T.k_TooMany_NoWay | 5, hc => by cases hc; exact T.k_TooMany_TooMany | 6, hc => by cases hc; exact T.k_TooMany_BadLabel | 7, hc => by cases hc; exact T.k_TooMany_BadWay | 8, hc => by cases hc; exact T.k_TooMany_BadStore | 9, hc => by cases hc; exact T.k_TooMany_BadGoal | 10, hc => by cases hc; exact T.k_TooMany_NoRow | 11, hc => by cases hc; exact T.k_TooMany_NoText | 12, hc => by cases hc; exact T.k_TooMany_NoLand | n + 13, hc => by cases hc), (fun f hf => by cases hf; exact T.xc_TooMany.f2), rfl⟩
  | 6, hx => by
    cases hx
    exact ⟨T.xc_BadLabel.cl, T.xc_BadLabel.em, T.xc_BadLabel.ve, (fun i c hc => match i, hc with | 0, hc => by cases hc; exact T.k_BadLabel_BadLand | 1, hc => by cases hc; exact T.k_BadLabel_BadTrip | 2, hc => by cases hc; exact T.k_BadLabel_BadPlan | 3, hc => by cases hc; exact T.k_BadLabel_Taken | 4, hc => by cases hc; exact T.k_BadLabel_NoWay | 5, hc => by cases hc; exact T.k_BadLabel_TooMany | 6, hc => by cases hc; exact T.k_BadLabel_BadLabel | 7, hc => by cases hc; exact T.k_BadLabel_BadWay | 8, hc => by cases hc; exact T.k_BadLabel_BadStore | 9, hc => by cases hc; exact T.k_BadLabel_BadGoal | 10, hc => by cases hc; exact T.k_BadLabel_NoRow | 11, hc => by cases hc; exact T.k_BadLabel_NoText | 12, hc => by cases hc; exact T.k_BadLabel_NoLand | n + 13, hc => by cases hc), (fun f hf => by cases hf), rfl⟩
  | 7, hx => by
    cases hx
    exact ⟨T.xc_BadWay.cl, T.xc_BadWay.em, T.xc_BadWay.ve, (fun i c hc => match i, hc with | 0, hc => by cases hc; exact T.k_BadWay_BadLand | 1, hc => by cases hc; exact T.k_BadWay_BadTrip | 2, hc => by cases hc; exact T.k_BadWay_BadPlan | 3, hc => by cases hc; exact T.k_BadWay_Taken | 4, hc => by cases hc; exact T.k_BadWay_NoWay | 5, hc => by cases hc; exact T.k_BadWay_TooMany | 6, hc => by cases hc; exact T.k_BadWay_BadLabel | 7, hc => by cases hc; exact T.k_BadWay_BadWay | 8, hc => by cases hc; exact T.k_BadWay_BadStore | 9, hc => by cases hc; exact T.k_BadWay_BadGoal | 10, hc => by cases hc; exact T.k_BadWay_NoRow | 11, hc => by cases hc; exact T.k_BadWay_NoText | 12, hc => by cases hc; exact T.k_BadWay_NoLand | n + 13, hc => by cases hc), (fun f hf => by cases hf), rfl⟩
  | 8, hx => by
    cases hx
    exact ⟨T.xc_BadStore.cl, T.xc_BadStore.em, T.xc_BadStore.ve, (fun i c hc => match i, hc with | 0, hc => by cases hc; exact T.k_BadStore_BadLand | 1, hc => by cases hc; exact T.k_BadStore_BadTrip | 2, hc => by cases hc; exact T.k_BadStore_BadPlan | 3, hc => by cases hc; exact T.k_BadStore_Taken | 4, hc => by cases hc; exact T.k_BadStore_NoWay | 5, hc => by cases hc; exact T.k_BadStore_TooMany | 6, hc => by cases hc; exact T.k_BadStore_BadLabel | 7, hc => by cases hc; exact T.k_BadStore_BadWay | 8, hc => by cases hc; exact T.k_BadStore_BadStore | 9, hc => by cases hc; exact T.k_BadStore_BadGoal | 10, hc => by cases hc; exact T.k_BadStore_NoRow | 11, hc => by cases hc; exact T.k_BadStore_NoText | 12, hc => by cases hc; exact T.k_BadStore_NoLand | n + 13, hc => by cases hc), (fun f hf => by cases hf), rfl⟩
  | 9, hx => by
    cases hx
    exact ⟨T.xc_BadGoal.cl, T.xc_BadGoal.em, T.xc_BadGoal.ve, (fun i c hc => match i, hc with | 0, hc => by cases hc; exact T.k_BadGoal_BadLand | 1, hc => by cases hc; exact T.k_BadGoal_BadTrip | 2, hc => by cases hc; exact T.k_BadGoal_BadPlan | 3, hc => by cases hc; exact T.k_BadGoal_Taken | 4, hc => by cases hc; exact T.k_BadGoal_NoWay | 5, hc => by cases hc; exact T.k_BadGoal_TooMany | 6, hc => by cases hc; exact T.k_BadGoal_BadLabel | 7, hc => by cases hc; exact T.k_BadGoal_BadWay | 8, hc => by cases hc; exact T.k_BadGoal_BadStore | 9, hc => by cases hc; exact T.k_BadGoal_BadGoal | 10, hc => by cases hc; exact T.k_BadGoal_NoRow | 11, hc => by cases hc; exact T.k_BadGoal_NoText | 12, hc => by cases hc; exact T.k_BadGoal_NoLand | n + 13, hc => by cases hc), (fun f hf => by cases hf), rfl⟩
  | 10, hx => by
    cases hx
    exact ⟨T.xc_NoRow.cl, T.xc_NoRow.em, T.xc_NoRow.ve, (fun i c hc => match i, hc with | 0, hc => by cases hc; exact T.k_NoRow_BadLand | 1, hc => by cases hc; exact T.k_NoRow_BadTrip | 2, hc => by cases hc; exact T.k_NoRow_BadPlan | 3, hc => by cases hc; exact T.k_NoRow_Taken | 4, hc => by cases hc; exact T.k_NoRow_NoWay | 5, hc => by cases hc; exact T.k_NoRow_TooMany | 6, hc => by cases hc; exact T.k_NoRow_BadLabel | 7, hc => by cases hc; exact T.k_NoRow_BadWay | 8, hc => by cases hc; exact T.k_NoRow_BadStore | 9, hc => by cases hc; exact T.k_NoRow_BadGoal | 10, hc => by cases hc; exact T.k_NoRow_NoRow | 11, hc => by cases hc; exact T.k_NoRow_NoText | 12, hc => by cases hc; exact T.k_NoRow_NoLand | n + 13, hc => by cases hc), (fun f hf => by cases hf), rfl⟩
  | 11, hx => by
    cases hx
    exact ⟨T.xc_NoText.cl, T.xc_NoText.em, T.xc_NoText.ve, (fun i c hc => match i, hc with | 0, hc => by cases hc; exact T.k_NoText_BadLand | 1, hc => by cases hc; exact T.k_NoText_BadTrip | 2, hc => by cases hc; exact T.k_NoText_BadPlan | 3, hc => by cases hc; exact T.k_NoText_Taken | 4, hc => by cases hc; exact T.k_NoText_NoWay | 5, hc => by cases hc; exact T.k_NoText_TooMany | 6, hc => by cases hc; exact T.k_NoText_BadLabel | 7, hc => by cases hc; exact T.k_NoText_BadWay | 8, hc => by cases hc; exact T.k_NoText_BadStore | 9, hc => by cases hc; exact T.k_NoText_BadGoal | 10, hc => by cases hc; exact T.k_NoText_NoRow | 11, hc => by cases hc; exact T.k_NoText_NoText | 12, hc => by cases hc; exact T.k_NoText_NoLand | n + 13, hc => by cases hc), (fun f hf => by cases hf), rfl⟩
  | 12, hx => by
    cases hx
    exact ⟨T.xc_NoLand.cl, T.xc_NoLand.em, T.xc_NoLand.ve, (fun i c hc => match i, hc with | 0, hc => by cases hc; exact T.k_NoLand_BadLand | 1, hc => by cases hc; exact T.k_NoLand_BadTrip | 2, hc => by cases hc; exact T.k_NoLand_BadPlan | 3, hc => by cases hc; exact T.k_NoLand_Taken | 4, hc => by cases hc; exact T.k_NoLand_NoWay | 5, hc => by cases hc; exact T.k_NoLand_TooMany | 6, hc => by cases hc; exact T.k_NoLand_BadLabel | 7, hc => by cases hc; exact T.k_NoLand_BadWay | 8, hc => by cases hc; exact T.k_NoLand_BadStore | 9, hc => by cases hc; exact T.k_NoLand_BadGoal | 10, hc => by cases hc; exact T.k_NoLand_NoRow | 11, hc => by cases hc; exact T.k_NoLand_NoText | 12, hc => by cases hc; exact T.k_NoLand_NoLand | n + 13, hc => by cases hc), (fun f hf => by cases hf), rfl⟩
  | n + 13, hx => by cases hx
def spTold : Sp := fun vs H Q _ => ∃ (d : Nat) (k : Int), vs = [.int ((d : Nat) : Int), .int k] ∧ d < 13 ∧ ∀ t p l H', H t = none → H p = none → H l = none → H' t = some (.tup [.ref p, .ref l, .bl true]) → H' p = some (.lst ((bitsN d).map V.bl)) → H' l = some (.lst (if d < 6 then [.int k] else [])) → (∀ b o, H b = some o → H' b = some o) → Q (.ref t) H'
def E0T (H : Hp) (x : Addr × Option Str) (k : Int) : XK := fun c dd H' => c = .ref x.1 ∧ (∀ b o, H b = some o → H' b = some o) ∧ (∀ f, x.2 = some f → ∃ dx, dd = some dx ∧ H' dx = some (.xd [(f, .int k)])) ∧ ∀ dx, dd = some dx → ∃ o, H' dx = some o
section
variable {P : Program} {w : World} {K : PySem.W.Frag} {mg : Str → Option Value} {base : Heap}
theorem ok_told0 (T : Txt K mg) : FnOk P w K mg base CX0 5 T.a_told T.d_told ["_law_door", "_law_thing"] spTold := by
  have GX_raise : FnOk P w K mg base (CXe P w) 3 T.a_raise T.d_raise ["_law_door", "_law_thing"] (spRaise T) := okX_raise T
  have b_raise := bd_raise T
  have GN_kinds : FnOkN P w K mg base 1 T.a_kinds T.d_kinds ["_law_e"] (spKinds K ((clsN T).map (·.1))) := okN_kinds T
  have b_kinds := bd_kinds T
  have GN_field : FnOkN P w K mg base 1 T.a_field T.d_field ["_law_e", "_law_kinds_here"] (spField K) := okN_field T
  have b_field := bd_field T
  refine T.F_told.ok sc_told (fun vs H Q E h => ?_) (fun cdv A outer s H vs Q E hr h => ?_)
  · obtain ⟨d, k, rfl, _⟩ := h
    rfl
  · obtain ⟨d, k, rfl, hd, q⟩ := h
    obtain ⟨x, hx⟩ : ∃ x, (clsN T)[d]? = some x := ⟨_, List.getElem?_eq_getElem hd⟩
    have D := door_of T hx
    refine ⟨_, pss_cons (ps_try (E := E0T H x k) (TE := T.c_TrudgeError) (i := 2) sc_told.nd rfl rfl rfl rfl rfl rfl T.mg_TrudgeError (fun pn Eh R => pss_one (ps_expr (pe_call GX_raise (hr.mono (by decide)) rfl T.mg_raise T.kp_raise b_raise .nil (passes_of rfl R) (pa_cons (pv 0) (pa_cons (pv 1) pa_nil se_Name) se_Name)))) (fun a => (pss_cons (ps_set (i := 3) sc_told.nd rfl (Or.inl rfl) (pe_callN GN_kinds ((hr.han a).mono (by decide)) rfl T.mg_kinds T.kp_kinds b_kinds (pa_cons (pv 2) pa_nil se_Name) (he := se_Name) (hpl := np_nil)))
      (pss_one (ps_ret (pe_tup (pa_cons (pv 3) (pa_cons (pe_callN GN_field ((hr.han a).mono (by decide)) rfl T.mg_field T.kp_field b_field (pa_cons (pv 2) (pa_cons (pv 3) pa_nil se_Name) se_Name) (he := se_Name) (hpl := (np_cons se_Name np_nil))) (pa_cons (pe_callB call_ist rfl T.n_isinstance bt_isinstance (pa_cons (pv 2) (pa_cons (pe_bltn (v := V.ty "ValueError") rfl T.n_ValueError bt_ValueError rfl) pa_nil se_Name) se_Name) (he := se_Name) (hpl := (np_cons se_Name np_nil))) pa_nil se_Call) se_Call) se_Name))))))) (pss_one (ps_ret pe_non)), ?_, ?_⟩
    · refine ⟨_, rfl, _, rfl, d, k, x, rfl, hx, ?_⟩
      unfold Lies E0T
      cases x2 : x.2 with
      | none => exact ⟨rfl, fun b o z => z, (fun f z => nomatch z), fun dx z => nomatch z⟩
      | some f =>
        intro dx n
        refine ⟨rfl, keepU (fun b o z => z) n, fun f' z => ?_, fun dx' z => ?_⟩
        · cases z
          exact ⟨dx, rfl, upd_same⟩
        · cases z
          exact ⟨_, upd_same⟩
    · rintro C dd H1 a ⟨e1, e2, e3, e4⟩ na
      cases e1
      refine ⟨D.em, ?_⟩
      have ka := keepU (o := XO a x.1 dd) e2 na
      have hXa : Xat K (upd H1 a (XO a x.1 dd)) a x.1 dd := ⟨upd_same, fun dx z => by
        obtain ⟨o, y⟩ := e4 dx z
        exact ⟨o, by rw [upd_ne (ne_of_none y na)]; exact y⟩, D.cl⟩
      refine ⟨_, rfl, a, x.1, dd, d, rfl, hXa, D.kit, fun p H2 n2 x2 e5 => ?_⟩
      have k2 : ∀ b o, H b = some o → H2 b = some o := fun b o z => e5 b o (ka b o z)
      have hX2 := hXa.keep e5
      have hf2 : ∀ f, fldN d = some f → ∃ dx, dd = some dx ∧ H2 dx = some (.xd [(f, .int k)]) ∧ NoAttr K x.1 f := fun f z => by
        rw [← D.fl] at z
        obtain ⟨dx, y1, y2⟩ := e3 f z
        exact ⟨dx, y1, e5 dx _ (by rw [upd_ne (ne_of_none y2 na)]; exact y2), D.na f z⟩
      refine ⟨_, rfl, _, rfl, _, rfl, a, x.1, p, dd, d, k, rfl, hd, hX2, x2, hf2, fun l n3 => ?_⟩
      have k3 := keepU (o := .lst (if d < 6 then [V.int k] else [])) (fun b o (z : H2 b = some o) => z) n3
      have hX3 := hX2.keep k3
      refine ⟨_, rfl, a, x.1, dd, _, "ValueError", true, rfl, ⟨rfl, D.ve⟩, hX3.h1, hX3.hd, D.cl, by show 3 ≤ sizeLine; decide, fun t n4 => ?_⟩
      have k4 := keepU (o := .tup [.ref p, .ref l, .bl true]) (fun b o z => k3 b o z) n4
      exact q t p l _ (noneU (fun b o z => k3 b o (k2 b o z)) n4) (noneU ka n2) (noneU k2 n3) upd_same (k4 p _ x2) (by rw [upd_ne (ne_of_none upd_same n4)]; exact upd_same) fun b o z => k4 b o (k2 b o z)
def spToldD : DSp := fun ds Q => ∃ (d : Nat) (k : Int), ds = [.int ((d : Nat) : Int), .int k] ∧ d < 13 ∧ Q (.tuple [.list ((bitsN d).map PyData.bool), .list (if d < 6 then [.int k] else []), .bool true])
theorem ths_bl {F : Addr → Prop} {H : Hp} : ∀ bs : List Bool, ThVs F H (bs.map V.bl) (bs.map PyData.bool)
  | [] => .nil
  | b :: bs => .cons (.bl b) (ths_bl bs)
theorem ok_told (T : Txt K mg) : FnOk P w K mg base CX0 5 T.a_told T.d_told ["_law_door", "_law_thing"] (spD [.sh, .sh] spToldD) := (ok_told0 T).imp fun vs H Q E h => by
  obtain ⟨F, hand, ds, Qd, h1, h2, h3, a, ⟨d, k, rfl, hd, q⟩, h5⟩ := h
  cases a with
  | cons x t =>
    cases t with
    | cons y t =>
      cases t
      cases (show ThV F H _ (.int ((d : Nat) : Int)) from x)
      cases (show ThV F H _ (.int k) from y)
      refine ⟨d, k, rfl, hd, fun t p l H' nt np nl et ep el kp => h5 _ _ _ q ?_ (fun b o eb n => kp b o eb) (Hq.keep h3 kp)⟩
      refine .tup (h1.1 t nt) et (.cons (.lst (h1.1 p np) ep (ths_bl _)) (.cons (.lst (h1.1 l nl) el ?_) (.cons (.bl true) .nil)))
      split
      · exact .cons (.int k) .nil
      · exact .nil
end
def spLaw (K : PySem.W.Frag) : Sp := fun vs H Q _ => ∃ (a : Addr) (ns : List Int), vs = [.ref a] ∧ SqL K H a (ns.map V.int) ∧ ns.length ≤ 63 ∧ ∀ H', Q (.bl true) H'
section
variable {P : Program} {w : World} {K : PySem.W.Frag} {mg : Str → Option Value} {base : Heap}
theorem ok_law (T : Txt K mg) : FnOk P w K mg base CX0 8 T.a_law T.d_law ["_law_script"] (spLaw K) := by
  have G_hand : FnOk P w K mg base CX0 1 T.a_hand T.d_hand ["_law_script"] (spHand K) := ok_hand T
  have b_hand := bd_hand T
  have G_draw := @ok_drawD P w K mg base T
  have b_draw := bd_draw T
  have G_told := @ok_told P w K mg base T
  have b_told := bd_told T
  refine T.F_law.ok sc_law (fun vs H Q E h => ?_) (fun cdv A outer s H vs Q E hr h => ?_)
  · obtain ⟨a, ns, rfl, _⟩ := h
    rfl
  · obtain ⟨a, ns, rfl, hS, hlen, k⟩ := h
    refine ⟨_, (@pss_cons _ _ _ _ _ (ps_set (i := 1) sc_law.nd rfl (Or.inl rfl) (pe_call G_hand (hr.mono (by decide)) rfl T.mg_hand T.kp_hand b_hand .nil pass0 (pa_cons (pv 0) pa_nil se_Name) (he := se_Name) (hpl := np_nil))) (@pss_exC _ _ _ (fun C => (@dss_consG _ _ _ _ _ _ (@ds_mid _ _ _ _ (@ds_for _ _ _ _ _ _ (@ps_for _ _ _ _ _ _ _ _ PassesOwn.never rfl (di_rng1 (pi_range1 rfl T.n_range (dv_cons pd_int dv_nil se_Constant))) (dg_name (pg_name (i := 2) sc_law.nd rfl (Or.inr rfl))) (@dss_consG _ _ _ _ _ _ (ds_set (ps_set (i := 3) sc_law.nd rfl (Or.inl rfl) (pd_call (pe_call G_draw (hr.mono (by decide)) rfl T.mg_draw T.kp_draw b_draw .nil pass0 (da_s (pv 1) (da_v (pd_op op_pow ok_pow pd_int pd_int) da_nil se_BinOp) se_Name) (he := se_Name) (hpl := (np_cons se_BinOp np_nil)))))) (@dss_consG _ _ _ _ _ _ (ds_set (ps_set (i := 4) sc_law.nd rfl (Or.inl rfl) (pd_f (pf_lst dv_nil)))) (@dss_consG _ _ _ _ _ _ (ds_mid (ds_if (pdt_cmp op_lt ok_lt (pd_var (pv 2)) pd_int (nomark _))
      (dss_one (ds_set (ps_set (i := 4) sc_law.nd rfl (Or.inl rfl) (pd_f (pf_lst (dv_cons (pd_var (pv 3)) dv_nil se_Name))))))
      dss_nil)) (@dss_one _ _ _ _ (@ds_if _ _ _ _ _ _ _ _ _ (@pdt_cmp _ _ _ _ _ _ _ _ _ _ (op_neD (units_of hr)) ok_eq (pd_call (pe_call G_told (hr.mono (by decide)) rfl T.mg_told T.kp_told b_told .nil pass0 (da_v (pd_var (pv 2)) (da_v (pd_var (pv 3)) da_nil se_Name) se_Name) (he := se_Name) (hpl := (np_cons se_Name np_nil)))) (@pd_tup _ _ _ _ _ _ (@dv_cons _ _ _ _ _ _ (pd_f (pf_comp rfl (pe_comp (CompSc.new (N := ["_law_script", "_law_hand_here", "_law_door", "_law_thing", "_law_fields"]) (osc := defScope s_law) (by decide +kernel)) rfl (di_rng1 (pi_range1 rfl T.n_range (dv_cons pd_int dv_nil se_Constant))) (fun _ => dts_nil) (fun _ => (pd_cmp (op_eqD (units_of hr)) ok_eq (pd_var (pv 5)) (pd_var (pv 2)) (nomark _)))))) (dv_cons (pd_var (pv 4)) (dv_cons pd_bl dv_nil se_Constant) se_Name) se_ListComp)) (nomark _)) (dss_one (ds_ret pd_bl)) dss_nil))))) (by intro _; rfl)))) (dss_one (ds_ret pd_bl)))))), ?_⟩
    refine ⟨_, rfl, a, ns, rfl, hS, fun hd hl H1 _ _ d1 _ => ?_⟩
    refine law_start (k := 3) d1 k ?_
    simp only [List.replicate_succ, List.replicate_zero]
    clear k
    refine mid_of (fun ρ' => True) ?_ ?_
    · refine for_of ?_
      try dsimp only [dIl, dIv, dIt, dRng1, dRng2, dEnum, dIrev, dSeq, dSeqG, dSet, dOwn, dOp, dVar, dIfS, dT, dRet, dDrop, dCb, dCons, dNil, dC, dF, dLst, dTup, dNeg, dNot, dAnd, dOr, dAndV, dOrV, dNotV, dBV, dIf, dChain, dIx, dIxV, dLenV, dListV, dList, dSlV, dSl, dCat, dRep, dIsiV, dIsi, dCall, aNil, aV, aS, arsD, arD, isSl, slotD, bnd_some, ixD, lenD, listD, itemsD, gI, gI0, gAdd, gMns, gMul, gMod, gDiv, gPow, gLt, gLe, gGt, gGe, gEq, gIsN, isN, gLen, gMin, gMax, gI2, gAbs, gInt, gAll, gAny, dNext, dLrev, dApp, dSetI, dAsg, gN, gT2, gT3, gT5, gInS, strsD, gMaxP, dPopI, dLrng, dZip, dCompT2, dComp, dCompT3, dIndexV, gIn, gB2, oN, oS, startN, slOf, a1_0, a2_0, a2_1, a3_0, a3_1, a3_2, isiD, tyD, List.tail_cons, List.tail_nil, List.getElem?_cons_zero, List.getElem?_cons_succ, List.set_cons_zero, List.set_cons_succ, List.length_cons, List.length_nil, Option.bind_some, Option.map_some, List.cons_append, List.nil_append, iteTT, iteFF, iteTB, iteFB, iteTI, iteFI, Bool.not_true, Bool.not_false, dTry, dCallX, dRz, xkD]
      refine ⟨⟨by decide, by decide⟩, forW (fun r ρ => ∃ (j : Nat) (z2 z3 z4 : Sl), r = (rngD 0 13).drop j ∧ ρ = [Sl.no, Sl.hd, z2, z3, z4]) ⟨0, _, _, _, rfl, rfl⟩ ?_ ?_⟩
      · rintro x r ρ ⟨j, z2, z3, z4, h1, rfl⟩
        obtain ⟨rfl, rfl, hj⟩ := rng_cons' h1
        rw [Int.zero_add]
        sizeOf_list_dec
        refine ⟨rfl, ⟨by decide, by decide, by decide⟩, _, rfl, by decide, by decide, fun g g0 g1 => ?_⟩
        refine go ?_; decreasing_tactic
        refine ⟨by decide, go (mid_of (fun ρ' => ρ' = [Sl.no, Sl.hd, Sl.sh (.int ((j : Nat) : Int)), Sl.sh (.int g), Sl.sh (.list (if j < 6 then [.int g] else []))]) ?_ ?_)⟩
        · decreasing_tactic
          by_cases c : j < 6
          · rw [decide_eq_true (show ((j : Nat) : Int) < 6 by omega), if_pos c]
            exact iteT ⟨by decide, rfl⟩
          · rw [decide_eq_false (show ¬ ((j : Nat) : Int) < 6 by omega), if_neg c]
            exact iteNo rfl
        rintro ρ rfl
        try dsimp only
        refine go ?_
        array_get_dec
        refine ⟨j, g, rfl, hj, ⟨by decide, by decide⟩, ⟨rfl, by decide⟩, ?_⟩
        rw [show rngD 0 (Int.toNat 13) = (List.range 13).map (fun k : Nat => PyData.int ((k : Nat) : Int)) from rngD0 13]
        refine compM (f := fun k : Nat => PyData.bool (k == j)) (fun k hk Q' q' => ?_) ?_
        · decreasing_tactic
          refine ⟨rfl, rfl, min0 _ _, ?_⟩
          rw [eqv_int, show (((k : Nat) : Int) == ((j : Nat) : Int)) = (k == j) from by rw [Bool.eq_iff_iff, beq_iff_eq, beq_iff_eq]; omega]
          exact q'
        · rw [List.nil_append]
          have e : (bitsN j).map PyData.bool = (List.range 13).map fun k : Nat => PyData.bool (k == j) := by unfold bitsN; rw [List.map_map]; rfl
          rw [← e]
          have L : LayN 2 (.tuple [.list ((bitsN j).map PyData.bool), .list (if j < 6 then [.int g] else []), .bool true]) := LayN.tup (LayN.three (LayN.lst fun d hd => by
            obtain ⟨b, _, rfl⟩ := List.mem_map.mp hd
            exact .bl b) (LayN.lst fun d hd => by
            split at hd
            · rw [List.mem_singleton.mp hd]; exact .int _
            · cases hd) (.bl _))
          refine ⟨by decide, L.1, L.1, L.dep (by decide) _, ?_⟩
          rw [L.same]
          exact iteNo ⟨j + 1, _, _, _, rfl, rfl⟩
      · rintro ρ _
        trivial
    rintro ρ _
    refine go ?_; decreasing_tactic
end
section
variable {P : Program} {w : World} {K : PySem.W.Frag} {mg : Str → Option Value} {base : Heap}
theorem all_mk {l : PySem.W.OpenLaw} {w : World} {K : PySem.W.Frag} {h : Heap} {mg : Str → Option Value} {fa : Addr} (X : K.In h) (G : h.Ns mainGlobals mg) (hfa : mg "law" = some (.ref fa))
    {f0 : Addr} {od0 an0 : Option Addr} {sl0 : Array (Option Value)} {oc0 kV0 dc0 pm0 cd0 ct0 : Value} (a0 : PySem.W.nsIn K mainGlobals "_law_hand" = some (some (.ref f0))) (l0 : K.lookup f0 = some ⟨oc0, od0, .func (PySem.W.fnOf "_law_hand" "_law_hand" (defArgs s_hand) (defBody s_hand) (defScope s_hand) .none kV0 dc0 pm0 an0 cd0 ct0), sl0⟩) (c0 : PySem.W.codeIn K cd0 "_law_hand" = true) (k0 : PySem.W.keepIn K (.ref f0) = true)
    {f1 : Addr} {od1 an1 : Option Addr} {sl1 : Array (Option Value)} {oc1 kV1 dc1 pm1 cd1 ct1 : Value} (a1 : PySem.W.nsIn K mainGlobals "_law_next" = some (some (.ref f1))) (l1 : K.lookup f1 = some ⟨oc1, od1, .func (PySem.W.fnOf "_law_next" "_law_next" (defArgs s_next) (defBody s_next) (defScope s_next) .none kV1 dc1 pm1 an1 cd1 ct1), sl1⟩) (c1 : PySem.W.codeIn K cd1 "_law_next" = true) (k1 : PySem.W.keepIn K (.ref f1) = true)
    {f2 : Addr} {od2 an2 : Option Addr} {sl2 : Array (Option Value)} {oc2 kV2 dc2 pm2 cd2 ct2 : Value} (a2 : PySem.W.nsIn K mainGlobals "_law_take" = some (some (.ref f2))) (l2 : K.lookup f2 = some ⟨oc2, od2, .func (PySem.W.fnOf "_law_take" "_law_take" (defArgs s_take) (defBody s_take) (defScope s_take) .none kV2 dc2 pm2 an2 cd2 ct2), sl2⟩) (c2 : PySem.W.codeIn K cd2 "_law_take" = true) (k2 : PySem.W.keepIn K (.ref f2) = true)
    {f3 : Addr} {od3 an3 : Option Addr} {sl3 : Array (Option Value)} {oc3 kV3 dc3 pm3 cd3 ct3 : Value} (a3 : PySem.W.nsIn K mainGlobals "_law_draw" = some (some (.ref f3))) (l3 : K.lookup f3 = some ⟨oc3, od3, .func (PySem.W.fnOf "_law_draw" "_law_draw" (defArgs s_draw) (defBody s_draw) (defScope s_draw) .none kV3 dc3 pm3 an3 cd3 ct3), sl3⟩) (c3 : PySem.W.codeIn K cd3 "_law_draw" = true) (k3 : PySem.W.keepIn K (.ref f3) = true)
    {f4 : Addr} {od4 an4 : Option Addr} {sl4 : Array (Option Value)} {oc4 kV4 dc4 pm4 cd4 ct4 : Value} (a4 : PySem.W.nsIn K mainGlobals "_law_raise" = some (some (.ref f4))) (l4 : K.lookup f4 = some ⟨oc4, od4, .func (PySem.W.fnOf "_law_raise" "_law_raise" (defArgs s_raise) (defBody s_raise) (defScope s_raise) .none kV4 dc4 pm4 an4 cd4 ct4), sl4⟩) (c4 : PySem.W.codeIn K cd4 "_law_raise" = true) (k4 : PySem.W.keepIn K (.ref f4) = true)
    {f5 : Addr} {od5 an5 : Option Addr} {sl5 : Array (Option Value)} {oc5 kV5 dc5 pm5 cd5 ct5 : Value} (a5 : PySem.W.nsIn K mainGlobals "_law_kinds" = some (some (.ref f5))) (l5 : K.lookup f5 = some ⟨oc5, od5, .func (PySem.W.fnOf "_law_kinds" "_law_kinds" (defArgs s_kinds) (defBody s_kinds) (defScope s_kinds) .none kV5 dc5 pm5 an5 cd5 ct5), sl5⟩) (c5 : PySem.W.codeIn K cd5 "_law_kinds" = true) (k5 : PySem.W.keepIn K (.ref f5) = true)
    {f6 : Addr} {od6 an6 : Option Addr} {sl6 : Array (Option Value)} {oc6 kV6 dc6 pm6 cd6 ct6 : Value} (a6 : PySem.W.nsIn K mainGlobals "_law_field" = some (some (.ref f6))) (l6 : K.lookup f6 = some ⟨oc6, od6, .func (PySem.W.fnOf "_law_field" "_law_field" (defArgs s_field) (defBody s_field) (defScope s_field) .none kV6 dc6 pm6 an6 cd6 ct6), sl6⟩) (c6 : PySem.W.codeIn K cd6 "_law_field" = true) (k6 : PySem.W.keepIn K (.ref f6) = true)
    {f7 : Addr} {od7 an7 : Option Addr} {sl7 : Array (Option Value)} {oc7 kV7 dc7 pm7 cd7 ct7 : Value} (a7 : PySem.W.nsIn K mainGlobals "_law_told" = some (some (.ref f7))) (l7 : K.lookup f7 = some ⟨oc7, od7, .func (PySem.W.fnOf "_law_told" "_law_told" (defArgs s_told) (defBody s_told) (defScope s_told) .none kV7 dc7 pm7 an7 cd7 ct7), sl7⟩) (c7 : PySem.W.codeIn K cd7 "_law_told" = true) (k7 : PySem.W.keepIn K (.ref f7) = true)
    {f8 : Addr} {od8 an8 : Option Addr} {sl8 : Array (Option Value)} {oc8 kV8 dc8 pm8 cd8 ct8 : Value} (a8 : PySem.W.nsIn K mainGlobals "law" = some (some (.ref f8))) (l8 : K.lookup f8 = some ⟨oc8, od8, .func (PySem.W.fnOf "law" "law" (defArgs s_law) (defBody s_law) (defScope s_law) .none kV8 dc8 pm8 an8 cd8 ct8), sl8⟩) (c8 : PySem.W.codeIn K cd8 "law" = true) (k8 : PySem.W.keepIn K (.ref f8) = true)
    (z_ValueError : PySem.W.nsIn K mainGlobals "ValueError" = some none)
    (z_abs : PySem.W.nsIn K mainGlobals "abs" = some none)
    (z_isinstance : PySem.W.nsIn K mainGlobals "isinstance" = some none)
    (z_len : PySem.W.nsIn K mainGlobals "len" = some none)
    (z_list : PySem.W.nsIn K mainGlobals "list" = some none)
    (z_range : PySem.W.nsIn K mainGlobals "range" = some none)
    {c_TrudgeError : Addr} (xa_TrudgeError : PySem.W.nsIn K mainGlobals "TrudgeError" = some (some (.ref c_TrudgeError)))
    {c_BadLand : Addr} (xa_BadLand : PySem.W.nsIn K mainGlobals "BadLand" = some (some (.ref c_BadLand)))
    {c_BadTrip : Addr} (xa_BadTrip : PySem.W.nsIn K mainGlobals "BadTrip" = some (some (.ref c_BadTrip)))
    {c_BadPlan : Addr} (xa_BadPlan : PySem.W.nsIn K mainGlobals "BadPlan" = some (some (.ref c_BadPlan)))
    {c_BadLabel : Addr} (xa_BadLabel : PySem.W.nsIn K mainGlobals "BadLabel" = some (some (.ref c_BadLabel)))
    {c_Taken : Addr} (xa_Taken : PySem.W.nsIn K mainGlobals "Taken" = some (some (.ref c_Taken)))
    {c_BadWay : Addr} (xa_BadWay : PySem.W.nsIn K mainGlobals "BadWay" = some (some (.ref c_BadWay)))
    {c_TooMany : Addr} (xa_TooMany : PySem.W.nsIn K mainGlobals "TooMany" = some (some (.ref c_TooMany)))
    {c_NoWay : Addr} (xa_NoWay : PySem.W.nsIn K mainGlobals "NoWay" = some (some (.ref c_NoWay)))
    {c_BadStore : Addr} (xa_BadStore : PySem.W.nsIn K mainGlobals "BadStore" = some (some (.ref c_BadStore)))
    {c_BadGoal : Addr} (xa_BadGoal : PySem.W.nsIn K mainGlobals "BadGoal" = some (some (.ref c_BadGoal)))
    {c_NoRow : Addr} (xa_NoRow : PySem.W.nsIn K mainGlobals "NoRow" = some (some (.ref c_NoRow)))
    {c_NoText : Addr} (xa_NoText : PySem.W.nsIn K mainGlobals "NoText" = some (some (.ref c_NoText)))
    {c_NoLand : Addr} (xa_NoLand : PySem.W.nsIn K mainGlobals "NoLand" = some (some (.ref c_NoLand)))
    {xdd_TrudgeError : Option Addr} {xcd_TrudgeError : ClassData} {xsl_TrudgeError : Array (Option Value)} (xl_TrudgeError : K.lookup c_TrudgeError = some ⟨.type "type", xdd_TrudgeError, .cls xcd_TrudgeError, xsl_TrudgeError⟩)
    {xdd_BadLand : Option Addr} {xcd_BadLand : ClassData} {xsl_BadLand : Array (Option Value)} (xl_BadLand : K.lookup c_BadLand = some ⟨.type "type", xdd_BadLand, .cls xcd_BadLand, xsl_BadLand⟩)
    {xdd_BadTrip : Option Addr} {xcd_BadTrip : ClassData} {xsl_BadTrip : Array (Option Value)} (xl_BadTrip : K.lookup c_BadTrip = some ⟨.type "type", xdd_BadTrip, .cls xcd_BadTrip, xsl_BadTrip⟩)
    {xdd_BadPlan : Option Addr} {xcd_BadPlan : ClassData} {xsl_BadPlan : Array (Option Value)} (xl_BadPlan : K.lookup c_BadPlan = some ⟨.type "type", xdd_BadPlan, .cls xcd_BadPlan, xsl_BadPlan⟩)
    {xdd_BadLabel : Option Addr} {xcd_BadLabel : ClassData} {xsl_BadLabel : Array (Option Value)} (xl_BadLabel : K.lookup c_BadLabel = some ⟨.type "type", xdd_BadLabel, .cls xcd_BadLabel, xsl_BadLabel⟩)
    {xdd_Taken : Option Addr} {xcd_Taken : ClassData} {xsl_Taken : Array (Option Value)} (xl_Taken : K.lookup c_Taken = some ⟨.type "type", xdd_Taken, .cls xcd_Taken, xsl_Taken⟩)
    {xdd_BadWay : Option Addr} {xcd_BadWay : ClassData} {xsl_BadWay : Array (Option Value)} (xl_BadWay : K.lookup c_BadWay = some ⟨.type "type", xdd_BadWay, .cls xcd_BadWay, xsl_BadWay⟩)
    {xdd_TooMany : Option Addr} {xcd_TooMany : ClassData} {xsl_TooMany : Array (Option Value)} (xl_TooMany : K.lookup c_TooMany = some ⟨.type "type", xdd_TooMany, .cls xcd_TooMany, xsl_TooMany⟩)
    {xdd_NoWay : Option Addr} {xcd_NoWay : ClassData} {xsl_NoWay : Array (Option Value)} (xl_NoWay : K.lookup c_NoWay = some ⟨.type "type", xdd_NoWay, .cls xcd_NoWay, xsl_NoWay⟩)
    {xdd_BadStore : Option Addr} {xcd_BadStore : ClassData} {xsl_BadStore : Array (Option Value)} (xl_BadStore : K.lookup c_BadStore = some ⟨.type "type", xdd_BadStore, .cls xcd_BadStore, xsl_BadStore⟩)
    {xdd_BadGoal : Option Addr} {xcd_BadGoal : ClassData} {xsl_BadGoal : Array (Option Value)} (xl_BadGoal : K.lookup c_BadGoal = some ⟨.type "type", xdd_BadGoal, .cls xcd_BadGoal, xsl_BadGoal⟩)
    {xdd_NoRow : Option Addr} {xcd_NoRow : ClassData} {xsl_NoRow : Array (Option Value)} (xl_NoRow : K.lookup c_NoRow = some ⟨.type "type", xdd_NoRow, .cls xcd_NoRow, xsl_NoRow⟩)
    {xdd_NoText : Option Addr} {xcd_NoText : ClassData} {xsl_NoText : Array (Option Value)} (xl_NoText : K.lookup c_NoText = some ⟨.type "type", xdd_NoText, .cls xcd_NoText, xsl_NoText⟩)
    {xdd_NoLand : Option Addr} {xcd_NoLand : ClassData} {xsl_NoLand : Array (Option Value)} (xl_NoLand : K.lookup c_NoLand = some ⟨.type "type", xdd_NoLand, .cls xcd_NoLand, xsl_NoLand⟩)
    {xTN : Addr} {xoc2 : Value} {xod2 : Option Addr} {xes2 : Array DictEntry} {xep2 : Nat} {xsl2 : Array (Option Value)} (xn4 : xcd_TrudgeError.ns = xTN) (xe5 : K.lookup xTN = some ⟨xoc2, xod2, .dict xes2 xep2, xsl2⟩) (xa5 : (xes2.toList.all fun e => match e.key with | .str _ _ => true | _ => false) = true) (xe6 : PySem.W.nsIn K xTN "__init__" = some none) (xm4 : PySem.W.mroIn K c_TrudgeError (.type "BaseException") = some true) (xhn : PySem.W.specialIn K (.builtin "object.__class__") "__get__" = some (some (.builtin "getset_descriptor.__get__"))) (xtk : PySem.W.takesIn K (.builtin "object.__class__") = some true)
    {yN_BadLand yxi_BadLand : Addr} {ynm_BadLand yq_BadLand : Str} {ybs_BadLand : List Value} {ysn_BadLand : List Str} {ysub_BadLand : List Value} {yab_BadLand : Bool} {ycol_BadLand : Option Bool} {ydd_BadLand : Option Addr} {yk0_BadLand yk1_BadLand yk2_BadLand yk3_BadLand yk5_BadLand : Option Value} {yoc_BadLand : Value} {yod_BadLand : Option Addr} {yes_BadLand : Array DictEntry} {yep_BadLand : Nat} {ysl_BadLand : Array (Option Value)}
    {zoc_BadLand zkV_BadLand zdc_BadLand zpm_BadLand zcd_BadLand zct_BadLand : Value} {zod_BadLand zan_BadLand : Option Addr} {zsl_BadLand : Array (Option Value)}
    (y1_BadLand : K.lookup c_BadLand = some (excClassObj ynm_BadLand yq_BadLand c_BadLand yN_BadLand ybs_BadLand (.ref c_TrudgeError :: VE) true ysn_BadLand ysub_BadLand yab_BadLand ycol_BadLand ydd_BadLand yk0_BadLand yk1_BadLand yk2_BadLand yk3_BadLand yk5_BadLand "ValueError.__new__"))
    (y2_BadLand : K.lookup yN_BadLand = some ⟨yoc_BadLand, yod_BadLand, .dict yes_BadLand yep_BadLand, ysl_BadLand⟩) (y3_BadLand : (yes_BadLand.toList.all fun e => match e.key with | .str _ _ => true | _ => false) = true)
    (y4_BadLand : PySem.W.keepIn K (.ref c_BadLand) = true) (y5_BadLand : PySem.W.findIn K (.ref c_BadLand) "__init__" = some (some (.ref yxi_BadLand))) (y6_BadLand : PySem.W.typeIn K (.ref yxi_BadLand) = some (.type "function"))
    (y7_BadLand : PySem.W.findIn K (.ref c_BadLand) "__setattr__" = some (some (.builtin "object.__setattr__"))) (y8_BadLand : PySem.W.findIn K (.ref c_BadLand) "at" = some none)
    (y9_BadLand : PySem.W.findIn K (.ref c_BadLand) "__getattribute__" = some (some (.builtin "BaseException.__getattribute__"))) (ya_BadLand : PySem.W.findIn K (.ref c_BadLand) "__getattr__" = some none)
    (yb_BadLand : PySem.W.hasDictIn K c_BadLand = true) (yc_BadLand : PySem.W.findIn K (.ref c_BadLand) "__class__" = some (some (.builtin "object.__class__")))
    (yd_BadLand : PySem.W.mroIn K c_BadLand (.type "object") = some true) (ye_BadLand : PySem.W.mroIn K c_BadLand (.type "ValueError") = some true) (yf_BadLand : PySem.W.mroIn K c_BadLand (.ref c_TrudgeError) = some true)
    (z1_BadLand : K.lookup yxi_BadLand = some ⟨zoc_BadLand, zod_BadLand, .func (PySem.W.fnOf "__init__" "BadLand.__init__" (defArgs i_BadLand) (defBody i_BadLand) (defScope i_BadLand) .none zkV_BadLand zdc_BadLand zpm_BadLand zan_BadLand zcd_BadLand zct_BadLand), zsl_BadLand⟩) (z2_BadLand : PySem.W.codeIn K zcd_BadLand "BadLand.__init__" = true) (z3_BadLand : PySem.W.keepIn K (.ref yxi_BadLand) = true)
    {yN_BadTrip yxi_BadTrip : Addr} {ynm_BadTrip yq_BadTrip : Str} {ybs_BadTrip : List Value} {ysn_BadTrip : List Str} {ysub_BadTrip : List Value} {yab_BadTrip : Bool} {ycol_BadTrip : Option Bool} {ydd_BadTrip : Option Addr} {yk0_BadTrip yk1_BadTrip yk2_BadTrip yk3_BadTrip yk5_BadTrip : Option Value} {yoc_BadTrip : Value} {yod_BadTrip : Option Addr} {yes_BadTrip : Array DictEntry} {yep_BadTrip : Nat} {ysl_BadTrip : Array (Option Value)}
    {zoc_BadTrip zkV_BadTrip zdc_BadTrip zpm_BadTrip zcd_BadTrip zct_BadTrip : Value} {zod_BadTrip zan_BadTrip : Option Addr} {zsl_BadTrip : Array (Option Value)}
    (y1_BadTrip : K.lookup c_BadTrip = some (excClassObj ynm_BadTrip yq_BadTrip c_BadTrip yN_BadTrip ybs_BadTrip (.ref c_TrudgeError :: VE) true ysn_BadTrip ysub_BadTrip yab_BadTrip ycol_BadTrip ydd_BadTrip yk0_BadTrip yk1_BadTrip yk2_BadTrip yk3_BadTrip yk5_BadTrip "ValueError.__new__"))
    (y2_BadTrip : K.lookup yN_BadTrip = some ⟨yoc_BadTrip, yod_BadTrip, .dict yes_BadTrip yep_BadTrip, ysl_BadTrip⟩) (y3_BadTrip : (yes_BadTrip.toList.all fun e => match e.key with | .str _ _ => true | _ => false) = true)
    (y4_BadTrip : PySem.W.keepIn K (.ref c_BadTrip) = true) (y5_BadTrip : PySem.W.findIn K (.ref c_BadTrip) "__init__" = some (some (.ref yxi_BadTrip))) (y6_BadTrip : PySem.W.typeIn K (.ref yxi_BadTrip) = some (.type "function"))
    (y7_BadTrip : PySem.W.findIn K (.ref c_BadTrip) "__setattr__" = some (some (.builtin "object.__setattr__"))) (y8_BadTrip : PySem.W.findIn K (.ref c_BadTrip) "at" = some none)
    (y9_BadTrip : PySem.W.findIn K (.ref c_BadTrip) "__getattribute__" = some (some (.builtin "BaseException.__getattribute__"))) (ya_BadTrip : PySem.W.findIn K (.ref c_BadTrip) "__getattr__" = some none)
    (yb_BadTrip : PySem.W.hasDictIn K c_BadTrip = true) (yc_BadTrip : PySem.W.findIn K (.ref c_BadTrip) "__class__" = some (some (.builtin "object.__class__")))
    (yd_BadTrip : PySem.W.mroIn K c_BadTrip (.type "object") = some true) (ye_BadTrip : PySem.W.mroIn K c_BadTrip (.type "ValueError") = some true) (yf_BadTrip : PySem.W.mroIn K c_BadTrip (.ref c_TrudgeError) = some true)
    (z1_BadTrip : K.lookup yxi_BadTrip = some ⟨zoc_BadTrip, zod_BadTrip, .func (PySem.W.fnOf "__init__" "BadTrip.__init__" (defArgs i_BadTrip) (defBody i_BadTrip) (defScope i_BadTrip) .none zkV_BadTrip zdc_BadTrip zpm_BadTrip zan_BadTrip zcd_BadTrip zct_BadTrip), zsl_BadTrip⟩) (z2_BadTrip : PySem.W.codeIn K zcd_BadTrip "BadTrip.__init__" = true) (z3_BadTrip : PySem.W.keepIn K (.ref yxi_BadTrip) = true)
    {yN_BadPlan yxi_BadPlan : Addr} {ynm_BadPlan yq_BadPlan : Str} {ybs_BadPlan : List Value} {ysn_BadPlan : List Str} {ysub_BadPlan : List Value} {yab_BadPlan : Bool} {ycol_BadPlan : Option Bool} {ydd_BadPlan : Option Addr} {yk0_BadPlan yk1_BadPlan yk2_BadPlan yk3_BadPlan yk5_BadPlan : Option Value} {yoc_BadPlan : Value} {yod_BadPlan : Option Addr} {yes_BadPlan : Array DictEntry} {yep_BadPlan : Nat} {ysl_BadPlan : Array (Option Value)}
    {zoc_BadPlan zkV_BadPlan zdc_BadPlan zpm_BadPlan zcd_BadPlan zct_BadPlan : Value} {zod_BadPlan zan_BadPlan : Option Addr} {zsl_BadPlan : Array (Option Value)}
    (y1_BadPlan : K.lookup c_BadPlan = some (excClassObj ynm_BadPlan yq_BadPlan c_BadPlan yN_BadPlan ybs_BadPlan (.ref c_TrudgeError :: VE) true ysn_BadPlan ysub_BadPlan yab_BadPlan ycol_BadPlan ydd_BadPlan yk0_BadPlan yk1_BadPlan yk2_BadPlan yk3_BadPlan yk5_BadPlan "ValueError.__new__"))
    (y2_BadPlan : K.lookup yN_BadPlan = some ⟨yoc_BadPlan, yod_BadPlan, .dict yes_BadPlan yep_BadPlan, ysl_BadPlan⟩) (y3_BadPlan : (yes_BadPlan.toList.all fun e => match e.key with | .str _ _ => true | _ => false) = true)
    (y4_BadPlan : PySem.W.keepIn K (.ref c_BadPlan) = true) (y5_BadPlan : PySem.W.findIn K (.ref c_BadPlan) "__init__" = some (some (.ref yxi_BadPlan))) (y6_BadPlan : PySem.W.typeIn K (.ref yxi_BadPlan) = some (.type "function"))
    (y7_BadPlan : PySem.W.findIn K (.ref c_BadPlan) "__setattr__" = some (some (.builtin "object.__setattr__"))) (y8_BadPlan : PySem.W.findIn K (.ref c_BadPlan) "at" = some none)
    (y9_BadPlan : PySem.W.findIn K (.ref c_BadPlan) "__getattribute__" = some (some (.builtin "BaseException.__getattribute__"))) (ya_BadPlan : PySem.W.findIn K (.ref c_BadPlan) "__getattr__" = some none)
    (yb_BadPlan : PySem.W.hasDictIn K c_BadPlan = true) (yc_BadPlan : PySem.W.findIn K (.ref c_BadPlan) "__class__" = some (some (.builtin "object.__class__")))
    (yd_BadPlan : PySem.W.mroIn K c_BadPlan (.type "object") = some true) (ye_BadPlan : PySem.W.mroIn K c_BadPlan (.type "ValueError") = some true) (yf_BadPlan : PySem.W.mroIn K c_BadPlan (.ref c_TrudgeError) = some true)
    (z1_BadPlan : K.lookup yxi_BadPlan = some ⟨zoc_BadPlan, zod_BadPlan, .func (PySem.W.fnOf "__init__" "BadPlan.__init__" (defArgs i_BadPlan) (defBody i_BadPlan) (defScope i_BadPlan) .none zkV_BadPlan zdc_BadPlan zpm_BadPlan zan_BadPlan zcd_BadPlan zct_BadPlan), zsl_BadPlan⟩) (z2_BadPlan : PySem.W.codeIn K zcd_BadPlan "BadPlan.__init__" = true) (z3_BadPlan : PySem.W.keepIn K (.ref yxi_BadPlan) = true)
    {yN_Taken yxi_Taken : Addr} {ynm_Taken yq_Taken : Str} {ybs_Taken : List Value} {ysn_Taken : List Str} {ysub_Taken : List Value} {yab_Taken : Bool} {ycol_Taken : Option Bool} {ydd_Taken : Option Addr} {yk0_Taken yk1_Taken yk2_Taken yk3_Taken yk5_Taken : Option Value} {yoc_Taken : Value} {yod_Taken : Option Addr} {yes_Taken : Array DictEntry} {yep_Taken : Nat} {ysl_Taken : Array (Option Value)}
    {zoc_Taken zkV_Taken zdc_Taken zpm_Taken zcd_Taken zct_Taken : Value} {zod_Taken zan_Taken : Option Addr} {zsl_Taken : Array (Option Value)}
    (y1_Taken : K.lookup c_Taken = some (excClassObj ynm_Taken yq_Taken c_Taken yN_Taken ybs_Taken (.ref c_TrudgeError :: VE) true ysn_Taken ysub_Taken yab_Taken ycol_Taken ydd_Taken yk0_Taken yk1_Taken yk2_Taken yk3_Taken yk5_Taken "ValueError.__new__"))
    (y2_Taken : K.lookup yN_Taken = some ⟨yoc_Taken, yod_Taken, .dict yes_Taken yep_Taken, ysl_Taken⟩) (y3_Taken : (yes_Taken.toList.all fun e => match e.key with | .str _ _ => true | _ => false) = true)
    (y4_Taken : PySem.W.keepIn K (.ref c_Taken) = true) (y5_Taken : PySem.W.findIn K (.ref c_Taken) "__init__" = some (some (.ref yxi_Taken))) (y6_Taken : PySem.W.typeIn K (.ref yxi_Taken) = some (.type "function"))
    (y7_Taken : PySem.W.findIn K (.ref c_Taken) "__setattr__" = some (some (.builtin "object.__setattr__"))) (y8_Taken : PySem.W.findIn K (.ref c_Taken) "label" = some none)
    (y9_Taken : PySem.W.findIn K (.ref c_Taken) "__getattribute__" = some (some (.builtin "BaseException.__getattribute__"))) (ya_Taken : PySem.W.findIn K (.ref c_Taken) "__getattr__" = some none)
    (yb_Taken : PySem.W.hasDictIn K c_Taken = true) (yc_Taken : PySem.W.findIn K (.ref c_Taken) "__class__" = some (some (.builtin "object.__class__")))
    (yd_Taken : PySem.W.mroIn K c_Taken (.type "object") = some true) (ye_Taken : PySem.W.mroIn K c_Taken (.type "ValueError") = some true) (yf_Taken : PySem.W.mroIn K c_Taken (.ref c_TrudgeError) = some true)
    (z1_Taken : K.lookup yxi_Taken = some ⟨zoc_Taken, zod_Taken, .func (PySem.W.fnOf "__init__" "Taken.__init__" (defArgs i_Taken) (defBody i_Taken) (defScope i_Taken) .none zkV_Taken zdc_Taken zpm_Taken zan_Taken zcd_Taken zct_Taken), zsl_Taken⟩) (z2_Taken : PySem.W.codeIn K zcd_Taken "Taken.__init__" = true) (z3_Taken : PySem.W.keepIn K (.ref yxi_Taken) = true)
    {yN_NoWay yxi_NoWay : Addr} {ynm_NoWay yq_NoWay : Str} {ybs_NoWay : List Value} {ysn_NoWay : List Str} {ysub_NoWay : List Value} {yab_NoWay : Bool} {ycol_NoWay : Option Bool} {ydd_NoWay : Option Addr} {yk0_NoWay yk1_NoWay yk2_NoWay yk3_NoWay yk5_NoWay : Option Value} {yoc_NoWay : Value} {yod_NoWay : Option Addr} {yes_NoWay : Array DictEntry} {yep_NoWay : Nat} {ysl_NoWay : Array (Option Value)}
    {zoc_NoWay zkV_NoWay zdc_NoWay zpm_NoWay zcd_NoWay zct_NoWay : Value} {zod_NoWay zan_NoWay : Option Addr} {zsl_NoWay : Array (Option Value)}
    (y1_NoWay : K.lookup c_NoWay = some (excClassObj ynm_NoWay yq_NoWay c_NoWay yN_NoWay ybs_NoWay (.ref c_TrudgeError :: VE) true ysn_NoWay ysub_NoWay yab_NoWay ycol_NoWay ydd_NoWay yk0_NoWay yk1_NoWay yk2_NoWay yk3_NoWay yk5_NoWay "ValueError.__new__"))
    (y2_NoWay : K.lookup yN_NoWay = some ⟨yoc_NoWay, yod_NoWay, .dict yes_NoWay yep_NoWay, ysl_NoWay⟩) (y3_NoWay : (yes_NoWay.toList.all fun e => match e.key with | .str _ _ => true | _ => false) = true)
    (y4_NoWay : PySem.W.keepIn K (.ref c_NoWay) = true) (y5_NoWay : PySem.W.findIn K (.ref c_NoWay) "__init__" = some (some (.ref yxi_NoWay))) (y6_NoWay : PySem.W.typeIn K (.ref yxi_NoWay) = some (.type "function"))
    (y7_NoWay : PySem.W.findIn K (.ref c_NoWay) "__setattr__" = some (some (.builtin "object.__setattr__"))) (y8_NoWay : PySem.W.findIn K (.ref c_NoWay) "label" = some none)
    (y9_NoWay : PySem.W.findIn K (.ref c_NoWay) "__getattribute__" = some (some (.builtin "BaseException.__getattribute__"))) (ya_NoWay : PySem.W.findIn K (.ref c_NoWay) "__getattr__" = some none)
    (yb_NoWay : PySem.W.hasDictIn K c_NoWay = true) (yc_NoWay : PySem.W.findIn K (.ref c_NoWay) "__class__" = some (some (.builtin "object.__class__")))
    (yd_NoWay : PySem.W.mroIn K c_NoWay (.type "object") = some true) (ye_NoWay : PySem.W.mroIn K c_NoWay (.type "ValueError") = some true) (yf_NoWay : PySem.W.mroIn K c_NoWay (.ref c_TrudgeError) = some true)
    (z1_NoWay : K.lookup yxi_NoWay = some ⟨zoc_NoWay, zod_NoWay, .func (PySem.W.fnOf "__init__" "NoWay.__init__" (defArgs i_NoWay) (defBody i_NoWay) (defScope i_NoWay) .none zkV_NoWay zdc_NoWay zpm_NoWay zan_NoWay zcd_NoWay zct_NoWay), zsl_NoWay⟩) (z2_NoWay : PySem.W.codeIn K zcd_NoWay "NoWay.__init__" = true) (z3_NoWay : PySem.W.keepIn K (.ref yxi_NoWay) = true)
    {yN_TooMany yxi_TooMany : Addr} {ynm_TooMany yq_TooMany : Str} {ybs_TooMany : List Value} {ysn_TooMany : List Str} {ysub_TooMany : List Value} {yab_TooMany : Bool} {ycol_TooMany : Option Bool} {ydd_TooMany : Option Addr} {yk0_TooMany yk1_TooMany yk2_TooMany yk3_TooMany yk5_TooMany : Option Value} {yoc_TooMany : Value} {yod_TooMany : Option Addr} {yes_TooMany : Array DictEntry} {yep_TooMany : Nat} {ysl_TooMany : Array (Option Value)}
    {zoc_TooMany zkV_TooMany zdc_TooMany zpm_TooMany zcd_TooMany zct_TooMany : Value} {zod_TooMany zan_TooMany : Option Addr} {zsl_TooMany : Array (Option Value)}
    (y1_TooMany : K.lookup c_TooMany = some (excClassObj ynm_TooMany yq_TooMany c_TooMany yN_TooMany ybs_TooMany (.ref c_TrudgeError :: VE) true ysn_TooMany ysub_TooMany yab_TooMany ycol_TooMany ydd_TooMany yk0_TooMany yk1_TooMany yk2_TooMany yk3_TooMany yk5_TooMany "ValueError.__new__"))
    (y2_TooMany : K.lookup yN_TooMany = some ⟨yoc_TooMany, yod_TooMany, .dict yes_TooMany yep_TooMany, ysl_TooMany⟩) (y3_TooMany : (yes_TooMany.toList.all fun e => match e.key with | .str _ _ => true | _ => false) = true)
    (y4_TooMany : PySem.W.keepIn K (.ref c_TooMany) = true) (y5_TooMany : PySem.W.findIn K (.ref c_TooMany) "__init__" = some (some (.ref yxi_TooMany))) (y6_TooMany : PySem.W.typeIn K (.ref yxi_TooMany) = some (.type "function"))
    (y7_TooMany : PySem.W.findIn K (.ref c_TooMany) "__setattr__" = some (some (.builtin "object.__setattr__"))) (y8_TooMany : PySem.W.findIn K (.ref c_TooMany) "most" = some none)
    (y9_TooMany : PySem.W.findIn K (.ref c_TooMany) "__getattribute__" = some (some (.builtin "BaseException.__getattribute__"))) (ya_TooMany : PySem.W.findIn K (.ref c_TooMany) "__getattr__" = some none)
    (yb_TooMany : PySem.W.hasDictIn K c_TooMany = true) (yc_TooMany : PySem.W.findIn K (.ref c_TooMany) "__class__" = some (some (.builtin "object.__class__")))
    (yd_TooMany : PySem.W.mroIn K c_TooMany (.type "object") = some true) (ye_TooMany : PySem.W.mroIn K c_TooMany (.type "ValueError") = some true) (yf_TooMany : PySem.W.mroIn K c_TooMany (.ref c_TrudgeError) = some true)
    (z1_TooMany : K.lookup yxi_TooMany = some ⟨zoc_TooMany, zod_TooMany, .func (PySem.W.fnOf "__init__" "TooMany.__init__" (defArgs i_TooMany) (defBody i_TooMany) (defScope i_TooMany) .none zkV_TooMany zdc_TooMany zpm_TooMany zan_TooMany zcd_TooMany zct_TooMany), zsl_TooMany⟩) (z2_TooMany : PySem.W.codeIn K zcd_TooMany "TooMany.__init__" = true) (z3_TooMany : PySem.W.keepIn K (.ref yxi_TooMany) = true)
    {yN_NoLand : Addr} {ynm_NoLand yq_NoLand : Str} {ybs_NoLand : List Value} {ysn_NoLand : List Str} {ysub_NoLand : List Value} {yab_NoLand : Bool} {ycol_NoLand : Option Bool} {ydd_NoLand : Option Addr} {yk0_NoLand yk1_NoLand yk2_NoLand yk3_NoLand yk5_NoLand : Option Value} {yoc_NoLand : Value} {yod_NoLand : Option Addr} {yes_NoLand : Array DictEntry} {yep_NoLand : Nat} {ysl_NoLand : Array (Option Value)}
    (y1_NoLand : K.lookup c_NoLand = some (excClassObj ynm_NoLand yq_NoLand c_NoLand yN_NoLand ybs_NoLand (.ref c_TrudgeError :: VE) true ysn_NoLand ysub_NoLand yab_NoLand ycol_NoLand ydd_NoLand yk0_NoLand yk1_NoLand yk2_NoLand yk3_NoLand yk5_NoLand "ValueError.__new__"))
    (y2_NoLand : K.lookup yN_NoLand = some ⟨yoc_NoLand, yod_NoLand, .dict yes_NoLand yep_NoLand, ysl_NoLand⟩) (y3_NoLand : (yes_NoLand.toList.all fun e => match e.key with | .str _ _ => true | _ => false) = true) (y5_NoLand : PySem.W.nsIn K yN_NoLand "__init__" = some none)
    (y4_NoLand : PySem.W.keepIn K (.ref c_NoLand) = true)
    (y9_NoLand : PySem.W.findIn K (.ref c_NoLand) "__getattribute__" = some (some (.builtin "BaseException.__getattribute__"))) (ya_NoLand : PySem.W.findIn K (.ref c_NoLand) "__getattr__" = some none)
    (yb_NoLand : PySem.W.hasDictIn K c_NoLand = true) (yc_NoLand : PySem.W.findIn K (.ref c_NoLand) "__class__" = some (some (.builtin "object.__class__")))
    (yd_NoLand : PySem.W.mroIn K c_NoLand (.type "object") = some true) (ye_NoLand : PySem.W.mroIn K c_NoLand (.type "ValueError") = some true) (yf_NoLand : PySem.W.mroIn K c_NoLand (.ref c_TrudgeError) = some true)
    {yN_BadLabel : Addr} {ynm_BadLabel yq_BadLabel : Str} {ybs_BadLabel : List Value} {ysn_BadLabel : List Str} {ysub_BadLabel : List Value} {yab_BadLabel : Bool} {ycol_BadLabel : Option Bool} {ydd_BadLabel : Option Addr} {yk0_BadLabel yk1_BadLabel yk2_BadLabel yk3_BadLabel yk5_BadLabel : Option Value} {yoc_BadLabel : Value} {yod_BadLabel : Option Addr} {yes_BadLabel : Array DictEntry} {yep_BadLabel : Nat} {ysl_BadLabel : Array (Option Value)}
    (y1_BadLabel : K.lookup c_BadLabel = some (excClassObj ynm_BadLabel yq_BadLabel c_BadLabel yN_BadLabel ybs_BadLabel (.ref c_TrudgeError :: VE) true ysn_BadLabel ysub_BadLabel yab_BadLabel ycol_BadLabel ydd_BadLabel yk0_BadLabel yk1_BadLabel yk2_BadLabel yk3_BadLabel yk5_BadLabel "ValueError.__new__"))
    (y2_BadLabel : K.lookup yN_BadLabel = some ⟨yoc_BadLabel, yod_BadLabel, .dict yes_BadLabel yep_BadLabel, ysl_BadLabel⟩) (y3_BadLabel : (yes_BadLabel.toList.all fun e => match e.key with | .str _ _ => true | _ => false) = true) (y5_BadLabel : PySem.W.nsIn K yN_BadLabel "__init__" = some none)
    (y4_BadLabel : PySem.W.keepIn K (.ref c_BadLabel) = true)
    (y9_BadLabel : PySem.W.findIn K (.ref c_BadLabel) "__getattribute__" = some (some (.builtin "BaseException.__getattribute__"))) (ya_BadLabel : PySem.W.findIn K (.ref c_BadLabel) "__getattr__" = some none)
    (yb_BadLabel : PySem.W.hasDictIn K c_BadLabel = true) (yc_BadLabel : PySem.W.findIn K (.ref c_BadLabel) "__class__" = some (some (.builtin "object.__class__")))
    (yd_BadLabel : PySem.W.mroIn K c_BadLabel (.type "object") = some true) (ye_BadLabel : PySem.W.mroIn K c_BadLabel (.type "ValueError") = some true) (yf_BadLabel : PySem.W.mroIn K c_BadLabel (.ref c_TrudgeError) = some true)
    {yN_BadWay : Addr} {ynm_BadWay yq_BadWay : Str} {ybs_BadWay : List Value} {ysn_BadWay : List Str} {ysub_BadWay : List Value} {yab_BadWay : Bool} {ycol_BadWay : Option Bool} {ydd_BadWay : Option Addr} {yk0_BadWay yk1_BadWay yk2_BadWay yk3_BadWay yk5_BadWay : Option Value} {yoc_BadWay : Value} {yod_BadWay : Option Addr} {yes_BadWay : Array DictEntry} {yep_BadWay : Nat} {ysl_BadWay : Array (Option Value)}
    (y1_BadWay : K.lookup c_BadWay = some (excClassObj ynm_BadWay yq_BadWay c_BadWay yN_BadWay ybs_BadWay (.ref c_TrudgeError :: VE) true ysn_BadWay ysub_BadWay yab_BadWay ycol_BadWay ydd_BadWay yk0_BadWay yk1_BadWay yk2_BadWay yk3_BadWay yk5_BadWay "ValueError.__new__"))
    (y2_BadWay : K.lookup yN_BadWay = some ⟨yoc_BadWay, yod_BadWay, .dict yes_BadWay yep_BadWay, ysl_BadWay⟩) (y3_BadWay : (yes_BadWay.toList.all fun e => match e.key with | .str _ _ => true | _ => false) = true) (y5_BadWay : PySem.W.nsIn K yN_BadWay "__init__" = some none)
    (y4_BadWay : PySem.W.keepIn K (.ref c_BadWay) = true)
    (y9_BadWay : PySem.W.findIn K (.ref c_BadWay) "__getattribute__" = some (some (.builtin "BaseException.__getattribute__"))) (ya_BadWay : PySem.W.findIn K (.ref c_BadWay) "__getattr__" = some none)
    (yb_BadWay : PySem.W.hasDictIn K c_BadWay = true) (yc_BadWay : PySem.W.findIn K (.ref c_BadWay) "__class__" = some (some (.builtin "object.__class__")))
    (yd_BadWay : PySem.W.mroIn K c_BadWay (.type "object") = some true) (ye_BadWay : PySem.W.mroIn K c_BadWay (.type "ValueError") = some true) (yf_BadWay : PySem.W.mroIn K c_BadWay (.ref c_TrudgeError) = some true)
    {yN_BadStore : Addr} {ynm_BadStore yq_BadStore : Str} {ybs_BadStore : List Value} {ysn_BadStore : List Str} {ysub_BadStore : List Value} {yab_BadStore : Bool} {ycol_BadStore : Option Bool} {ydd_BadStore : Option Addr} {yk0_BadStore yk1_BadStore yk2_BadStore yk3_BadStore yk5_BadStore : Option Value} {yoc_BadStore : Value} {yod_BadStore : Option Addr} {yes_BadStore : Array DictEntry} {yep_BadStore : Nat} {ysl_BadStore : Array (Option Value)}
    (y1_BadStore : K.lookup c_BadStore = some (excClassObj ynm_BadStore yq_BadStore c_BadStore yN_BadStore ybs_BadStore (.ref c_TrudgeError :: VE) true ysn_BadStore ysub_BadStore yab_BadStore ycol_BadStore ydd_BadStore yk0_BadStore yk1_BadStore yk2_BadStore yk3_BadStore yk5_BadStore "ValueError.__new__"))
    (y2_BadStore : K.lookup yN_BadStore = some ⟨yoc_BadStore, yod_BadStore, .dict yes_BadStore yep_BadStore, ysl_BadStore⟩) (y3_BadStore : (yes_BadStore.toList.all fun e => match e.key with | .str _ _ => true | _ => false) = true) (y5_BadStore : PySem.W.nsIn K yN_BadStore "__init__" = some none)
    (y4_BadStore : PySem.W.keepIn K (.ref c_BadStore) = true)
    (y9_BadStore : PySem.W.findIn K (.ref c_BadStore) "__getattribute__" = some (some (.builtin "BaseException.__getattribute__"))) (ya_BadStore : PySem.W.findIn K (.ref c_BadStore) "__getattr__" = some none)
    (yb_BadStore : PySem.W.hasDictIn K c_BadStore = true) (yc_BadStore : PySem.W.findIn K (.ref c_BadStore) "__class__" = some (some (.builtin "object.__class__")))
    (yd_BadStore : PySem.W.mroIn K c_BadStore (.type "object") = some true) (ye_BadStore : PySem.W.mroIn K c_BadStore (.type "ValueError") = some true) (yf_BadStore : PySem.W.mroIn K c_BadStore (.ref c_TrudgeError) = some true)
    {yN_BadGoal : Addr} {ynm_BadGoal yq_BadGoal : Str} {ybs_BadGoal : List Value} {ysn_BadGoal : List Str} {ysub_BadGoal : List Value} {yab_BadGoal : Bool} {ycol_BadGoal : Option Bool} {ydd_BadGoal : Option Addr} {yk0_BadGoal yk1_BadGoal yk2_BadGoal yk3_BadGoal yk5_BadGoal : Option Value} {yoc_BadGoal : Value} {yod_BadGoal : Option Addr} {yes_BadGoal : Array DictEntry} {yep_BadGoal : Nat} {ysl_BadGoal : Array (Option Value)}
    (y1_BadGoal : K.lookup c_BadGoal = some (excClassObj ynm_BadGoal yq_BadGoal c_BadGoal yN_BadGoal ybs_BadGoal (.ref c_TrudgeError :: VE) true ysn_BadGoal ysub_BadGoal yab_BadGoal ycol_BadGoal ydd_BadGoal yk0_BadGoal yk1_BadGoal yk2_BadGoal yk3_BadGoal yk5_BadGoal "ValueError.__new__"))
    (y2_BadGoal : K.lookup yN_BadGoal = some ⟨yoc_BadGoal, yod_BadGoal, .dict yes_BadGoal yep_BadGoal, ysl_BadGoal⟩) (y3_BadGoal : (yes_BadGoal.toList.all fun e => match e.key with | .str _ _ => true | _ => false) = true) (y5_BadGoal : PySem.W.nsIn K yN_BadGoal "__init__" = some none)
    (y4_BadGoal : PySem.W.keepIn K (.ref c_BadGoal) = true)
    (y9_BadGoal : PySem.W.findIn K (.ref c_BadGoal) "__getattribute__" = some (some (.builtin "BaseException.__getattribute__"))) (ya_BadGoal : PySem.W.findIn K (.ref c_BadGoal) "__getattr__" = some none)
    (yb_BadGoal : PySem.W.hasDictIn K c_BadGoal = true) (yc_BadGoal : PySem.W.findIn K (.ref c_BadGoal) "__class__" = some (some (.builtin "object.__class__")))
    (yd_BadGoal : PySem.W.mroIn K c_BadGoal (.type "object") = some true) (ye_BadGoal : PySem.W.mroIn K c_BadGoal (.type "ValueError") = some true) (yf_BadGoal : PySem.W.mroIn K c_BadGoal (.ref c_TrudgeError) = some true)
    {yN_NoRow : Addr} {ynm_NoRow yq_NoRow : Str} {ybs_NoRow : List Value} {ysn_NoRow : List Str} {ysub_NoRow : List Value} {yab_NoRow : Bool} {ycol_NoRow : Option Bool} {ydd_NoRow : Option Addr} {yk0_NoRow yk1_NoRow yk2_NoRow yk3_NoRow yk5_NoRow : Option Value} {yoc_NoRow : Value} {yod_NoRow : Option Addr} {yes_NoRow : Array DictEntry} {yep_NoRow : Nat} {ysl_NoRow : Array (Option Value)}
    (y1_NoRow : K.lookup c_NoRow = some (excClassObj ynm_NoRow yq_NoRow c_NoRow yN_NoRow ybs_NoRow (.ref c_TrudgeError :: VE) true ysn_NoRow ysub_NoRow yab_NoRow ycol_NoRow ydd_NoRow yk0_NoRow yk1_NoRow yk2_NoRow yk3_NoRow yk5_NoRow "ValueError.__new__"))
    (y2_NoRow : K.lookup yN_NoRow = some ⟨yoc_NoRow, yod_NoRow, .dict yes_NoRow yep_NoRow, ysl_NoRow⟩) (y3_NoRow : (yes_NoRow.toList.all fun e => match e.key with | .str _ _ => true | _ => false) = true) (y5_NoRow : PySem.W.nsIn K yN_NoRow "__init__" = some none)
    (y4_NoRow : PySem.W.keepIn K (.ref c_NoRow) = true)
    (y9_NoRow : PySem.W.findIn K (.ref c_NoRow) "__getattribute__" = some (some (.builtin "BaseException.__getattribute__"))) (ya_NoRow : PySem.W.findIn K (.ref c_NoRow) "__getattr__" = some none)
    (yb_NoRow : PySem.W.hasDictIn K c_NoRow = true) (yc_NoRow : PySem.W.findIn K (.ref c_NoRow) "__class__" = some (some (.builtin "object.__class__")))
    (yd_NoRow : PySem.W.mroIn K c_NoRow (.type "object") = some true) (ye_NoRow : PySem.W.mroIn K c_NoRow (.type "ValueError") = some true) (yf_NoRow : PySem.W.mroIn K c_NoRow (.ref c_TrudgeError) = some true)
    {yN_NoText : Addr} {ynm_NoText yq_NoText : Str} {ybs_NoText : List Value} {ysn_NoText : List Str} {ysub_NoText : List Value} {yab_NoText : Bool} {ycol_NoText : Option Bool} {ydd_NoText : Option Addr} {yk0_NoText yk1_NoText yk2_NoText yk3_NoText yk5_NoText : Option Value} {yoc_NoText : Value} {yod_NoText : Option Addr} {yes_NoText : Array DictEntry} {yep_NoText : Nat} {ysl_NoText : Array (Option Value)}
    (y1_NoText : K.lookup c_NoText = some (excClassObj ynm_NoText yq_NoText c_NoText yN_NoText ybs_NoText (.ref c_TrudgeError :: VE) true ysn_NoText ysub_NoText yab_NoText ycol_NoText ydd_NoText yk0_NoText yk1_NoText yk2_NoText yk3_NoText yk5_NoText "ValueError.__new__"))
    (y2_NoText : K.lookup yN_NoText = some ⟨yoc_NoText, yod_NoText, .dict yes_NoText yep_NoText, ysl_NoText⟩) (y3_NoText : (yes_NoText.toList.all fun e => match e.key with | .str _ _ => true | _ => false) = true) (y5_NoText : PySem.W.nsIn K yN_NoText "__init__" = some none)
    (y4_NoText : PySem.W.keepIn K (.ref c_NoText) = true)
    (y9_NoText : PySem.W.findIn K (.ref c_NoText) "__getattribute__" = some (some (.builtin "BaseException.__getattribute__"))) (ya_NoText : PySem.W.findIn K (.ref c_NoText) "__getattr__" = some none)
    (yb_NoText : PySem.W.hasDictIn K c_NoText = true) (yc_NoText : PySem.W.findIn K (.ref c_NoText) "__class__" = some (some (.builtin "object.__class__")))
    (yd_NoText : PySem.W.mroIn K c_NoText (.type "object") = some true) (ye_NoText : PySem.W.mroIn K c_NoText (.type "ValueError") = some true) (yf_NoText : PySem.W.mroIn K c_NoText (.ref c_TrudgeError) = some true)
    (w1_BadLand_BadGoal : PySem.W.mroIn K c_BadLand (.ref c_BadGoal) = some false) (w2_BadLand_BadGoal : (Value.ref c_BadLand == Value.ref c_BadGoal) = false)
    (w1_BadLand_BadLabel : PySem.W.mroIn K c_BadLand (.ref c_BadLabel) = some false) (w2_BadLand_BadLabel : (Value.ref c_BadLand == Value.ref c_BadLabel) = false)
    (w1_BadLand_BadPlan : PySem.W.mroIn K c_BadLand (.ref c_BadPlan) = some false) (w2_BadLand_BadPlan : (Value.ref c_BadLand == Value.ref c_BadPlan) = false)
    (w1_BadLand_BadStore : PySem.W.mroIn K c_BadLand (.ref c_BadStore) = some false) (w2_BadLand_BadStore : (Value.ref c_BadLand == Value.ref c_BadStore) = false)
    (w1_BadLand_BadTrip : PySem.W.mroIn K c_BadLand (.ref c_BadTrip) = some false) (w2_BadLand_BadTrip : (Value.ref c_BadLand == Value.ref c_BadTrip) = false)
    (w1_BadLand_BadWay : PySem.W.mroIn K c_BadLand (.ref c_BadWay) = some false) (w2_BadLand_BadWay : (Value.ref c_BadLand == Value.ref c_BadWay) = false)
    (w1_BadLand_NoLand : PySem.W.mroIn K c_BadLand (.ref c_NoLand) = some false) (w2_BadLand_NoLand : (Value.ref c_BadLand == Value.ref c_NoLand) = false)
    (w1_BadLand_NoRow : PySem.W.mroIn K c_BadLand (.ref c_NoRow) = some false) (w2_BadLand_NoRow : (Value.ref c_BadLand == Value.ref c_NoRow) = false)
    (w1_BadLand_NoText : PySem.W.mroIn K c_BadLand (.ref c_NoText) = some false) (w2_BadLand_NoText : (Value.ref c_BadLand == Value.ref c_NoText) = false)
    (w1_BadLand_NoWay : PySem.W.mroIn K c_BadLand (.ref c_NoWay) = some false) (w2_BadLand_NoWay : (Value.ref c_BadLand == Value.ref c_NoWay) = false)
    (w1_BadLand_Taken : PySem.W.mroIn K c_BadLand (.ref c_Taken) = some false) (w2_BadLand_Taken : (Value.ref c_BadLand == Value.ref c_Taken) = false)
    (w1_BadLand_TooMany : PySem.W.mroIn K c_BadLand (.ref c_TooMany) = some false) (w2_BadLand_TooMany : (Value.ref c_BadLand == Value.ref c_TooMany) = false)
    (w1_BadTrip_BadGoal : PySem.W.mroIn K c_BadTrip (.ref c_BadGoal) = some false) (w2_BadTrip_BadGoal : (Value.ref c_BadTrip == Value.ref c_BadGoal) = false)
    (w1_BadTrip_BadLabel : PySem.W.mroIn K c_BadTrip (.ref c_BadLabel) = some false) (w2_BadTrip_BadLabel : (Value.ref c_BadTrip == Value.ref c_BadLabel) = false)
    (w1_BadTrip_BadLand : PySem.W.mroIn K c_BadTrip (.ref c_BadLand) = some false) (w2_BadTrip_BadLand : (Value.ref c_BadTrip == Value.ref c_BadLand) = false)
    (w1_BadTrip_BadPlan : PySem.W.mroIn K c_BadTrip (.ref c_BadPlan) = some false) (w2_BadTrip_BadPlan : (Value.ref c_BadTrip == Value.ref c_BadPlan) = false)
    (w1_BadTrip_BadStore : PySem.W.mroIn K c_BadTrip (.ref c_BadStore) = some false) (w2_BadTrip_BadStore : (Value.ref c_BadTrip == Value.ref c_BadStore) = false)
    (w1_BadTrip_BadWay : PySem.W.mroIn K c_BadTrip (.ref c_BadWay) = some false) (w2_BadTrip_BadWay : (Value.ref c_BadTrip == Value.ref c_BadWay) = false)
    (w1_BadTrip_NoLand : PySem.W.mroIn K c_BadTrip (.ref c_NoLand) = some false) (w2_BadTrip_NoLand : (Value.ref c_BadTrip == Value.ref c_NoLand) = false)
    (w1_BadTrip_NoRow : PySem.W.mroIn K c_BadTrip (.ref c_NoRow) = some false) (w2_BadTrip_NoRow : (Value.ref c_BadTrip == Value.ref c_NoRow) = false)
    (w1_BadTrip_NoText : PySem.W.mroIn K c_BadTrip (.ref c_NoText) = some false) (w2_BadTrip_NoText : (Value.ref c_BadTrip == Value.ref c_NoText) = false)
    (w1_BadTrip_NoWay : PySem.W.mroIn K c_BadTrip (.ref c_NoWay) = some false) (w2_BadTrip_NoWay : (Value.ref c_BadTrip == Value.ref c_NoWay) = false)
    (w1_BadTrip_Taken : PySem.W.mroIn K c_BadTrip (.ref c_Taken) = some false) (w2_BadTrip_Taken : (Value.ref c_BadTrip == Value.ref c_Taken) = false)
    (w1_BadTrip_TooMany : PySem.W.mroIn K c_BadTrip (.ref c_TooMany) = some false) (w2_BadTrip_TooMany : (Value.ref c_BadTrip == Value.ref c_TooMany) = false)
    (w1_BadPlan_BadGoal : PySem.W.mroIn K c_BadPlan (.ref c_BadGoal) = some false) (w2_BadPlan_BadGoal : (Value.ref c_BadPlan == Value.ref c_BadGoal) = false)
    (w1_BadPlan_BadLabel : PySem.W.mroIn K c_BadPlan (.ref c_BadLabel) = some false) (w2_BadPlan_BadLabel : (Value.ref c_BadPlan == Value.ref c_BadLabel) = false)
    (w1_BadPlan_BadLand : PySem.W.mroIn K c_BadPlan (.ref c_BadLand) = some false) (w2_BadPlan_BadLand : (Value.ref c_BadPlan == Value.ref c_BadLand) = false)
    (w1_BadPlan_BadStore : PySem.W.mroIn K c_BadPlan (.ref c_BadStore) = some false) (w2_BadPlan_BadStore : (Value.ref c_BadPlan == Value.ref c_BadStore) = false)
    (w1_BadPlan_BadTrip : PySem.W.mroIn K c_BadPlan (.ref c_BadTrip) = some false) (w2_BadPlan_BadTrip : (Value.ref c_BadPlan == Value.ref c_BadTrip) = false)
    (w1_BadPlan_BadWay : PySem.W.mroIn K c_BadPlan (.ref c_BadWay) = some false) (w2_BadPlan_BadWay : (Value.ref c_BadPlan == Value.ref c_BadWay) = false)
    (w1_BadPlan_NoLand : PySem.W.mroIn K c_BadPlan (.ref c_NoLand) = some false) (w2_BadPlan_NoLand : (Value.ref c_BadPlan == Value.ref c_NoLand) = false)
    (w1_BadPlan_NoRow : PySem.W.mroIn K c_BadPlan (.ref c_NoRow) = some false) (w2_BadPlan_NoRow : (Value.ref c_BadPlan == Value.ref c_NoRow) = false)
    (w1_BadPlan_NoText : PySem.W.mroIn K c_BadPlan (.ref c_NoText) = some false) (w2_BadPlan_NoText : (Value.ref c_BadPlan == Value.ref c_NoText) = false)
    (w1_BadPlan_NoWay : PySem.W.mroIn K c_BadPlan (.ref c_NoWay) = some false) (w2_BadPlan_NoWay : (Value.ref c_BadPlan == Value.ref c_NoWay) = false)
    (w1_BadPlan_Taken : PySem.W.mroIn K c_BadPlan (.ref c_Taken) = some false) (w2_BadPlan_Taken : (Value.ref c_BadPlan == Value.ref c_Taken) = false)
    (w1_BadPlan_TooMany : PySem.W.mroIn K c_BadPlan (.ref c_TooMany) = some false) (w2_BadPlan_TooMany : (Value.ref c_BadPlan == Value.ref c_TooMany) = false)
    (w1_Taken_BadGoal : PySem.W.mroIn K c_Taken (.ref c_BadGoal) = some false) (w2_Taken_BadGoal : (Value.ref c_Taken == Value.ref c_BadGoal) = false)
    (w1_Taken_BadLabel : PySem.W.mroIn K c_Taken (.ref c_BadLabel) = some false) (w2_Taken_BadLabel : (Value.ref c_Taken == Value.ref c_BadLabel) = false)
    (w1_Taken_BadLand : PySem.W.mroIn K c_Taken (.ref c_BadLand) = some false) (w2_Taken_BadLand : (Value.ref c_Taken == Value.ref c_BadLand) = false)
    (w1_Taken_BadPlan : PySem.W.mroIn K c_Taken (.ref c_BadPlan) = some false) (w2_Taken_BadPlan : (Value.ref c_Taken == Value.ref c_BadPlan) = false)
    (w1_Taken_BadStore : PySem.W.mroIn K c_Taken (.ref c_BadStore) = some false) (w2_Taken_BadStore : (Value.ref c_Taken == Value.ref c_BadStore) = false)
    (w1_Taken_BadTrip : PySem.W.mroIn K c_Taken (.ref c_BadTrip) = some false) (w2_Taken_BadTrip : (Value.ref c_Taken == Value.ref c_BadTrip) = false)
    (w1_Taken_BadWay : PySem.W.mroIn K c_Taken (.ref c_BadWay) = some false) (w2_Taken_BadWay : (Value.ref c_Taken == Value.ref c_BadWay) = false)
    (w1_Taken_NoLand : PySem.W.mroIn K c_Taken (.ref c_NoLand) = some false) (w2_Taken_NoLand : (Value.ref c_Taken == Value.ref c_NoLand) = false)
    (w1_Taken_NoRow : PySem.W.mroIn K c_Taken (.ref c_NoRow) = some false) (w2_Taken_NoRow : (Value.ref c_Taken == Value.ref c_NoRow) = false)
    (w1_Taken_NoText : PySem.W.mroIn K c_Taken (.ref c_NoText) = some false) (w2_Taken_NoText : (Value.ref c_Taken == Value.ref c_NoText) = false)
    (w1_Taken_NoWay : PySem.W.mroIn K c_Taken (.ref c_NoWay) = some false) (w2_Taken_NoWay : (Value.ref c_Taken == Value.ref c_NoWay) = false)
    (w1_Taken_TooMany : PySem.W.mroIn K c_Taken (.ref c_TooMany) = some false) (w2_Taken_TooMany : (Value.ref c_Taken == Value.ref c_TooMany) = false)
    (w1_NoWay_BadGoal : PySem.W.mroIn K c_NoWay (.ref c_BadGoal) = some false) (w2_NoWay_BadGoal : (Value.ref c_NoWay == Value.ref c_BadGoal) = false)
    (w1_NoWay_BadLabel : PySem.W.mroIn K c_NoWay (.ref c_BadLabel) = some false) (w2_NoWay_BadLabel : (Value.ref c_NoWay == Value.ref c_BadLabel) = false)
    (w1_NoWay_BadLand : PySem.W.mroIn K c_NoWay (.ref c_BadLand) = some false) (w2_NoWay_BadLand : (Value.ref c_NoWay == Value.ref c_BadLand) = false)
    (w1_NoWay_BadPlan : PySem.W.mroIn K c_NoWay (.ref c_BadPlan) = some false) (w2_NoWay_BadPlan : (Value.ref c_NoWay == Value.ref c_BadPlan) = false)
    (w1_NoWay_BadStore : PySem.W.mroIn K c_NoWay (.ref c_BadStore) = some false) (w2_NoWay_BadStore : (Value.ref c_NoWay == Value.ref c_BadStore) = false)
    (w1_NoWay_BadTrip : PySem.W.mroIn K c_NoWay (.ref c_BadTrip) = some false) (w2_NoWay_BadTrip : (Value.ref c_NoWay == Value.ref c_BadTrip) = false)
    (w1_NoWay_BadWay : PySem.W.mroIn K c_NoWay (.ref c_BadWay) = some false) (w2_NoWay_BadWay : (Value.ref c_NoWay == Value.ref c_BadWay) = false)
    (w1_NoWay_NoLand : PySem.W.mroIn K c_NoWay (.ref c_NoLand) = some false) (w2_NoWay_NoLand : (Value.ref c_NoWay == Value.ref c_NoLand) = false)
    (w1_NoWay_NoRow : PySem.W.mroIn K c_NoWay (.ref c_NoRow) = some false) (w2_NoWay_NoRow : (Value.ref c_NoWay == Value.ref c_NoRow) = false)
    (w1_NoWay_NoText : PySem.W.mroIn K c_NoWay (.ref c_NoText) = some false) (w2_NoWay_NoText : (Value.ref c_NoWay == Value.ref c_NoText) = false)
    (w1_NoWay_Taken : PySem.W.mroIn K c_NoWay (.ref c_Taken) = some false) (w2_NoWay_Taken : (Value.ref c_NoWay == Value.ref c_Taken) = false)
    (w1_NoWay_TooMany : PySem.W.mroIn K c_NoWay (.ref c_TooMany) = some false) (w2_NoWay_TooMany : (Value.ref c_NoWay == Value.ref c_TooMany) = false)
    (w1_TooMany_BadGoal : PySem.W.mroIn K c_TooMany (.ref c_BadGoal) = some false) (w2_TooMany_BadGoal : (Value.ref c_TooMany == Value.ref c_BadGoal) = false)
    (w1_TooMany_BadLabel : PySem.W.mroIn K c_TooMany (.ref c_BadLabel) = some false) (w2_TooMany_BadLabel : (Value.ref c_TooMany == Value.ref c_BadLabel) = false)
    (w1_TooMany_BadLand : PySem.W.mroIn K c_TooMany (.ref c_BadLand) = some false) (w2_TooMany_BadLand : (Value.ref c_TooMany == Value.ref c_BadLand) = false)
    (w1_TooMany_BadPlan : PySem.W.mroIn K c_TooMany (.ref c_BadPlan) = some false) (w2_TooMany_BadPlan : (Value.ref c_TooMany == Value.ref c_BadPlan) = false)
    (w1_TooMany_BadStore : PySem.W.mroIn K c_TooMany (.ref c_BadStore) = some false) (w2_TooMany_BadStore : (Value.ref c_TooMany == Value.ref c_BadStore) = false)
    (w1_TooMany_BadTrip : PySem.W.mroIn K c_TooMany (.ref c_BadTrip) = some false) (w2_TooMany_BadTrip : (Value.ref c_TooMany == Value.ref c_BadTrip) = false)
    (w1_TooMany_BadWay : PySem.W.mroIn K c_TooMany (.ref c_BadWay) = some false) (w2_TooMany_BadWay : (Value.ref c_TooMany == Value.ref c_BadWay) = false)
    (w1_TooMany_NoLand : PySem.W.mroIn K c_TooMany (.ref c_NoLand) = some false) (w2_TooMany_NoLand : (Value.ref c_TooMany == Value.ref c_NoLand) = false)
    (w1_TooMany_NoRow : PySem.W.mroIn K c_TooMany (.ref c_NoRow) = some false) (w2_TooMany_NoRow : (Value.ref c_TooMany == Value.ref c_NoRow) = false)
    (w1_TooMany_NoText : PySem.W.mroIn K c_TooMany (.ref c_NoText) = some false) (w2_TooMany_NoText : (Value.ref c_TooMany == Value.ref c_NoText) = false)
    (w1_TooMany_NoWay : PySem.W.mroIn K c_TooMany (.ref c_NoWay) = some false) (w2_TooMany_NoWay : (Value.ref c_TooMany == Value.ref c_NoWay) = false)
    (w1_TooMany_Taken : PySem.W.mroIn K c_TooMany (.ref c_Taken) = some false) (w2_TooMany_Taken : (Value.ref c_TooMany == Value.ref c_Taken) = false)
    (w1_NoLand_BadGoal : PySem.W.mroIn K c_NoLand (.ref c_BadGoal) = some false) (w2_NoLand_BadGoal : (Value.ref c_NoLand == Value.ref c_BadGoal) = false)
    (w1_NoLand_BadLabel : PySem.W.mroIn K c_NoLand (.ref c_BadLabel) = some false) (w2_NoLand_BadLabel : (Value.ref c_NoLand == Value.ref c_BadLabel) = false)
    (w1_NoLand_BadLand : PySem.W.mroIn K c_NoLand (.ref c_BadLand) = some false) (w2_NoLand_BadLand : (Value.ref c_NoLand == Value.ref c_BadLand) = false)
    (w1_NoLand_BadPlan : PySem.W.mroIn K c_NoLand (.ref c_BadPlan) = some false) (w2_NoLand_BadPlan : (Value.ref c_NoLand == Value.ref c_BadPlan) = false)
    (w1_NoLand_BadStore : PySem.W.mroIn K c_NoLand (.ref c_BadStore) = some false) (w2_NoLand_BadStore : (Value.ref c_NoLand == Value.ref c_BadStore) = false)
    (w1_NoLand_BadTrip : PySem.W.mroIn K c_NoLand (.ref c_BadTrip) = some false) (w2_NoLand_BadTrip : (Value.ref c_NoLand == Value.ref c_BadTrip) = false)
    (w1_NoLand_BadWay : PySem.W.mroIn K c_NoLand (.ref c_BadWay) = some false) (w2_NoLand_BadWay : (Value.ref c_NoLand == Value.ref c_BadWay) = false)
    (w1_NoLand_NoRow : PySem.W.mroIn K c_NoLand (.ref c_NoRow) = some false) (w2_NoLand_NoRow : (Value.ref c_NoLand == Value.ref c_NoRow) = false)
    (w1_NoLand_NoText : PySem.W.mroIn K c_NoLand (.ref c_NoText) = some false) (w2_NoLand_NoText : (Value.ref c_NoLand == Value.ref c_NoText) = false)
    (w1_NoLand_NoWay : PySem.W.mroIn K c_NoLand (.ref c_NoWay) = some false) (w2_NoLand_NoWay : (Value.ref c_NoLand == Value.ref c_NoWay) = false)
    (w1_NoLand_Taken : PySem.W.mroIn K c_NoLand (.ref c_Taken) = some false) (w2_NoLand_Taken : (Value.ref c_NoLand == Value.ref c_Taken) = false)
    (w1_NoLand_TooMany : PySem.W.mroIn K c_NoLand (.ref c_TooMany) = some false) (w2_NoLand_TooMany : (Value.ref c_NoLand == Value.ref c_TooMany) = false)
    (w1_BadLabel_BadGoal : PySem.W.mroIn K c_BadLabel (.ref c_BadGoal) = some false) (w2_BadLabel_BadGoal : (Value.ref c_BadLabel == Value.ref c_BadGoal) = false)
    (w1_BadLabel_BadLand : PySem.W.mroIn K c_BadLabel (.ref c_BadLand) = some false) (w2_BadLabel_BadLand : (Value.ref c_BadLabel == Value.ref c_BadLand) = false)
    (w1_BadLabel_BadPlan : PySem.W.mroIn K c_BadLabel (.ref c_BadPlan) = some false) (w2_BadLabel_BadPlan : (Value.ref c_BadLabel == Value.ref c_BadPlan) = false)
    (w1_BadLabel_BadStore : PySem.W.mroIn K c_BadLabel (.ref c_BadStore) = some false) (w2_BadLabel_BadStore : (Value.ref c_BadLabel == Value.ref c_BadStore) = false)
    (w1_BadLabel_BadTrip : PySem.W.mroIn K c_BadLabel (.ref c_BadTrip) = some false) (w2_BadLabel_BadTrip : (Value.ref c_BadLabel == Value.ref c_BadTrip) = false)
    (w1_BadLabel_BadWay : PySem.W.mroIn K c_BadLabel (.ref c_BadWay) = some false) (w2_BadLabel_BadWay : (Value.ref c_BadLabel == Value.ref c_BadWay) = false)
    (w1_BadLabel_NoLand : PySem.W.mroIn K c_BadLabel (.ref c_NoLand) = some false) (w2_BadLabel_NoLand : (Value.ref c_BadLabel == Value.ref c_NoLand) = false)
    (w1_BadLabel_NoRow : PySem.W.mroIn K c_BadLabel (.ref c_NoRow) = some false) (w2_BadLabel_NoRow : (Value.ref c_BadLabel == Value.ref c_NoRow) = false)
    (w1_BadLabel_NoText : PySem.W.mroIn K c_BadLabel (.ref c_NoText) = some false) (w2_BadLabel_NoText : (Value.ref c_BadLabel == Value.ref c_NoText) = false)
    (w1_BadLabel_NoWay : PySem.W.mroIn K c_BadLabel (.ref c_NoWay) = some false) (w2_BadLabel_NoWay : (Value.ref c_BadLabel == Value.ref c_NoWay) = false)
    (w1_BadLabel_Taken : PySem.W.mroIn K c_BadLabel (.ref c_Taken) = some false) (w2_BadLabel_Taken : (Value.ref c_BadLabel == Value.ref c_Taken) = false)
    (w1_BadLabel_TooMany : PySem.W.mroIn K c_BadLabel (.ref c_TooMany) = some false) (w2_BadLabel_TooMany : (Value.ref c_BadLabel == Value.ref c_TooMany) = false)
    (w1_BadWay_BadGoal : PySem.W.mroIn K c_BadWay (.ref c_BadGoal) = some false) (w2_BadWay_BadGoal : (Value.ref c_BadWay == Value.ref c_BadGoal) = false)
    (w1_BadWay_BadLabel : PySem.W.mroIn K c_BadWay (.ref c_BadLabel) = some false) (w2_BadWay_BadLabel : (Value.ref c_BadWay == Value.ref c_BadLabel) = false)
    (w1_BadWay_BadLand : PySem.W.mroIn K c_BadWay (.ref c_BadLand) = some false) (w2_BadWay_BadLand : (Value.ref c_BadWay == Value.ref c_BadLand) = false)
    (w1_BadWay_BadPlan : PySem.W.mroIn K c_BadWay (.ref c_BadPlan) = some false) (w2_BadWay_BadPlan : (Value.ref c_BadWay == Value.ref c_BadPlan) = false)
    (w1_BadWay_BadStore : PySem.W.mroIn K c_BadWay (.ref c_BadStore) = some false) (w2_BadWay_BadStore : (Value.ref c_BadWay == Value.ref c_BadStore) = false)
    (w1_BadWay_BadTrip : PySem.W.mroIn K c_BadWay (.ref c_BadTrip) = some false) (w2_BadWay_BadTrip : (Value.ref c_BadWay == Value.ref c_BadTrip) = false)
    (w1_BadWay_NoLand : PySem.W.mroIn K c_BadWay (.ref c_NoLand) = some false) (w2_BadWay_NoLand : (Value.ref c_BadWay == Value.ref c_NoLand) = false)
    (w1_BadWay_NoRow : PySem.W.mroIn K c_BadWay (.ref c_NoRow) = some false) (w2_BadWay_NoRow : (Value.ref c_BadWay == Value.ref c_NoRow) = false)
    (w1_BadWay_NoText : PySem.W.mroIn K c_BadWay (.ref c_NoText) = some false) (w2_BadWay_NoText : (Value.ref c_BadWay == Value.ref c_NoText) = false)
    (w1_BadWay_NoWay : PySem.W.mroIn K c_BadWay (.ref c_NoWay) = some false) (w2_BadWay_NoWay : (Value.ref c_BadWay == Value.ref c_NoWay) = false)
    (w1_BadWay_Taken : PySem.W.mroIn K c_BadWay (.ref c_Taken) = some false) (w2_BadWay_Taken : (Value.ref c_BadWay == Value.ref c_Taken) = false)
    (w1_BadWay_TooMany : PySem.W.mroIn K c_BadWay (.ref c_TooMany) = some false) (w2_BadWay_TooMany : (Value.ref c_BadWay == Value.ref c_TooMany) = false)
    (w1_BadStore_BadGoal : PySem.W.mroIn K c_BadStore (.ref c_BadGoal) = some false) (w2_BadStore_BadGoal : (Value.ref c_BadStore == Value.ref c_BadGoal) = false)
    (w1_BadStore_BadLabel : PySem.W.mroIn K c_BadStore (.ref c_BadLabel) = some false) (w2_BadStore_BadLabel : (Value.ref c_BadStore == Value.ref c_BadLabel) = false)
    (w1_BadStore_BadLand : PySem.W.mroIn K c_BadStore (.ref c_BadLand) = some false) (w2_BadStore_BadLand : (Value.ref c_BadStore == Value.ref c_BadLand) = false)
    (w1_BadStore_BadPlan : PySem.W.mroIn K c_BadStore (.ref c_BadPlan) = some false) (w2_BadStore_BadPlan : (Value.ref c_BadStore == Value.ref c_BadPlan) = false)
    (w1_BadStore_BadTrip : PySem.W.mroIn K c_BadStore (.ref c_BadTrip) = some false) (w2_BadStore_BadTrip : (Value.ref c_BadStore == Value.ref c_BadTrip) = false)
    (w1_BadStore_BadWay : PySem.W.mroIn K c_BadStore (.ref c_BadWay) = some false) (w2_BadStore_BadWay : (Value.ref c_BadStore == Value.ref c_BadWay) = false)
    (w1_BadStore_NoLand : PySem.W.mroIn K c_BadStore (.ref c_NoLand) = some false) (w2_BadStore_NoLand : (Value.ref c_BadStore == Value.ref c_NoLand) = false)
    (w1_BadStore_NoRow : PySem.W.mroIn K c_BadStore (.ref c_NoRow) = some false) (w2_BadStore_NoRow : (Value.ref c_BadStore == Value.ref c_NoRow) = false)
    (w1_BadStore_NoText : PySem.W.mroIn K c_BadStore (.ref c_NoText) = some false) (w2_BadStore_NoText : (Value.ref c_BadStore == Value.ref c_NoText) = false)
    (w1_BadStore_NoWay : PySem.W.mroIn K c_BadStore (.ref c_NoWay) = some false) (w2_BadStore_NoWay : (Value.ref c_BadStore == Value.ref c_NoWay) = false)
    (w1_BadStore_Taken : PySem.W.mroIn K c_BadStore (.ref c_Taken) = some false) (w2_BadStore_Taken : (Value.ref c_BadStore == Value.ref c_Taken) = false)
    (w1_BadStore_TooMany : PySem.W.mroIn K c_BadStore (.ref c_TooMany) = some false) (w2_BadStore_TooMany : (Value.ref c_BadStore == Value.ref c_TooMany) = false)
    (w1_BadGoal_BadLabel : PySem.W.mroIn K c_BadGoal (.ref c_BadLabel) = some false) (w2_BadGoal_BadLabel : (Value.ref c_BadGoal == Value.ref c_BadLabel) = false)
    (w1_BadGoal_BadLand : PySem.W.mroIn K c_BadGoal (.ref c_BadLand) = some false) (w2_BadGoal_BadLand : (Value.ref c_BadGoal == Value.ref c_BadLand) = false)
    (w1_BadGoal_BadPlan : PySem.W.mroIn K c_BadGoal (.ref c_BadPlan) = some false) (w2_BadGoal_BadPlan : (Value.ref c_BadGoal == Value.ref c_BadPlan) = false)
    (w1_BadGoal_BadStore : PySem.W.mroIn K c_BadGoal (.ref c_BadStore) = some false) (w2_BadGoal_BadStore : (Value.ref c_BadGoal == Value.ref c_BadStore) = false)
    (w1_BadGoal_BadTrip : PySem.W.mroIn K c_BadGoal (.ref c_BadTrip) = some false) (w2_BadGoal_BadTrip : (Value.ref c_BadGoal == Value.ref c_BadTrip) = false)
    (w1_BadGoal_BadWay : PySem.W.mroIn K c_BadGoal (.ref c_BadWay) = some false) (w2_BadGoal_BadWay : (Value.ref c_BadGoal == Value.ref c_BadWay) = false)
    (w1_BadGoal_NoLand : PySem.W.mroIn K c_BadGoal (.ref c_NoLand) = some false) (w2_BadGoal_NoLand : (Value.ref c_BadGoal == Value.ref c_NoLand) = false)
    (w1_BadGoal_NoRow : PySem.W.mroIn K c_BadGoal (.ref c_NoRow) = some false) (w2_BadGoal_NoRow : (Value.ref c_BadGoal == Value.ref c_NoRow) = false)
    (w1_BadGoal_NoText : PySem.W.mroIn K c_BadGoal (.ref c_NoText) = some false) (w2_BadGoal_NoText : (Value.ref c_BadGoal == Value.ref c_NoText) = false)
    (w1_BadGoal_NoWay : PySem.W.mroIn K c_BadGoal (.ref c_NoWay) = some false) (w2_BadGoal_NoWay : (Value.ref c_BadGoal == Value.ref c_NoWay) = false)
    (w1_BadGoal_Taken : PySem.W.mroIn K c_BadGoal (.ref c_Taken) = some false) (w2_BadGoal_Taken : (Value.ref c_BadGoal == Value.ref c_Taken) = false)
    (w1_BadGoal_TooMany : PySem.W.mroIn K c_BadGoal (.ref c_TooMany) = some false) (w2_BadGoal_TooMany : (Value.ref c_BadGoal == Value.ref c_TooMany) = false)
    (w1_NoRow_BadGoal : PySem.W.mroIn K c_NoRow (.ref c_BadGoal) = some false) (w2_NoRow_BadGoal : (Value.ref c_NoRow == Value.ref c_BadGoal) = false)
    (w1_NoRow_BadLabel : PySem.W.mroIn K c_NoRow (.ref c_BadLabel) = some false) (w2_NoRow_BadLabel : (Value.ref c_NoRow == Value.ref c_BadLabel) = false)
    (w1_NoRow_BadLand : PySem.W.mroIn K c_NoRow (.ref c_BadLand) = some false) (w2_NoRow_BadLand : (Value.ref c_NoRow == Value.ref c_BadLand) = false)
    (w1_NoRow_BadPlan : PySem.W.mroIn K c_NoRow (.ref c_BadPlan) = some false) (w2_NoRow_BadPlan : (Value.ref c_NoRow == Value.ref c_BadPlan) = false)
    (w1_NoRow_BadStore : PySem.W.mroIn K c_NoRow (.ref c_BadStore) = some false) (w2_NoRow_BadStore : (Value.ref c_NoRow == Value.ref c_BadStore) = false)
    (w1_NoRow_BadTrip : PySem.W.mroIn K c_NoRow (.ref c_BadTrip) = some false) (w2_NoRow_BadTrip : (Value.ref c_NoRow == Value.ref c_BadTrip) = false)
    (w1_NoRow_BadWay : PySem.W.mroIn K c_NoRow (.ref c_BadWay) = some false) (w2_NoRow_BadWay : (Value.ref c_NoRow == Value.ref c_BadWay) = false)
    (w1_NoRow_NoLand : PySem.W.mroIn K c_NoRow (.ref c_NoLand) = some false) (w2_NoRow_NoLand : (Value.ref c_NoRow == Value.ref c_NoLand) = false)
    (w1_NoRow_NoText : PySem.W.mroIn K c_NoRow (.ref c_NoText) = some false) (w2_NoRow_NoText : (Value.ref c_NoRow == Value.ref c_NoText) = false)
    (w1_NoRow_NoWay : PySem.W.mroIn K c_NoRow (.ref c_NoWay) = some false) (w2_NoRow_NoWay : (Value.ref c_NoRow == Value.ref c_NoWay) = false)
    (w1_NoRow_Taken : PySem.W.mroIn K c_NoRow (.ref c_Taken) = some false) (w2_NoRow_Taken : (Value.ref c_NoRow == Value.ref c_Taken) = false)
    (w1_NoRow_TooMany : PySem.W.mroIn K c_NoRow (.ref c_TooMany) = some false) (w2_NoRow_TooMany : (Value.ref c_NoRow == Value.ref c_TooMany) = false)
    (w1_NoText_BadGoal : PySem.W.mroIn K c_NoText (.ref c_BadGoal) = some false) (w2_NoText_BadGoal : (Value.ref c_NoText == Value.ref c_BadGoal) = false)
    (w1_NoText_BadLabel : PySem.W.mroIn K c_NoText (.ref c_BadLabel) = some false) (w2_NoText_BadLabel : (Value.ref c_NoText == Value.ref c_BadLabel) = false)
    (w1_NoText_BadLand : PySem.W.mroIn K c_NoText (.ref c_BadLand) = some false) (w2_NoText_BadLand : (Value.ref c_NoText == Value.ref c_BadLand) = false)
    (w1_NoText_BadPlan : PySem.W.mroIn K c_NoText (.ref c_BadPlan) = some false) (w2_NoText_BadPlan : (Value.ref c_NoText == Value.ref c_BadPlan) = false)
    (w1_NoText_BadStore : PySem.W.mroIn K c_NoText (.ref c_BadStore) = some false) (w2_NoText_BadStore : (Value.ref c_NoText == Value.ref c_BadStore) = false)
    (w1_NoText_BadTrip : PySem.W.mroIn K c_NoText (.ref c_BadTrip) = some false) (w2_NoText_BadTrip : (Value.ref c_NoText == Value.ref c_BadTrip) = false)
    (w1_NoText_BadWay : PySem.W.mroIn K c_NoText (.ref c_BadWay) = some false) (w2_NoText_BadWay : (Value.ref c_NoText == Value.ref c_BadWay) = false)
    (w1_NoText_NoLand : PySem.W.mroIn K c_NoText (.ref c_NoLand) = some false) (w2_NoText_NoLand : (Value.ref c_NoText == Value.ref c_NoLand) = false)
    (w1_NoText_NoRow : PySem.W.mroIn K c_NoText (.ref c_NoRow) = some false) (w2_NoText_NoRow : (Value.ref c_NoText == Value.ref c_NoRow) = false)
    (w1_NoText_NoWay : PySem.W.mroIn K c_NoText (.ref c_NoWay) = some false) (w2_NoText_NoWay : (Value.ref c_NoText == Value.ref c_NoWay) = false)
    (w1_NoText_Taken : PySem.W.mroIn K c_NoText (.ref c_Taken) = some false) (w2_NoText_Taken : (Value.ref c_NoText == Value.ref c_Taken) = false)
    (w1_NoText_TooMany : PySem.W.mroIn K c_NoText (.ref c_TooMany) = some false) (w2_NoText_TooMany : (Value.ref c_NoText == Value.ref c_TooMany) = false) :
    ∃ fd : FuncData, (∀ (s : Shared) (v : Value), BindsTo s fd ⟨[v], []⟩ [("_law_script", v)]) ∧ ∀ base : Heap, K.In base → base.Ns mainGlobals mg → FnOk l.prog w K mg base CX0 8 fa fd ["_law_script"] (spLaw K) := by
  have e := hfa.symm.trans (PySem.W.mg_of X G a8)
  cases e
  let T : Txt K mg := {
    n_ValueError := PySem.W.mg_none_of X G z_ValueError,
    n_abs := PySem.W.mg_none_of X G z_abs,
    n_isinstance := PySem.W.mg_none_of X G z_isinstance,
    n_len := PySem.W.mg_none_of X G z_len,
    n_list := PySem.W.mg_none_of X G z_list,
    n_range := PySem.W.mg_none_of X G z_range,
    c_TrudgeError := c_TrudgeError, mg_TrudgeError := PySem.W.mg_of X G xa_TrudgeError,
    c_BadLand := c_BadLand, mg_BadLand := PySem.W.mg_of X G xa_BadLand,
    c_BadTrip := c_BadTrip, mg_BadTrip := PySem.W.mg_of X G xa_BadTrip,
    c_BadPlan := c_BadPlan, mg_BadPlan := PySem.W.mg_of X G xa_BadPlan,
    c_BadLabel := c_BadLabel, mg_BadLabel := PySem.W.mg_of X G xa_BadLabel,
    c_Taken := c_Taken, mg_Taken := PySem.W.mg_of X G xa_Taken,
    c_BadWay := c_BadWay, mg_BadWay := PySem.W.mg_of X G xa_BadWay,
    c_TooMany := c_TooMany, mg_TooMany := PySem.W.mg_of X G xa_TooMany,
    c_NoWay := c_NoWay, mg_NoWay := PySem.W.mg_of X G xa_NoWay,
    c_BadStore := c_BadStore, mg_BadStore := PySem.W.mg_of X G xa_BadStore,
    c_BadGoal := c_BadGoal, mg_BadGoal := PySem.W.mg_of X G xa_BadGoal,
    c_NoRow := c_NoRow, mg_NoRow := PySem.W.mg_of X G xa_NoRow,
    c_NoText := c_NoText, mg_NoText := PySem.W.mg_of X G xa_NoText,
    c_NoLand := c_NoLand, mg_NoLand := PySem.W.mg_of X G xa_NoLand,
    xi_BadLand := yxi_BadLand, xd_BadLand := _, F_BadLand := fun_mk (st := i_BadLand) z1_BadLand z2_BadLand z3_BadLand, xc_BadLand := XcI.of y1_BadLand y2_BadLand y3_BadLand xl_TrudgeError xn4 xe5 xa5 xe6 y4_BadLand y5_BadLand y6_BadLand y7_BadLand y8_BadLand y9_BadLand ya_BadLand yb_BadLand yc_BadLand xhn xtk yd_BadLand ye_BadLand yf_BadLand xm4,
    xi_BadTrip := yxi_BadTrip, xd_BadTrip := _, F_BadTrip := fun_mk (st := i_BadTrip) z1_BadTrip z2_BadTrip z3_BadTrip, xc_BadTrip := XcI.of y1_BadTrip y2_BadTrip y3_BadTrip xl_TrudgeError xn4 xe5 xa5 xe6 y4_BadTrip y5_BadTrip y6_BadTrip y7_BadTrip y8_BadTrip y9_BadTrip ya_BadTrip yb_BadTrip yc_BadTrip xhn xtk yd_BadTrip ye_BadTrip yf_BadTrip xm4,
    xi_BadPlan := yxi_BadPlan, xd_BadPlan := _, F_BadPlan := fun_mk (st := i_BadPlan) z1_BadPlan z2_BadPlan z3_BadPlan, xc_BadPlan := XcI.of y1_BadPlan y2_BadPlan y3_BadPlan xl_TrudgeError xn4 xe5 xa5 xe6 y4_BadPlan y5_BadPlan y6_BadPlan y7_BadPlan y8_BadPlan y9_BadPlan ya_BadPlan yb_BadPlan yc_BadPlan xhn xtk yd_BadPlan ye_BadPlan yf_BadPlan xm4,
    xi_Taken := yxi_Taken, xd_Taken := _, F_Taken := fun_mk (st := i_Taken) z1_Taken z2_Taken z3_Taken, xc_Taken := XcI.of y1_Taken y2_Taken y3_Taken xl_TrudgeError xn4 xe5 xa5 xe6 y4_Taken y5_Taken y6_Taken y7_Taken y8_Taken y9_Taken ya_Taken yb_Taken yc_Taken xhn xtk yd_Taken ye_Taken yf_Taken xm4,
    xi_NoWay := yxi_NoWay, xd_NoWay := _, F_NoWay := fun_mk (st := i_NoWay) z1_NoWay z2_NoWay z3_NoWay, xc_NoWay := XcI.of y1_NoWay y2_NoWay y3_NoWay xl_TrudgeError xn4 xe5 xa5 xe6 y4_NoWay y5_NoWay y6_NoWay y7_NoWay y8_NoWay y9_NoWay ya_NoWay yb_NoWay yc_NoWay xhn xtk yd_NoWay ye_NoWay yf_NoWay xm4,
    xi_TooMany := yxi_TooMany, xd_TooMany := _, F_TooMany := fun_mk (st := i_TooMany) z1_TooMany z2_TooMany z3_TooMany, xc_TooMany := XcI.of y1_TooMany y2_TooMany y3_TooMany xl_TrudgeError xn4 xe5 xa5 xe6 y4_TooMany y5_TooMany y6_TooMany y7_TooMany y8_TooMany y9_TooMany ya_TooMany yb_TooMany yc_TooMany xhn xtk yd_TooMany ye_TooMany yf_TooMany xm4,
    xc_NoLand := XcN.of y1_NoLand y2_NoLand y3_NoLand y5_NoLand xl_TrudgeError xn4 xe5 xa5 xe6 y4_NoLand y9_NoLand ya_NoLand yb_NoLand yc_NoLand xhn xtk yd_NoLand ye_NoLand yf_NoLand xm4,
    xc_BadLabel := XcN.of y1_BadLabel y2_BadLabel y3_BadLabel y5_BadLabel xl_TrudgeError xn4 xe5 xa5 xe6 y4_BadLabel y9_BadLabel ya_BadLabel yb_BadLabel yc_BadLabel xhn xtk yd_BadLabel ye_BadLabel yf_BadLabel xm4,
    xc_BadWay := XcN.of y1_BadWay y2_BadWay y3_BadWay y5_BadWay xl_TrudgeError xn4 xe5 xa5 xe6 y4_BadWay y9_BadWay ya_BadWay yb_BadWay yc_BadWay xhn xtk yd_BadWay ye_BadWay yf_BadWay xm4,
    xc_BadStore := XcN.of y1_BadStore y2_BadStore y3_BadStore y5_BadStore xl_TrudgeError xn4 xe5 xa5 xe6 y4_BadStore y9_BadStore ya_BadStore yb_BadStore yc_BadStore xhn xtk yd_BadStore ye_BadStore yf_BadStore xm4,
    xc_BadGoal := XcN.of y1_BadGoal y2_BadGoal y3_BadGoal y5_BadGoal xl_TrudgeError xn4 xe5 xa5 xe6 y4_BadGoal y9_BadGoal ya_BadGoal yb_BadGoal yc_BadGoal xhn xtk yd_BadGoal ye_BadGoal yf_BadGoal xm4,
    xc_NoRow := XcN.of y1_NoRow y2_NoRow y3_NoRow y5_NoRow xl_TrudgeError xn4 xe5 xa5 xe6 y4_NoRow y9_NoRow ya_NoRow yb_NoRow yc_NoRow xhn xtk yd_NoRow ye_NoRow yf_NoRow xm4,
    xc_NoText := XcN.of y1_NoText y2_NoText y3_NoText y5_NoText xl_TrudgeError xn4 xe5 xa5 xe6 y4_NoText y9_NoText ya_NoText yb_NoText yc_NoText xhn xtk yd_NoText ye_NoText yf_NoText xm4,
    k_BadLand_BadGoal := kit_ref xl_BadGoal w1_BadLand_BadGoal w2_BadLand_BadGoal,
    k_BadLand_BadLabel := kit_ref xl_BadLabel w1_BadLand_BadLabel w2_BadLand_BadLabel,
    k_BadLand_BadLand := kit_self,
    k_BadLand_BadPlan := kit_ref xl_BadPlan w1_BadLand_BadPlan w2_BadLand_BadPlan,
    k_BadLand_BadStore := kit_ref xl_BadStore w1_BadLand_BadStore w2_BadLand_BadStore,
    k_BadLand_BadTrip := kit_ref xl_BadTrip w1_BadLand_BadTrip w2_BadLand_BadTrip,
    k_BadLand_BadWay := kit_ref xl_BadWay w1_BadLand_BadWay w2_BadLand_BadWay,
    k_BadLand_NoLand := kit_ref xl_NoLand w1_BadLand_NoLand w2_BadLand_NoLand,
    k_BadLand_NoRow := kit_ref xl_NoRow w1_BadLand_NoRow w2_BadLand_NoRow,
    k_BadLand_NoText := kit_ref xl_NoText w1_BadLand_NoText w2_BadLand_NoText,
    k_BadLand_NoWay := kit_ref xl_NoWay w1_BadLand_NoWay w2_BadLand_NoWay,
    k_BadLand_Taken := kit_ref xl_Taken w1_BadLand_Taken w2_BadLand_Taken,
    k_BadLand_TooMany := kit_ref xl_TooMany w1_BadLand_TooMany w2_BadLand_TooMany,
    k_BadTrip_BadGoal := kit_ref xl_BadGoal w1_BadTrip_BadGoal w2_BadTrip_BadGoal,
    k_BadTrip_BadLabel := kit_ref xl_BadLabel w1_BadTrip_BadLabel w2_BadTrip_BadLabel,
    k_BadTrip_BadLand := kit_ref xl_BadLand w1_BadTrip_BadLand w2_BadTrip_BadLand,
    k_BadTrip_BadPlan := kit_ref xl_BadPlan w1_BadTrip_BadPlan w2_BadTrip_BadPlan,
    k_BadTrip_BadStore := kit_ref xl_BadStore w1_BadTrip_BadStore w2_BadTrip_BadStore,
    k_BadTrip_BadTrip := kit_self,
    k_BadTrip_BadWay := kit_ref xl_BadWay w1_BadTrip_BadWay w2_BadTrip_BadWay,
    k_BadTrip_NoLand := kit_ref xl_NoLand w1_BadTrip_NoLand w2_BadTrip_NoLand,
    k_BadTrip_NoRow := kit_ref xl_NoRow w1_BadTrip_NoRow w2_BadTrip_NoRow,
    k_BadTrip_NoText := kit_ref xl_NoText w1_BadTrip_NoText w2_BadTrip_NoText,
    k_BadTrip_NoWay := kit_ref xl_NoWay w1_BadTrip_NoWay w2_BadTrip_NoWay,
    k_BadTrip_Taken := kit_ref xl_Taken w1_BadTrip_Taken w2_BadTrip_Taken,
    k_BadTrip_TooMany := kit_ref xl_TooMany w1_BadTrip_TooMany w2_BadTrip_TooMany,
    k_BadPlan_BadGoal := kit_ref xl_BadGoal w1_BadPlan_BadGoal w2_BadPlan_BadGoal,
    k_BadPlan_BadLabel := kit_ref xl_BadLabel w1_BadPlan_BadLabel w2_BadPlan_BadLabel,
    k_BadPlan_BadLand := kit_ref xl_BadLand w1_BadPlan_BadLand w2_BadPlan_BadLand,
    k_BadPlan_BadPlan := kit_self,
    k_BadPlan_BadStore := kit_ref xl_BadStore w1_BadPlan_BadStore w2_BadPlan_BadStore,
    k_BadPlan_BadTrip := kit_ref xl_BadTrip w1_BadPlan_BadTrip w2_BadPlan_BadTrip,
    k_BadPlan_BadWay := kit_ref xl_BadWay w1_BadPlan_BadWay w2_BadPlan_BadWay,
    k_BadPlan_NoLand := kit_ref xl_NoLand w1_BadPlan_NoLand w2_BadPlan_NoLand,
    k_BadPlan_NoRow := kit_ref xl_NoRow w1_BadPlan_NoRow w2_BadPlan_NoRow,
    k_BadPlan_NoText := kit_ref xl_NoText w1_BadPlan_NoText w2_BadPlan_NoText,
    k_BadPlan_NoWay := kit_ref xl_NoWay w1_BadPlan_NoWay w2_BadPlan_NoWay,
    k_BadPlan_Taken := kit_ref xl_Taken w1_BadPlan_Taken w2_BadPlan_Taken,
    k_BadPlan_TooMany := kit_ref xl_TooMany w1_BadPlan_TooMany w2_BadPlan_TooMany,
    k_Taken_BadGoal := kit_ref xl_BadGoal w1_Taken_BadGoal w2_Taken_BadGoal,
    k_Taken_BadLabel := kit_ref xl_BadLabel w1_Taken_BadLabel w2_Taken_BadLabel,
    k_Taken_BadLand := kit_ref xl_BadLand w1_Taken_BadLand w2_Taken_BadLand,
    k_Taken_BadPlan := kit_ref xl_BadPlan w1_Taken_BadPlan w2_Taken_BadPlan,
    k_Taken_BadStore := kit_ref xl_BadStore w1_Taken_BadStore w2_Taken_BadStore,
    k_Taken_BadTrip := kit_ref xl_BadTrip w1_Taken_BadTrip w2_Taken_BadTrip,
    k_Taken_BadWay := kit_ref xl_BadWay w1_Taken_BadWay w2_Taken_BadWay,
    k_Taken_NoLand := kit_ref xl_NoLand w1_Taken_NoLand w2_Taken_NoLand,
    k_Taken_NoRow := kit_ref xl_NoRow w1_Taken_NoRow w2_Taken_NoRow,
    k_Taken_NoText := kit_ref xl_NoText w1_Taken_NoText w2_Taken_NoText,
    k_Taken_NoWay := kit_ref xl_NoWay w1_Taken_NoWay w2_Taken_NoWay,
    k_Taken_Taken := kit_self,
    k_Taken_TooMany := kit_ref xl_TooMany w1_Taken_TooMany w2_Taken_TooMany,
    k_NoWay_BadGoal := kit_ref xl_BadGoal w1_NoWay_BadGoal w2_NoWay_BadGoal,
    k_NoWay_BadLabel := kit_ref xl_BadLabel w1_NoWay_BadLabel w2_NoWay_BadLabel,
    k_NoWay_BadLand := kit_ref xl_BadLand w1_NoWay_BadLand w2_NoWay_BadLand,
    k_NoWay_BadPlan := kit_ref xl_BadPlan w1_NoWay_BadPlan w2_NoWay_BadPlan,
    k_NoWay_BadStore := kit_ref xl_BadStore w1_NoWay_BadStore w2_NoWay_BadStore,
    k_NoWay_BadTrip := kit_ref xl_BadTrip w1_NoWay_BadTrip w2_NoWay_BadTrip,
    k_NoWay_BadWay := kit_ref xl_BadWay w1_NoWay_BadWay w2_NoWay_BadWay,
    k_NoWay_NoLand := kit_ref xl_NoLand w1_NoWay_NoLand w2_NoWay_NoLand,
    k_NoWay_NoRow := kit_ref xl_NoRow w1_NoWay_NoRow w2_NoWay_NoRow,
    k_NoWay_NoText := kit_ref xl_NoText w1_NoWay_NoText w2_NoWay_NoText,
    k_NoWay_NoWay := kit_self,
    k_NoWay_Taken := kit_ref xl_Taken w1_NoWay_Taken w2_NoWay_Taken,
    k_NoWay_TooMany := kit_ref xl_TooMany w1_NoWay_TooMany w2_NoWay_TooMany,
    k_TooMany_BadGoal := kit_ref xl_BadGoal w1_TooMany_BadGoal w2_TooMany_BadGoal,
    k_TooMany_BadLabel := kit_ref xl_BadLabel w1_TooMany_BadLabel w2_TooMany_BadLabel,
    k_TooMany_BadLand := kit_ref xl_BadLand w1_TooMany_BadLand w2_TooMany_BadLand,
    k_TooMany_BadPlan := kit_ref xl_BadPlan w1_TooMany_BadPlan w2_TooMany_BadPlan,
    k_TooMany_BadStore := kit_ref xl_BadStore w1_TooMany_BadStore w2_TooMany_BadStore,
    k_TooMany_BadTrip := kit_ref xl_BadTrip w1_TooMany_BadTrip w2_TooMany_BadTrip,
    k_TooMany_BadWay := kit_ref xl_BadWay w1_TooMany_BadWay w2_TooMany_BadWay,
    k_TooMany_NoLand := kit_ref xl_NoLand w1_TooMany_NoLand w2_TooMany_NoLand,
    k_TooMany_NoRow := kit_ref xl_NoRow w1_TooMany_NoRow w2_TooMany_NoRow,
    k_TooMany_NoText := kit_ref xl_NoText w1_TooMany_NoText w2_TooMany_NoText,
    k_TooMany_NoWay := kit_ref xl_NoWay w1_TooMany_NoWay w2_TooMany_NoWay,
    k_TooMany_Taken := kit_ref xl_Taken w1_TooMany_Taken w2_TooMany_Taken,
    k_TooMany_TooMany := kit_self,
    k_NoLand_BadGoal := kit_ref xl_BadGoal w1_NoLand_BadGoal w2_NoLand_BadGoal,
    k_NoLand_BadLabel := kit_ref xl_BadLabel w1_NoLand_BadLabel w2_NoLand_BadLabel,
    k_NoLand_BadLand := kit_ref xl_BadLand w1_NoLand_BadLand w2_NoLand_BadLand,
    k_NoLand_BadPlan := kit_ref xl_BadPlan w1_NoLand_BadPlan w2_NoLand_BadPlan,
    k_NoLand_BadStore := kit_ref xl_BadStore w1_NoLand_BadStore w2_NoLand_BadStore,
    k_NoLand_BadTrip := kit_ref xl_BadTrip w1_NoLand_BadTrip w2_NoLand_BadTrip,
    k_NoLand_BadWay := kit_ref xl_BadWay w1_NoLand_BadWay w2_NoLand_BadWay,
    k_NoLand_NoLand := kit_self,
    k_NoLand_NoRow := kit_ref xl_NoRow w1_NoLand_NoRow w2_NoLand_NoRow,
    k_NoLand_NoText := kit_ref xl_NoText w1_NoLand_NoText w2_NoLand_NoText,
    k_NoLand_NoWay := kit_ref xl_NoWay w1_NoLand_NoWay w2_NoLand_NoWay,
    k_NoLand_Taken := kit_ref xl_Taken w1_NoLand_Taken w2_NoLand_Taken,
    k_NoLand_TooMany := kit_ref xl_TooMany w1_NoLand_TooMany w2_NoLand_TooMany,
    k_BadLabel_BadGoal := kit_ref xl_BadGoal w1_BadLabel_BadGoal w2_BadLabel_BadGoal,
    k_BadLabel_BadLabel := kit_self,
    k_BadLabel_BadLand := kit_ref xl_BadLand w1_BadLabel_BadLand w2_BadLabel_BadLand,
    k_BadLabel_BadPlan := kit_ref xl_BadPlan w1_BadLabel_BadPlan w2_BadLabel_BadPlan,
    k_BadLabel_BadStore := kit_ref xl_BadStore w1_BadLabel_BadStore w2_BadLabel_BadStore,
    k_BadLabel_BadTrip := kit_ref xl_BadTrip w1_BadLabel_BadTrip w2_BadLabel_BadTrip,
    k_BadLabel_BadWay := kit_ref xl_BadWay w1_BadLabel_BadWay w2_BadLabel_BadWay,
    k_BadLabel_NoLand := kit_ref xl_NoLand w1_BadLabel_NoLand w2_BadLabel_NoLand,
    k_BadLabel_NoRow := kit_ref xl_NoRow w1_BadLabel_NoRow w2_BadLabel_NoRow,
    k_BadLabel_NoText := kit_ref xl_NoText w1_BadLabel_NoText w2_BadLabel_NoText,
    k_BadLabel_NoWay := kit_ref xl_NoWay w1_BadLabel_NoWay w2_BadLabel_NoWay,
    k_BadLabel_Taken := kit_ref xl_Taken w1_BadLabel_Taken w2_BadLabel_Taken,
    k_BadLabel_TooMany := kit_ref xl_TooMany w1_BadLabel_TooMany w2_BadLabel_TooMany,
    k_BadWay_BadGoal := kit_ref xl_BadGoal w1_BadWay_BadGoal w2_BadWay_BadGoal,
    k_BadWay_BadLabel := kit_ref xl_BadLabel w1_BadWay_BadLabel w2_BadWay_BadLabel,
    k_BadWay_BadLand := kit_ref xl_BadLand w1_BadWay_BadLand w2_BadWay_BadLand,
    k_BadWay_BadPlan := kit_ref xl_BadPlan w1_BadWay_BadPlan w2_BadWay_BadPlan,
    k_BadWay_BadStore := kit_ref xl_BadStore w1_BadWay_BadStore w2_BadWay_BadStore,
    k_BadWay_BadTrip := kit_ref xl_BadTrip w1_BadWay_BadTrip w2_BadWay_BadTrip,
    k_BadWay_BadWay := kit_self,
    k_BadWay_NoLand := kit_ref xl_NoLand w1_BadWay_NoLand w2_BadWay_NoLand,
    k_BadWay_NoRow := kit_ref xl_NoRow w1_BadWay_NoRow w2_BadWay_NoRow,
    k_BadWay_NoText := kit_ref xl_NoText w1_BadWay_NoText w2_BadWay_NoText,
    k_BadWay_NoWay := kit_ref xl_NoWay w1_BadWay_NoWay w2_BadWay_NoWay,
    k_BadWay_Taken := kit_ref xl_Taken w1_BadWay_Taken w2_BadWay_Taken,
    k_BadWay_TooMany := kit_ref xl_TooMany w1_BadWay_TooMany w2_BadWay_TooMany,
    k_BadStore_BadGoal := kit_ref xl_BadGoal w1_BadStore_BadGoal w2_BadStore_BadGoal,
    k_BadStore_BadLabel := kit_ref xl_BadLabel w1_BadStore_BadLabel w2_BadStore_BadLabel,
    k_BadStore_BadLand := kit_ref xl_BadLand w1_BadStore_BadLand w2_BadStore_BadLand,
    k_BadStore_BadPlan := kit_ref xl_BadPlan w1_BadStore_BadPlan w2_BadStore_BadPlan,
    k_BadStore_BadStore := kit_self,
    k_BadStore_BadTrip := kit_ref xl_BadTrip w1_BadStore_BadTrip w2_BadStore_BadTrip,
    k_BadStore_BadWay := kit_ref xl_BadWay w1_BadStore_BadWay w2_BadStore_BadWay,
    k_BadStore_NoLand := kit_ref xl_NoLand w1_BadStore_NoLand w2_BadStore_NoLand,
    k_BadStore_NoRow := kit_ref xl_NoRow w1_BadStore_NoRow w2_BadStore_NoRow,
    k_BadStore_NoText := kit_ref xl_NoText w1_BadStore_NoText w2_BadStore_NoText,
    k_BadStore_NoWay := kit_ref xl_NoWay w1_BadStore_NoWay w2_BadStore_NoWay,
    k_BadStore_Taken := kit_ref xl_Taken w1_BadStore_Taken w2_BadStore_Taken,
    k_BadStore_TooMany := kit_ref xl_TooMany w1_BadStore_TooMany w2_BadStore_TooMany,
    k_BadGoal_BadGoal := kit_self,
    k_BadGoal_BadLabel := kit_ref xl_BadLabel w1_BadGoal_BadLabel w2_BadGoal_BadLabel,
    k_BadGoal_BadLand := kit_ref xl_BadLand w1_BadGoal_BadLand w2_BadGoal_BadLand,
    k_BadGoal_BadPlan := kit_ref xl_BadPlan w1_BadGoal_BadPlan w2_BadGoal_BadPlan,
    k_BadGoal_BadStore := kit_ref xl_BadStore w1_BadGoal_BadStore w2_BadGoal_BadStore,
    k_BadGoal_BadTrip := kit_ref xl_BadTrip w1_BadGoal_BadTrip w2_BadGoal_BadTrip,
    k_BadGoal_BadWay := kit_ref xl_BadWay w1_BadGoal_BadWay w2_BadGoal_BadWay,
    k_BadGoal_NoLand := kit_ref xl_NoLand w1_BadGoal_NoLand w2_BadGoal_NoLand,
    k_BadGoal_NoRow := kit_ref xl_NoRow w1_BadGoal_NoRow w2_BadGoal_NoRow,
    k_BadGoal_NoText := kit_ref xl_NoText w1_BadGoal_NoText w2_BadGoal_NoText,
    k_BadGoal_NoWay := kit_ref xl_NoWay w1_BadGoal_NoWay w2_BadGoal_NoWay,
    k_BadGoal_Taken := kit_ref xl_Taken w1_BadGoal_Taken w2_BadGoal_Taken,
    k_BadGoal_TooMany := kit_ref xl_TooMany w1_BadGoal_TooMany w2_BadGoal_TooMany,
    k_NoRow_BadGoal := kit_ref xl_BadGoal w1_NoRow_BadGoal w2_NoRow_BadGoal,
    k_NoRow_BadLabel := kit_ref xl_BadLabel w1_NoRow_BadLabel w2_NoRow_BadLabel,
    k_NoRow_BadLand := kit_ref xl_BadLand w1_NoRow_BadLand w2_NoRow_BadLand,
    k_NoRow_BadPlan := kit_ref xl_BadPlan w1_NoRow_BadPlan w2_NoRow_BadPlan,
    k_NoRow_BadStore := kit_ref xl_BadStore w1_NoRow_BadStore w2_NoRow_BadStore,
    k_NoRow_BadTrip := kit_ref xl_BadTrip w1_NoRow_BadTrip w2_NoRow_BadTrip,
    k_NoRow_BadWay := kit_ref xl_BadWay w1_NoRow_BadWay w2_NoRow_BadWay,
    k_NoRow_NoLand := kit_ref xl_NoLand w1_NoRow_NoLand w2_NoRow_NoLand,
    k_NoRow_NoRow := kit_self,
    k_NoRow_NoText := kit_ref xl_NoText w1_NoRow_NoText w2_NoRow_NoText,
    k_NoRow_NoWay := kit_ref xl_NoWay w1_NoRow_NoWay w2_NoRow_NoWay,
    k_NoRow_Taken := kit_ref xl_Taken w1_NoRow_Taken w2_NoRow_Taken,
    k_NoRow_TooMany := kit_ref xl_TooMany w1_NoRow_TooMany w2_NoRow_TooMany,
    k_NoText_BadGoal := kit_ref xl_BadGoal w1_NoText_BadGoal w2_NoText_BadGoal,
    k_NoText_BadLabel := kit_ref xl_BadLabel w1_NoText_BadLabel w2_NoText_BadLabel,
    k_NoText_BadLand := kit_ref xl_BadLand w1_NoText_BadLand w2_NoText_BadLand,
    k_NoText_BadPlan := kit_ref xl_BadPlan w1_NoText_BadPlan w2_NoText_BadPlan,
    k_NoText_BadStore := kit_ref xl_BadStore w1_NoText_BadStore w2_NoText_BadStore,
    k_NoText_BadTrip := kit_ref xl_BadTrip w1_NoText_BadTrip w2_NoText_BadTrip,
    k_NoText_BadWay := kit_ref xl_BadWay w1_NoText_BadWay w2_NoText_BadWay,
    k_NoText_NoLand := kit_ref xl_NoLand w1_NoText_NoLand w2_NoText_NoLand,
    k_NoText_NoRow := kit_ref xl_NoRow w1_NoText_NoRow w2_NoText_NoRow,
    k_NoText_NoText := kit_self,
    k_NoText_NoWay := kit_ref xl_NoWay w1_NoText_NoWay w2_NoText_NoWay,
    k_NoText_Taken := kit_ref xl_Taken w1_NoText_Taken w2_NoText_Taken,
    k_NoText_TooMany := kit_ref xl_TooMany w1_NoText_TooMany w2_NoText_TooMany,
    a_hand := f0, d_hand := _, F_hand := fun_mk (st := s_hand) l0 c0 k0, mg_hand := PySem.W.mg_of X G a0, kp_hand := k0,
    a_next := f1, d_next := _, F_next := fun_mk (st := s_next) l1 c1 k1, mg_next := PySem.W.mg_of X G a1, kp_next := k1,
    a_take := f2, d_take := _, F_take := fun_mk (st := s_take) l2 c2 k2, mg_take := PySem.W.mg_of X G a2, kp_take := k2,
    a_draw := f3, d_draw := _, F_draw := fun_mk (st := s_draw) l3 c3 k3, mg_draw := PySem.W.mg_of X G a3, kp_draw := k3,
    a_raise := f4, d_raise := _, F_raise := fun_mk (st := s_raise) l4 c4 k4, mg_raise := PySem.W.mg_of X G a4, kp_raise := k4,
    a_kinds := f5, d_kinds := _, F_kinds := fun_mk (st := s_kinds) l5 c5 k5, mg_kinds := PySem.W.mg_of X G a5, kp_kinds := k5,
    a_field := f6, d_field := _, F_field := fun_mk (st := s_field) l6 c6 k6, mg_field := PySem.W.mg_of X G a6, kp_field := k6,
    a_told := f7, d_told := _, F_told := fun_mk (st := s_told) l7 c7 k7, mg_told := PySem.W.mg_of X G a7, kp_told := k7,
    a_law := fa, d_law := _, F_law := fun_mk (st := s_law) l8 c8 k8, mg_law := PySem.W.mg_of X G a8, kp_law := k8 }
  exact ⟨PySem.W.fnOf "law" "law" (defArgs s_law) (defBody s_law) (defScope s_law) .none kV8 dc8 pm8 an8 cd8 ct8, fun s v => .of_eq rfl, fun base _ _ => ok_law T⟩
end
theorem walk {l : PySem.W.OpenLaw} {q : Program} {loose : List Str} {XP : (Str → Option Value) → Heap → Prop} {YP : World → Heap → Prop} {d : DefRec} {K : Params → PySem.W.Frag} (hn : l.most = some 63) (hdf : d.params.defaults = [])
    (hY : ∀ (w : World) (h : Heap), YP w h → (K w.params).In h)
    (F : ∀ (w : World) (mg : Str → Option Value) (fa : Addr) (h : Heap), (K w.params).In h → h.Ns mainGlobals mg → mg d.name = some (.ref fa) →
      ∃ fd : FuncData, (∀ (s : Shared) (u : Value), BindsTo s fd ⟨[u], []⟩ [("_law_script", u)]) ∧ ∀ base : Heap, (K w.params).In base → base.Ns mainGlobals mg → FnOk l.prog w (K w.params) mg base CX0 8 fa fd ["_law_script"] (spLaw (K w.params))) :
    PySem.W.WalkO q loose XP YP l.row.toRowW d [] (fun f vs => PySem.call f vs) :=
  L2.walk_of (n := 63) (k := 8) (x := "_law_script") (CX := fun _ => CX0) (sp := fun w => spLaw (K w.params)) hn (by decide) hdf ⟨rfl, by decide, by decide, rfl⟩ hY F (fun _ _ a ns hl _ hS => ⟨a, ns, rfl, hS, hl, fun _ => rfl⟩) fun _ _ _ _ _ z => z
end My
def PySem.W.Fast.tw8698658761341295862 : Unit := ()
def PySem.W.Fast.tw2326800275446255382 : Unit := ()
def PySem.W.Fast.tw15888004255119715716 : Unit := ()
def PySem.W.Fast.tw14291641449170547794 : Unit := ()
def PySem.W.Fast.tw9440535188406607537 : Unit := ()
def PySem.W.Fast.tw14476285437823124971 : Unit := ()
def PySem.W.Fast.tw6895768842835928902 : Unit := ()
def PySem.W.Fast.tw1665797566818225255 : Unit := ()
open PySem PySem.W PyProof.Rows
set_option maxRecDepth 100000 in
set_option maxHeartbeats 0 in
theorem PySem.Challenge.cw_trudge_k19_refusals_apart_holds : PySem.Challenge.rw_trudge_k19_refusals_apart.Holds := by
  w_on; o_law; k_head; (case hw => w_witness2)
  k_fill
  refine My.walk (l := PySem.Challenge.rw_trudge_k19_refusals_apart) rfl rfl (fun w h Y => PySem.W.kIn_of Y) ?F
  case F =>
    intro w mg fa h KX G hmg
    refine' My.all_mk KX G hmg ?a0 ?l0 ?c0 ?k0 ?a1 ?l1 ?c1 ?k1 ?a2 ?l2 ?c2 ?k2 ?a3 ?l3 ?c3 ?k3 ?a4 ?l4 ?c4 ?k4 ?a5 ?l5 ?c5 ?k5 ?a6 ?l6 ?c6 ?k6 ?a7 ?l7 ?c7 ?k7 ?a8 ?l8 ?c8 ?k8 ?z_ValueError ?z_abs ?z_isinstance ?z_len ?z_list ?z_range ?xa_TrudgeError ?xa_BadLand ?xa_BadTrip ?xa_BadPlan ?xa_BadLabel ?xa_Taken ?xa_BadWay ?xa_TooMany ?xa_NoWay ?xa_BadStore ?xa_BadGoal ?xa_NoRow ?xa_NoText ?xa_NoLand ?xl_TrudgeError ?xl_BadLand ?xl_BadTrip ?xl_BadPlan ?xl_BadLabel ?xl_Taken ?xl_BadWay ?xl_TooMany ?xl_NoWay ?xl_BadStore ?xl_BadGoal ?xl_NoRow ?xl_NoText ?xl_NoLand ?xn4 ?xe5 ?xa5 ?xe6 ?xm4 ?xhn ?xtk ?y1_BadLand ?y2_BadLand ?y3_BadLand ?y4_BadLand ?y5_BadLand ?y6_BadLand ?y7_BadLand ?y8_BadLand ?y9_BadLand ?ya_BadLand ?yb_BadLand ?yc_BadLand ?yd_BadLand ?ye_BadLand ?yf_BadLand ?z1_BadLand ?z2_BadLand ?z3_BadLand ?y1_BadTrip ?y2_BadTrip ?y3_BadTrip ?y4_BadTrip ?y5_BadTrip ?y6_BadTrip ?y7_BadTrip ?y8_BadTrip ?y9_BadTrip ?ya_BadTrip ?yb_BadTrip ?yc_BadTrip ?yd_BadTrip ?ye_BadTrip ?yf_BadTrip ?z1_BadTrip ?z2_BadTrip ?z3_BadTrip ?y1_BadPlan ?y2_BadPlan ?y3_BadPlan ?y4_BadPlan ?y5_BadPlan ?y6_BadPlan ?y7_BadPlan ?y8_BadPlan ?y9_BadPlan ?ya_BadPlan ?yb_BadPlan ?yc_BadPlan ?yd_BadPlan ?ye_BadPlan ?yf_BadPlan ?z1_BadPlan ?z2_BadPlan ?z3_BadPlan ?y1_Taken ?y2_Taken ?y3_Taken ?y4_Taken ?y5_Taken ?y6_Taken ?y7_Taken ?y8_Taken ?y9_Taken ?ya_Taken ?yb_Taken ?yc_Taken ?yd_Taken ?ye_Taken ?yf_Taken ?z1_Taken ?z2_Taken ?z3_Taken ?y1_NoWay ?y2_NoWay ?y3_NoWay ?y4_NoWay ?y5_NoWay ?y6_NoWay ?y7_NoWay ?y8_NoWay ?y9_NoWay ?ya_NoWay ?yb_NoWay ?yc_NoWay ?yd_NoWay ?ye_NoWay ?yf_NoWay ?z1_NoWay ?z2_NoWay ?z3_NoWay ?y1_TooMany ?y2_TooMany ?y3_TooMany ?y4_TooMany ?y5_TooMany ?y6_TooMany ?y7_TooMany ?y8_TooMany ?y9_TooMany ?ya_TooMany ?yb_TooMany ?yc_TooMany ?yd_TooMany ?ye_TooMany ?yf_TooMany ?z1_TooMany ?z2_TooMany ?z3_TooMany ?y1_NoLand ?y2_NoLand ?y3_NoLand ?y5_NoLand ?y4_NoLand ?y9_NoLand ?ya_NoLand ?yb_NoLand ?yc_NoLand ?yd_NoLand ?ye_NoLand ?yf_NoLand ?y1_BadLabel ?y2_BadLabel ?y3_BadLabel ?y5_BadLabel ?y4_BadLabel ?y9_BadLabel ?ya_BadLabel ?yb_BadLabel ?yc_BadLabel ?yd_BadLabel ?ye_BadLabel ?yf_BadLabel ?y1_BadWay ?y2_BadWay ?y3_BadWay ?y5_BadWay ?y4_BadWay ?y9_BadWay ?ya_BadWay ?yb_BadWay ?yc_BadWay ?yd_BadWay ?ye_BadWay ?yf_BadWay ?y1_BadStore ?y2_BadStore ?y3_BadStore ?y5_BadStore ?y4_BadStore ?y9_BadStore ?ya_BadStore ?yb_BadStore ?yc_BadStore ?yd_BadStore ?ye_BadStore ?yf_BadStore ?y1_BadGoal ?y2_BadGoal ?y3_BadGoal ?y5_BadGoal ?y4_BadGoal ?y9_BadGoal ?ya_BadGoal ?yb_BadGoal ?yc_BadGoal ?yd_BadGoal ?ye_BadGoal ?yf_BadGoal ?y1_NoRow ?y2_NoRow ?y3_NoRow ?y5_NoRow ?y4_NoRow ?y9_NoRow ?ya_NoRow ?yb_NoRow ?yc_NoRow ?yd_NoRow ?ye_NoRow ?yf_NoRow ?y1_NoText ?y2_NoText ?y3_NoText ?y5_NoText ?y4_NoText ?y9_NoText ?ya_NoText ?yb_NoText ?yc_NoText ?yd_NoText ?ye_NoText ?yf_NoText ?w1_BadLand_BadGoal ?w2_BadLand_BadGoal ?w1_BadLand_BadLabel ?w2_BadLand_BadLabel ?w1_BadLand_BadPlan ?w2_BadLand_BadPlan ?w1_BadLand_BadStore ?w2_BadLand_BadStore ?w1_BadLand_BadTrip ?w2_BadLand_BadTrip ?w1_BadLand_BadWay ?w2_BadLand_BadWay ?w1_BadLand_NoLand ?w2_BadLand_NoLand ?w1_BadLand_NoRow ?w2_BadLand_NoRow ?w1_BadLand_NoText ?w2_BadLand_NoText ?w1_BadLand_NoWay ?w2_BadLand_NoWay ?w1_BadLand_Taken ?w2_BadLand_Taken ?w1_BadLand_TooMany ?w2_BadLand_TooMany ?w1_BadTrip_BadGoal ?w2_BadTrip_BadGoal ?w1_BadTrip_BadLabel ?w2_BadTrip_BadLabel ?w1_BadTrip_BadLand ?w2_BadTrip_BadLand ?w1_BadTrip_BadPlan ?w2_BadTrip_BadPlan ?w1_BadTrip_BadStore ?w2_BadTrip_BadStore ?w1_BadTrip_BadWay ?w2_BadTrip_BadWay ?w1_BadTrip_NoLand ?w2_BadTrip_NoLand ?w1_BadTrip_NoRow ?w2_BadTrip_NoRow ?w1_BadTrip_NoText ?w2_BadTrip_NoText ?w1_BadTrip_NoWay ?w2_BadTrip_NoWay ?w1_BadTrip_Taken ?w2_BadTrip_Taken ?w1_BadTrip_TooMany ?w2_BadTrip_TooMany ?w1_BadPlan_BadGoal ?w2_BadPlan_BadGoal ?w1_BadPlan_BadLabel ?w2_BadPlan_BadLabel ?w1_BadPlan_BadLand ?w2_BadPlan_BadLand ?w1_BadPlan_BadStore ?w2_BadPlan_BadStore ?w1_BadPlan_BadTrip ?w2_BadPlan_BadTrip ?w1_BadPlan_BadWay ?w2_BadPlan_BadWay ?w1_BadPlan_NoLand ?w2_BadPlan_NoLand ?w1_BadPlan_NoRow ?w2_BadPlan_NoRow ?w1_BadPlan_NoText ?w2_BadPlan_NoText ?w1_BadPlan_NoWay ?w2_BadPlan_NoWay ?w1_BadPlan_Taken ?w2_BadPlan_Taken ?w1_BadPlan_TooMany ?w2_BadPlan_TooMany ?w1_Taken_BadGoal ?w2_Taken_BadGoal ?w1_Taken_BadLabel ?w2_Taken_BadLabel ?w1_Taken_BadLand ?w2_Taken_BadLand ?w1_Taken_BadPlan ?w2_Taken_BadPlan ?w1_Taken_BadStore ?w2_Taken_BadStore ?w1_Taken_BadTrip ?w2_Taken_BadTrip ?w1_Taken_BadWay ?w2_Taken_BadWay ?w1_Taken_NoLand ?w2_Taken_NoLand ?w1_Taken_NoRow ?w2_Taken_NoRow ?w1_Taken_NoText ?w2_Taken_NoText ?w1_Taken_NoWay ?w2_Taken_NoWay ?w1_Taken_TooMany ?w2_Taken_TooMany ?w1_NoWay_BadGoal ?w2_NoWay_BadGoal ?w1_NoWay_BadLabel ?w2_NoWay_BadLabel ?w1_NoWay_BadLand ?w2_NoWay_BadLand ?w1_NoWay_BadPlan ?w2_NoWay_BadPlan ?w1_NoWay_BadStore ?w2_NoWay_BadStore ?w1_NoWay_BadTrip ?w2_NoWay_BadTrip ?w1_NoWay_BadWay ?w2_NoWay_BadWay ?w1_NoWay_NoLand ?w2_NoWay_NoLand ?w1_NoWay_NoRow ?w2_NoWay_NoRow ?w1_NoWay_NoText ?w2_NoWay_NoText ?w1_NoWay_Taken ?w2_NoWay_Taken ?w1_NoWay_TooMany ?w2_NoWay_TooMany ?w1_TooMany_BadGoal ?w2_TooMany_BadGoal ?w1_TooMany_BadLabel ?w2_TooMany_BadLabel ?w1_TooMany_BadLand ?w2_TooMany_BadLand ?w1_TooMany_BadPlan ?w2_TooMany_BadPlan ?w1_TooMany_BadStore ?w2_TooMany_BadStore ?w1_TooMany_BadTrip ?w2_TooMany_BadTrip ?w1_TooMany_BadWay ?w2_TooMany_BadWay ?w1_TooMany_NoLand ?w2_TooMany_NoLand ?w1_TooMany_NoRow ?w2_TooMany_NoRow ?w1_TooMany_NoText ?w2_TooMany_NoText ?w1_TooMany_NoWay ?w2_TooMany_NoWay ?w1_TooMany_Taken ?w2_TooMany_Taken ?w1_NoLand_BadGoal ?w2_NoLand_BadGoal ?w1_NoLand_BadLabel ?w2_NoLand_BadLabel ?w1_NoLand_BadLand ?w2_NoLand_BadLand ?w1_NoLand_BadPlan ?w2_NoLand_BadPlan ?w1_NoLand_BadStore ?w2_NoLand_BadStore ?w1_NoLand_BadTrip ?w2_NoLand_BadTrip ?w1_NoLand_BadWay ?w2_NoLand_BadWay ?w1_NoLand_NoRow ?w2_NoLand_NoRow ?w1_NoLand_NoText ?w2_NoLand_NoText ?w1_NoLand_NoWay ?w2_NoLand_NoWay ?w1_NoLand_Taken ?w2_NoLand_Taken ?w1_NoLand_TooMany ?w2_NoLand_TooMany ?w1_BadLabel_BadGoal ?w2_BadLabel_BadGoal ?w1_BadLabel_BadLand ?w2_BadLabel_BadLand ?w1_BadLabel_BadPlan ?w2_BadLabel_BadPlan ?w1_BadLabel_BadStore ?w2_BadLabel_BadStore ?w1_BadLabel_BadTrip ?w2_BadLabel_BadTrip ?w1_BadLabel_BadWay ?w2_BadLabel_BadWay ?w1_BadLabel_NoLand ?w2_BadLabel_NoLand ?w1_BadLabel_NoRow ?w2_BadLabel_NoRow ?w1_BadLabel_NoText ?w2_BadLabel_NoText ?w1_BadLabel_NoWay ?w2_BadLabel_NoWay ?w1_BadLabel_Taken ?w2_BadLabel_Taken ?w1_BadLabel_TooMany ?w2_BadLabel_TooMany ?w1_BadWay_BadGoal ?w2_BadWay_BadGoal ?w1_BadWay_BadLabel ?w2_BadWay_BadLabel ?w1_BadWay_BadLand ?w2_BadWay_BadLand ?w1_BadWay_BadPlan ?w2_BadWay_BadPlan ?w1_BadWay_BadStore ?w2_BadWay_BadStore ?w1_BadWay_BadTrip ?w2_BadWay_BadTrip ?w1_BadWay_NoLand ?w2_BadWay_NoLand ?w1_BadWay_NoRow ?w2_BadWay_NoRow ?w1_BadWay_NoText ?w2_BadWay_NoText ?w1_BadWay_NoWay ?w2_BadWay_NoWay ?w1_BadWay_Taken ?w2_BadWay_Taken ?w1_BadWay_TooMany ?w2_BadWay_TooMany ?w1_BadStore_BadGoal ?w2_BadStore_BadGoal ?w1_BadStore_BadLabel ?w2_BadStore_BadLabel ?w1_BadStore_BadLand ?w2_BadStore_BadLand ?w1_BadStore_BadPlan ?w2_BadStore_BadPlan ?w1_BadStore_BadTrip ?w2_BadStore_BadTrip ?w1_BadStore_BadWay ?w2_BadStore_BadWay ?w1_BadStore_NoLand ?w2_BadStore_NoLand ?w1_BadStore_NoRow ?w2_BadStore_NoRow ?w1_BadStore_NoText ?w2_BadStore_NoText ?w1_BadStore_NoWay ?w2_BadStore_NoWay ?w1_BadStore_Taken ?w2_BadStore_Taken ?w1_BadStore_TooMany ?w2_BadStore_TooMany ?w1_BadGoal_BadLabel ?w2_BadGoal_BadLabel ?w1_BadGoal_BadLand ?w2_BadGoal_BadLand ?w1_BadGoal_BadPlan ?w2_BadGoal_BadPlan ?w1_BadGoal_BadStore ?w2_BadGoal_BadStore ?w1_BadGoal_BadTrip ?w2_BadGoal_BadTrip ?w1_BadGoal_BadWay ?w2_BadGoal_BadWay ?w1_BadGoal_NoLand ?w2_BadGoal_NoLand ?w1_BadGoal_NoRow ?w2_BadGoal_NoRow ?w1_BadGoal_NoText ?w2_BadGoal_NoText ?w1_BadGoal_NoWay ?w2_BadGoal_NoWay ?w1_BadGoal_Taken ?w2_BadGoal_Taken ?w1_BadGoal_TooMany ?w2_BadGoal_TooMany ?w1_NoRow_BadGoal ?w2_NoRow_BadGoal ?w1_NoRow_BadLabel ?w2_NoRow_BadLabel ?w1_NoRow_BadLand ?w2_NoRow_BadLand ?w1_NoRow_BadPlan ?w2_NoRow_BadPlan ?w1_NoRow_BadStore ?w2_NoRow_BadStore ?w1_NoRow_BadTrip ?w2_NoRow_BadTrip ?w1_NoRow_BadWay ?w2_NoRow_BadWay ?w1_NoRow_NoLand ?w2_NoRow_NoLand ?w1_NoRow_NoText ?w2_NoRow_NoText ?w1_NoRow_NoWay ?w2_NoRow_NoWay ?w1_NoRow_Taken ?w2_NoRow_Taken ?w1_NoRow_TooMany ?w2_NoRow_TooMany ?w1_NoText_BadGoal ?w2_NoText_BadGoal ?w1_NoText_BadLabel ?w2_NoText_BadLabel ?w1_NoText_BadLand ?w2_NoText_BadLand ?w1_NoText_BadPlan ?w2_NoText_BadPlan ?w1_NoText_BadStore ?w2_NoText_BadStore ?w1_NoText_BadTrip ?w2_NoText_BadTrip ?w1_NoText_BadWay ?w2_NoText_BadWay ?w1_NoText_NoLand ?w2_NoText_NoLand ?w1_NoText_NoRow ?w2_NoText_NoRow ?w1_NoText_NoWay ?w2_NoText_NoWay ?w1_NoText_Taken ?w2_NoText_Taken ?w1_NoText_TooMany ?w2_NoText_TooMany
    (case a0 => k_is); (case l0 => k_is); (case c0 => k_is); (case k0 => k_is)
    (case a1 => k_is); (case l1 => k_is); (case c1 => k_is); (case k1 => k_is)
    (case a2 => k_is); (case l2 => k_is); (case c2 => k_is); (case k2 => k_is)
    (case a3 => k_is); (case l3 => k_is); (case c3 => k_is); (case k3 => k_is)
    (case a4 => k_is); (case l4 => k_is); (case c4 => k_is); (case k4 => k_is)
    (case a5 => k_is); (case l5 => k_is); (case c5 => k_is); (case k5 => k_is)
    (case a6 => k_is); (case l6 => k_is); (case c6 => k_is); (case k6 => k_is)
    (case a7 => k_is); (case l7 => k_is); (case c7 => k_is); (case k7 => k_is)
    (case a8 => k_is); (case l8 => k_is); (case c8 => k_is); (case k8 => k_is)
    (case z_ValueError => k_is); (case z_abs => k_is); (case z_isinstance => k_is); (case z_len => k_is); (case z_list => k_is); (case z_range => k_is)
    (case xa_TrudgeError => k_is); (case xa_BadLand => k_is); (case xa_BadTrip => k_is); (case xa_BadPlan => k_is); (case xa_BadLabel => k_is); (case xa_Taken => k_is); (case xa_BadWay => k_is); (case xa_TooMany => k_is); (case xa_NoWay => k_is); (case xa_BadStore => k_is); (case xa_BadGoal => k_is); (case xa_NoRow => k_is); (case xa_NoText => k_is); (case xa_NoLand => k_is); (case xl_TrudgeError => k_is); (case xl_BadLand => k_is); (case xl_BadTrip => k_is); (case xl_BadPlan => k_is); (case xl_BadLabel => k_is); (case xl_Taken => k_is); (case xl_BadWay => k_is); (case xl_TooMany => k_is); (case xl_NoWay => k_is); (case xl_BadStore => k_is); (case xl_BadGoal => k_is); (case xl_NoRow => k_is); (case xl_NoText => k_is); (case xl_NoLand => k_is); (case xn4 => rfl); (case xe5 => k_is); (case xa5 => rfl); (case xe6 => k_is); (case xm4 => k_is); (case xhn => k_is); (case xtk => k_is); (case y1_BadLand => k_is); (case y2_BadLand => k_is); (case y3_BadLand => rfl); (case y4_BadLand => k_is); (case y5_BadLand => k_is); (case y6_BadLand => k_is); (case y7_BadLand => k_is); (case y8_BadLand => k_is); (case y9_BadLand => k_is); (case ya_BadLand => k_is); (case yb_BadLand => k_is); (case yc_BadLand => k_is); (case yd_BadLand => k_is); (case ye_BadLand => k_is); (case yf_BadLand => k_is); (case z1_BadLand => k_is); (case z2_BadLand => k_is); (case z3_BadLand => k_is); (case y1_BadTrip => k_is); (case y2_BadTrip => k_is); (case y3_BadTrip => rfl); (case y4_BadTrip => k_is); (case y5_BadTrip => k_is); (case y6_BadTrip => k_is); (case y7_BadTrip => k_is); (case y8_BadTrip => k_is); (case y9_BadTrip => k_is); (case ya_BadTrip => k_is); (case yb_BadTrip => k_is); (case yc_BadTrip => k_is); (case yd_BadTrip => k_is); (case ye_BadTrip => k_is); (case yf_BadTrip => k_is); (case z1_BadTrip => k_is); (case z2_BadTrip => k_is); (case z3_BadTrip => k_is); (case y1_BadPlan => k_is); (case y2_BadPlan => k_is); (case y3_BadPlan => rfl); (case y4_BadPlan => k_is); (case y5_BadPlan => k_is); (case y6_BadPlan => k_is); (case y7_BadPlan => k_is); (case y8_BadPlan => k_is); (case y9_BadPlan => k_is); (case ya_BadPlan => k_is); (case yb_BadPlan => k_is); (case yc_BadPlan => k_is); (case yd_BadPlan => k_is); (case ye_BadPlan => k_is); (case yf_BadPlan => k_is); (case z1_BadPlan => k_is); (case z2_BadPlan => k_is); (case z3_BadPlan => k_is); (case y1_Taken => k_is); (case y2_Taken => k_is); (case y3_Taken => rfl); (case y4_Taken => k_is); (case y5_Taken => k_is); (case y6_Taken => k_is); (case y7_Taken => k_is); (case y8_Taken => k_is); (case y9_Taken => k_is); (case ya_Taken => k_is); (case yb_Taken => k_is); (case yc_Taken => k_is); (case yd_Taken => k_is); (case ye_Taken => k_is); (case yf_Taken => k_is); (case z1_Taken => k_is); (case z2_Taken => k_is); (case z3_Taken => k_is); (case y1_NoWay => k_is); (case y2_NoWay => k_is); (case y3_NoWay => rfl); (case y4_NoWay => k_is); (case y5_NoWay => k_is); (case y6_NoWay => k_is); (case y7_NoWay => k_is); (case y8_NoWay => k_is); (case y9_NoWay => k_is); (case ya_NoWay => k_is); (case yb_NoWay => k_is); (case yc_NoWay => k_is); (case yd_NoWay => k_is); (case ye_NoWay => k_is); (case yf_NoWay => k_is); (case z1_NoWay => k_is); (case z2_NoWay => k_is); (case z3_NoWay => k_is); (case y1_TooMany => k_is); (case y2_TooMany => k_is); (case y3_TooMany => rfl); (case y4_TooMany => k_is); (case y5_TooMany => k_is); (case y6_TooMany => k_is); (case y7_TooMany => k_is); (case y8_TooMany => k_is); (case y9_TooMany => k_is); (case ya_TooMany => k_is); (case yb_TooMany => k_is); (case yc_TooMany => k_is); (case yd_TooMany => k_is); (case ye_TooMany => k_is); (case yf_TooMany => k_is); (case z1_TooMany => k_is); (case z2_TooMany => k_is); (case z3_TooMany => k_is); (case y1_NoLand => k_is); (case y2_NoLand => k_is); (case y3_NoLand => rfl); (case y5_NoLand => k_is); (case y4_NoLand => k_is); (case y9_NoLand => k_is); (case ya_NoLand => k_is); (case yb_NoLand => k_is); (case yc_NoLand => k_is); (case yd_NoLand => k_is); (case ye_NoLand => k_is); (case yf_NoLand => k_is); (case y1_BadLabel => k_is); (case y2_BadLabel => k_is); (case y3_BadLabel => rfl); (case y5_BadLabel => k_is); (case y4_BadLabel => k_is); (case y9_BadLabel => k_is); (case ya_BadLabel => k_is); (case yb_BadLabel => k_is); (case yc_BadLabel => k_is); (case yd_BadLabel => k_is); (case ye_BadLabel => k_is); (case yf_BadLabel => k_is); (case y1_BadWay => k_is); (case y2_BadWay => k_is); (case y3_BadWay => rfl); (case y5_BadWay => k_is); (case y4_BadWay => k_is); (case y9_BadWay => k_is); (case ya_BadWay => k_is); (case yb_BadWay => k_is); (case yc_BadWay => k_is); (case yd_BadWay => k_is); (case ye_BadWay => k_is); (case yf_BadWay => k_is); (case y1_BadStore => k_is); (case y2_BadStore => k_is); (case y3_BadStore => rfl); (case y5_BadStore => k_is); (case y4_BadStore => k_is); (case y9_BadStore => k_is); (case ya_BadStore => k_is); (case yb_BadStore => k_is); (case yc_BadStore => k_is); (case yd_BadStore => k_is); (case ye_BadStore => k_is); (case yf_BadStore => k_is); (case y1_BadGoal => k_is); (case y2_BadGoal => k_is); (case y3_BadGoal => rfl); (case y5_BadGoal => k_is); (case y4_BadGoal => k_is); (case y9_BadGoal => k_is); (case ya_BadGoal => k_is); (case yb_BadGoal => k_is); (case yc_BadGoal => k_is); (case yd_BadGoal => k_is); (case ye_BadGoal => k_is); (case yf_BadGoal => k_is); (case y1_NoRow => k_is); (case y2_NoRow => k_is); (case y3_NoRow => rfl); (case y5_NoRow => k_is); (case y4_NoRow => k_is); (case y9_NoRow => k_is); (case ya_NoRow => k_is); (case yb_NoRow => k_is); (case yc_NoRow => k_is); (case yd_NoRow => k_is); (case ye_NoRow => k_is); (case yf_NoRow => k_is); (case y1_NoText => k_is); (case y2_NoText => k_is); (case y3_NoText => rfl); (case y5_NoText => k_is); (case y4_NoText => k_is); (case y9_NoText => k_is); (case ya_NoText => k_is); (case yb_NoText => k_is); (case yc_NoText => k_is); (case yd_NoText => k_is); (case ye_NoText => k_is); (case yf_NoText => k_is); (case w1_BadLand_BadGoal => k_is); (case w2_BadLand_BadGoal => rfl); (case w1_BadLand_BadLabel => k_is); (case w2_BadLand_BadLabel => rfl); (case w1_BadLand_BadPlan => k_is); (case w2_BadLand_BadPlan => rfl); (case w1_BadLand_BadStore => k_is); (case w2_BadLand_BadStore => rfl); (case w1_BadLand_BadTrip => k_is); (case w2_BadLand_BadTrip => rfl); (case w1_BadLand_BadWay => k_is); (case w2_BadLand_BadWay => rfl); (case w1_BadLand_NoLand => k_is); (case w2_BadLand_NoLand => rfl); (case w1_BadLand_NoRow => k_is); (case w2_BadLand_NoRow => rfl); (case w1_BadLand_NoText => k_is); (case w2_BadLand_NoText => rfl); (case w1_BadLand_NoWay => k_is); (case w2_BadLand_NoWay => rfl); (case w1_BadLand_Taken => k_is); (case w2_BadLand_Taken => rfl); (case w1_BadLand_TooMany => k_is); (case w2_BadLand_TooMany => rfl); (case w1_BadTrip_BadGoal => k_is); (case w2_BadTrip_BadGoal => rfl); (case w1_BadTrip_BadLabel => k_is); (case w2_BadTrip_BadLabel => rfl); (case w1_BadTrip_BadLand => k_is); (case w2_BadTrip_BadLand => rfl); (case w1_BadTrip_BadPlan => k_is); (case w2_BadTrip_BadPlan => rfl); (case w1_BadTrip_BadStore => k_is); (case w2_BadTrip_BadStore => rfl); (case w1_BadTrip_BadWay => k_is); (case w2_BadTrip_BadWay => rfl); (case w1_BadTrip_NoLand => k_is); (case w2_BadTrip_NoLand => rfl); (case w1_BadTrip_NoRow => k_is); (case w2_BadTrip_NoRow => rfl); (case w1_BadTrip_NoText => k_is); (case w2_BadTrip_NoText => rfl); (case w1_BadTrip_NoWay => k_is); (case w2_BadTrip_NoWay => rfl); (case w1_BadTrip_Taken => k_is); (case w2_BadTrip_Taken => rfl); (case w1_BadTrip_TooMany => k_is); (case w2_BadTrip_TooMany => rfl); (case w1_BadPlan_BadGoal => k_is); (case w2_BadPlan_BadGoal => rfl); (case w1_BadPlan_BadLabel => k_is); (case w2_BadPlan_BadLabel => rfl); (case w1_BadPlan_BadLand => k_is); (case w2_BadPlan_BadLand => rfl); (case w1_BadPlan_BadStore => k_is); (case w2_BadPlan_BadStore => rfl); (case w1_BadPlan_BadTrip => k_is); (case w2_BadPlan_BadTrip => rfl); (case w1_BadPlan_BadWay => k_is); (case w2_BadPlan_BadWay => rfl); (case w1_BadPlan_NoLand => k_is); (case w2_BadPlan_NoLand => rfl); (case w1_BadPlan_NoRow => k_is); (case w2_BadPlan_NoRow => rfl); (case w1_BadPlan_NoText => k_is); (case w2_BadPlan_NoText => rfl); (case w1_BadPlan_NoWay => k_is); (case w2_BadPlan_NoWay => rfl); (case w1_BadPlan_Taken => k_is); (case w2_BadPlan_Taken => rfl); (case w1_BadPlan_TooMany => k_is); (case w2_BadPlan_TooMany => rfl); (case w1_Taken_BadGoal => k_is); (case w2_Taken_BadGoal => rfl); (case w1_Taken_BadLabel => k_is); (case w2_Taken_BadLabel => rfl); (case w1_Taken_BadLand => k_is); (case w2_Taken_BadLand => rfl); (case w1_Taken_BadPlan => k_is); (case w2_Taken_BadPlan => rfl); (case w1_Taken_BadStore => k_is); (case w2_Taken_BadStore => rfl); (case w1_Taken_BadTrip => k_is); (case w2_Taken_BadTrip => rfl); (case w1_Taken_BadWay => k_is); (case w2_Taken_BadWay => rfl); (case w1_Taken_NoLand => k_is); (case w2_Taken_NoLand => rfl); (case w1_Taken_NoRow => k_is); (case w2_Taken_NoRow => rfl); (case w1_Taken_NoText => k_is); (case w2_Taken_NoText => rfl); (case w1_Taken_NoWay => k_is); (case w2_Taken_NoWay => rfl); (case w1_Taken_TooMany => k_is); (case w2_Taken_TooMany => rfl); (case w1_NoWay_BadGoal => k_is); (case w2_NoWay_BadGoal => rfl); (case w1_NoWay_BadLabel => k_is); (case w2_NoWay_BadLabel => rfl); (case w1_NoWay_BadLand => k_is); (case w2_NoWay_BadLand => rfl); (case w1_NoWay_BadPlan => k_is); (case w2_NoWay_BadPlan => rfl); (case w1_NoWay_BadStore => k_is); (case w2_NoWay_BadStore => rfl); (case w1_NoWay_BadTrip => k_is); (case w2_NoWay_BadTrip => rfl); (case w1_NoWay_BadWay => k_is); (case w2_NoWay_BadWay => rfl); (case w1_NoWay_NoLand => k_is); (case w2_NoWay_NoLand => rfl); (case w1_NoWay_NoRow => k_is); (case w2_NoWay_NoRow => rfl); (case w1_NoWay_NoText => k_is); (case w2_NoWay_NoText => rfl); (case w1_NoWay_Taken => k_is); (case w2_NoWay_Taken => rfl); (case w1_NoWay_TooMany => k_is); (case w2_NoWay_TooMany => rfl); (case w1_TooMany_BadGoal => k_is); (case w2_TooMany_BadGoal => rfl); (case w1_TooMany_BadLabel => k_is); (case w2_TooMany_BadLabel => rfl); (case w1_TooMany_BadLand => k_is); (case w2_TooMany_BadLand => rfl); (case w1_TooMany_BadPlan => k_is); (case w2_TooMany_BadPlan => rfl); (case w1_TooMany_BadStore => k_is); (case w2_TooMany_BadStore => rfl); (case w1_TooMany_BadTrip => k_is); (case w2_TooMany_BadTrip => rfl); (case w1_TooMany_BadWay => k_is); (case w2_TooMany_BadWay => rfl); (case w1_TooMany_NoLand => k_is); (case w2_TooMany_NoLand => rfl); (case w1_TooMany_NoRow => k_is); (case w2_TooMany_NoRow => rfl); (case w1_TooMany_NoText => k_is); (case w2_TooMany_NoText => rfl); (case w1_TooMany_NoWay => k_is); (case w2_TooMany_NoWay => rfl); (case w1_TooMany_Taken => k_is); (case w2_TooMany_Taken => rfl); (case w1_NoLand_BadGoal => k_is); (case w2_NoLand_BadGoal => rfl); (case w1_NoLand_BadLabel => k_is); (case w2_NoLand_BadLabel => rfl); (case w1_NoLand_BadLand => k_is); (case w2_NoLand_BadLand => rfl); (case w1_NoLand_BadPlan => k_is); (case w2_NoLand_BadPlan => rfl); (case w1_NoLand_BadStore => k_is); (case w2_NoLand_BadStore => rfl); (case w1_NoLand_BadTrip => k_is); (case w2_NoLand_BadTrip => rfl); (case w1_NoLand_BadWay => k_is); (case w2_NoLand_BadWay => rfl); (case w1_NoLand_NoRow => k_is); (case w2_NoLand_NoRow => rfl); (case w1_NoLand_NoText => k_is); (case w2_NoLand_NoText => rfl); (case w1_NoLand_NoWay => k_is); (case w2_NoLand_NoWay => rfl); (case w1_NoLand_Taken => k_is); (case w2_NoLand_Taken => rfl); (case w1_NoLand_TooMany => k_is); (case w2_NoLand_TooMany => rfl); (case w1_BadLabel_BadGoal => k_is); (case w2_BadLabel_BadGoal => rfl); (case w1_BadLabel_BadLand => k_is); (case w2_BadLabel_BadLand => rfl); (case w1_BadLabel_BadPlan => k_is); (case w2_BadLabel_BadPlan => rfl); (case w1_BadLabel_BadStore => k_is); (case w2_BadLabel_BadStore => rfl); (case w1_BadLabel_BadTrip => k_is); (case w2_BadLabel_BadTrip => rfl); (case w1_BadLabel_BadWay => k_is); (case w2_BadLabel_BadWay => rfl); (case w1_BadLabel_NoLand => k_is); (case w2_BadLabel_NoLand => rfl); (case w1_BadLabel_NoRow => k_is); (case w2_BadLabel_NoRow => rfl); (case w1_BadLabel_NoText => k_is); (case w2_BadLabel_NoText => rfl); (case w1_BadLabel_NoWay => k_is); (case w2_BadLabel_NoWay => rfl); (case w1_BadLabel_Taken => k_is); (case w2_BadLabel_Taken => rfl); (case w1_BadLabel_TooMany => k_is); (case w2_BadLabel_TooMany => rfl); (case w1_BadWay_BadGoal => k_is); (case w2_BadWay_BadGoal => rfl); (case w1_BadWay_BadLabel => k_is); (case w2_BadWay_BadLabel => rfl); (case w1_BadWay_BadLand => k_is); (case w2_BadWay_BadLand => rfl); (case w1_BadWay_BadPlan => k_is); (case w2_BadWay_BadPlan => rfl); (case w1_BadWay_BadStore => k_is); (case w2_BadWay_BadStore => rfl); (case w1_BadWay_BadTrip => k_is); (case w2_BadWay_BadTrip => rfl); (case w1_BadWay_NoLand => k_is); (case w2_BadWay_NoLand => rfl); (case w1_BadWay_NoRow => k_is); (case w2_BadWay_NoRow => rfl); (case w1_BadWay_NoText => k_is); (case w2_BadWay_NoText => rfl); (case w1_BadWay_NoWay => k_is); (case w2_BadWay_NoWay => rfl); (case w1_BadWay_Taken => k_is); (case w2_BadWay_Taken => rfl); (case w1_BadWay_TooMany => k_is); (case w2_BadWay_TooMany => rfl); (case w1_BadStore_BadGoal => k_is); (case w2_BadStore_BadGoal => rfl); (case w1_BadStore_BadLabel => k_is); (case w2_BadStore_BadLabel => rfl); (case w1_BadStore_BadLand => k_is); (case w2_BadStore_BadLand => rfl); (case w1_BadStore_BadPlan => k_is); (case w2_BadStore_BadPlan => rfl); (case w1_BadStore_BadTrip => k_is); (case w2_BadStore_BadTrip => rfl); (case w1_BadStore_BadWay => k_is); (case w2_BadStore_BadWay => rfl); (case w1_BadStore_NoLand => k_is); (case w2_BadStore_NoLand => rfl); (case w1_BadStore_NoRow => k_is); (case w2_BadStore_NoRow => rfl); (case w1_BadStore_NoText => k_is); (case w2_BadStore_NoText => rfl); (case w1_BadStore_NoWay => k_is); (case w2_BadStore_NoWay => rfl); (case w1_BadStore_Taken => k_is); (case w2_BadStore_Taken => rfl); (case w1_BadStore_TooMany => k_is); (case w2_BadStore_TooMany => rfl); (case w1_BadGoal_BadLabel => k_is); (case w2_BadGoal_BadLabel => rfl); (case w1_BadGoal_BadLand => k_is); (case w2_BadGoal_BadLand => rfl); (case w1_BadGoal_BadPlan => k_is); (case w2_BadGoal_BadPlan => rfl); (case w1_BadGoal_BadStore => k_is); (case w2_BadGoal_BadStore => rfl); (case w1_BadGoal_BadTrip => k_is); (case w2_BadGoal_BadTrip => rfl); (case w1_BadGoal_BadWay => k_is); (case w2_BadGoal_BadWay => rfl); (case w1_BadGoal_NoLand => k_is); (case w2_BadGoal_NoLand => rfl); (case w1_BadGoal_NoRow => k_is); (case w2_BadGoal_NoRow => rfl); (case w1_BadGoal_NoText => k_is); (case w2_BadGoal_NoText => rfl); (case w1_BadGoal_NoWay => k_is); (case w2_BadGoal_NoWay => rfl); (case w1_BadGoal_Taken => k_is); (case w2_BadGoal_Taken => rfl); (case w1_BadGoal_TooMany => k_is); (case w2_BadGoal_TooMany => rfl); (case w1_NoRow_BadGoal => k_is); (case w2_NoRow_BadGoal => rfl); (case w1_NoRow_BadLabel => k_is); (case w2_NoRow_BadLabel => rfl); (case w1_NoRow_BadLand => k_is); (case w2_NoRow_BadLand => rfl); (case w1_NoRow_BadPlan => k_is); (case w2_NoRow_BadPlan => rfl); (case w1_NoRow_BadStore => k_is); (case w2_NoRow_BadStore => rfl); (case w1_NoRow_BadTrip => k_is); (case w2_NoRow_BadTrip => rfl); (case w1_NoRow_BadWay => k_is); (case w2_NoRow_BadWay => rfl); (case w1_NoRow_NoLand => k_is); (case w2_NoRow_NoLand => rfl); (case w1_NoRow_NoText => k_is); (case w2_NoRow_NoText => rfl); (case w1_NoRow_NoWay => k_is); (case w2_NoRow_NoWay => rfl); (case w1_NoRow_Taken => k_is); (case w2_NoRow_Taken => rfl); (case w1_NoRow_TooMany => k_is); (case w2_NoRow_TooMany => rfl); (case w1_NoText_BadGoal => k_is); (case w2_NoText_BadGoal => rfl); (case w1_NoText_BadLabel => k_is); (case w2_NoText_BadLabel => rfl); (case w1_NoText_BadLand => k_is); (case w2_NoText_BadLand => rfl); (case w1_NoText_BadPlan => k_is); (case w2_NoText_BadPlan => rfl); (case w1_NoText_BadStore => k_is); (case w2_NoText_BadStore => rfl); (case w1_NoText_BadTrip => k_is); (case w2_NoText_BadTrip => rfl); (case w1_NoText_BadWay => k_is); (case w2_NoText_BadWay => rfl); (case w1_NoText_NoLand => k_is); (case w2_NoText_NoLand => rfl); (case w1_NoText_NoRow => k_is); (case w2_NoText_NoRow => rfl); (case w1_NoText_NoWay => k_is); (case w2_NoText_NoWay => rfl); (case w1_NoText_Taken => k_is); (case w2_NoText_Taken => rfl); (case w1_NoText_TooMany => k_is); (case w2_NoText_TooMany => rfl)
