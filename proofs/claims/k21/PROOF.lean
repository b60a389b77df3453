import PyProof.Rows.All
import Wide.All
import OpenK.AllK
import Wide.FinOn
import Lean
import PyProof.EqAt
import PyProof.EqKinds
import PyProof.NeData
import PyProof.TupleCall
import KE.KRevIter
import KE.KRevSl
import PyProof.MinMaxWalk
import PyProof.ZipIter
import PyProof.Rows.Range3
import PyProof.Rows.CallKwBuiltin
import PyProof.DictWalks
import PyProof.ReprRoads
import PyProof.ReprLen
import PyProof.CallFns
import KE.KEqDict
import PyProof.P3In
import PyProof.MeetsDictList
import PyProof.Cells
import PyProof.StationsW
import PyProof.ExcInit
import PyProof.InstStore
import PyProof.RulesAs
import KE.KTryMore
import PyProof.InstStoreFacts
import PyProof.ExcBaseAll.ValueError
import PySem.Challenge.RW_trudge_k21_what_is_a_land
set_option Elab.async false
set_option linter.all false
set_option maxRecDepth 100000
set_option genInjectivity false
set_option genSizeOf false
namespace L2
open PySem PySem.Spec PyProof.Rows
theorem el3 {α β γ : Type} {R T K : α → β → γ → Prop} {p : Prop} (h : ∃ a b c, R a b c ∧ T a b c ∧ K a b c) (f : ∀ a b c, R a b c → T a b c → K a b c → p) : p := h.elim fun a h => h.elim fun b h => h.elim fun c h => f a b c h.1 h.2.1 h.2.2
theorem el5 {α β : Type} {R T K : α → β → Prop} {p : Prop} (h : ∃ a b, R a b ∧ T a b ∧ K a b) (f : ∀ a b, R a b → T a b → K a b → p) : p := h.elim fun a h => h.elim fun b h => f a b h.1 h.2.1 h.2.2
theorem el2 {α : Type} {A B : α → Prop} {p : Prop} (h : ∃ a, A a ∧ B a) (f : ∀ a, A a → B a → p) : p := h.elim fun a h => f a h.1 h.2
abbrev Key := Sum Int Str
def keyIs : Key → Value → Bool
  | .inl k, v => Value.isInt k v
  | .inr x, v => Value.isStrOf x v
def keyH (w : World) : Key → Int
  | .inl k => hashInt k
  | .inr x => hashStr w x
theorem keyIs_shape : ∀ {k : Key} {v : Value}, keyIs k v = true → (∃ i t, k = Sum.inl i ∧ v = Value.int i t) ∨ (∃ x t, k = Sum.inr x ∧ v = Value.str x t)
  | .inl i, v, h => by
    obtain ⟨t, e⟩ := Value.isInt_shape (k := i) (v := v) h
    exact .inl ⟨i, t, rfl, e⟩
  | .inr x, v, h => by
    obtain ⟨t, e⟩ := Value.isStrOf_shape (x := x) (v := v) h
    exact .inr ⟨x, t, rfl, e⟩
theorem key_ll (a b : Int) : decide ((Sum.inl a : Key) = Sum.inl b) = (a == b) := by
  by_cases e : a = b
  · subst e; simp
  · have h : ¬ (Sum.inl a : Key) = Sum.inl b := fun q => e (Sum.inl.inj q)
    rw [decide_eq_false h]
    exact (beq_eq_false_iff_ne.mpr e).symm
theorem key_rr (a b : Str) : decide ((Sum.inr a : Key) = Sum.inr b) = decide (a = b) := by
  by_cases e : a = b
  · subst e; simp
  · have h : ¬ (Sum.inr a : Key) = Sum.inr b := fun q => e (Sum.inr.inj q)
    rw [decide_eq_false h, decide_eq_false e]
theorem key_lr (a : Int) (b : Str) : decide ((Sum.inl a : Key) = Sum.inr b) = false := decide_eq_false (fun q => nomatch q)
theorem key_rl (a : Str) (b : Int) : decide ((Sum.inr a : Key) = Sum.inl b) = false := decide_eq_false (fun q => nomatch q)
def mixKind (prog : Program) (w : World) : PySem.KeyKind prog w Key where
  is := keyIs
  hash := keyH w
  inj := fun v a b ha hb => by
    rcases keyIs_shape ha with ⟨i, t, rfl, rfl⟩ | ⟨x, t, rfl, rfl⟩
    · rcases keyIs_shape hb with ⟨j, u, rfl, e⟩ | ⟨y, u, rfl, e⟩
      · injection e with e1 _; rw [e1]
      · exact nomatch e
    · rcases keyIs_shape hb with ⟨j, u, rfl, e⟩ | ⟨y, u, rfl, e⟩
      · exact nomatch e
      · injection e with e1 _; rw [e1]
  byValue := fun k v h => by
    rcases keyIs_shape h with ⟨i, t, rfl, rfl⟩ | ⟨x, t, rfl, rfl⟩ <;> rfl
  pyHash := fun hv h => by
    rcases keyIs_shape hv with ⟨i, t, rfl, rfl⟩ | ⟨x, t, rfl, rfl⟩
    · exact wpAny_pyHash_int h
    · exact wpAny_pyHash_str h
  eqBool := fun hu hv h => by
    rcases keyIs_shape hu with ⟨i, t, rfl, rfl⟩ | ⟨x, t, rfl, rfl⟩
    · rcases keyIs_shape hv with ⟨j, u, rfl, rfl⟩ | ⟨y, u, rfl, rfl⟩
      · rw [key_ll] at h; exact wpAny_eqBool_int h
      · rw [key_lr] at h; exact SeqAt.EqAt.int_str i t y u _ _ _ _ h
    · rcases keyIs_shape hv with ⟨j, u, rfl, rfl⟩ | ⟨y, u, rfl, rfl⟩
      · rw [key_rl] at h; exact SeqAt.EqAt.str_int x t j u _ _ _ _ h
      · rw [key_rr] at h; exact wpAny_eqBool_str h
  «strs» := fun k x t v h => by
    rcases keyIs_shape h with ⟨i, u, rfl, e⟩ | ⟨y, u, rfl, e⟩
    · exact nomatch e
    · injection e with e1 _
      subst e1
      cases v <;> rfl
end L2
namespace L2
open PySem PySem.Spec PyProof.Rows
set_option genInjectivity true in
inductive V where
  | non | bl (b : Bool) | int (i : Int) | str (x : Str) | byt (b : Array UInt8) | flt (b : UInt64) | ref (a : Addr) | ty (n : String)
  deriving DecidableEq
def RelV : V → Value → Prop
  | .non, u => u = Value.none
  | .bl b, u => u = Value.bool b
  | .int i, u => ∃ t, u = Value.int i t
  | .str x, u => ∃ t, u = Value.str x t
  | .byt b, u => ∃ t, u = Value.bytes b t
  | .flt b, u => ∃ t, u = Value.float b t
  | .ref a, u => u = Value.ref a
  | .ty n, u => u = Value.type n
abbrev Vals : List V → List Value → Prop := Paired RelV
theorem Vals.length {xs : List V} {us : List Value} (r : Vals xs us) : xs.length = us.length := Paired.length r
theorem Vals.get : ∀ {xs : List V} {us : List Value} {i : Nat} {x : V}, Vals xs us → xs[i]? = some x → ∃ u, us[i]? = some u ∧ RelV x u
  | _, _, _, _, .nil, e => by simp at e
  | _, _, 0, _, .cons r _, e => by simp at e; subst e; exact ⟨_, rfl, r⟩
  | _, _, i + 1, x, .cons _ t, e => by
    obtain ⟨u, h1, h2⟩ := Vals.get (i := i) (x := x) t (by simpa using e)
    exact ⟨u, by simpa using h1, h2⟩
theorem Vals.set {x : V} {u : Value} (r : RelV x u) : ∀ {xs : List V} {us : List Value} (i : Nat), Vals xs us → Vals (xs.set i x) (us.set i u)
  | _, _, _, .nil => .nil
  | _, _, 0, .cons _ t => .cons r t
  | _, _, i + 1, .cons q t => .cons q (Vals.set r i t)
theorem Vals.append {xs ys : List V} {us ws : List Value} (h : Vals xs us) (s : Vals ys ws) : Vals (xs ++ ys) (us ++ ws) := by
  induction h with
  | nil => exact s
  | cons r t ih => exact .cons r ih
theorem Vals.take : ∀ {xs : List V} {us : List Value} (n : Nat), Vals xs us → Vals (xs.take n) (us.take n)
  | _, _, 0, _ => .nil
  | _, _, _ + 1, .nil => .nil
  | _, _, n + 1, .cons r t => .cons r (Vals.take n t)
theorem Vals.drop : ∀ {xs : List V} {us : List Value} (n : Nat), Vals xs us → Vals (xs.drop n) (us.drop n)
  | _, _, 0, r => r
  | _, _, _ + 1, .nil => .nil
  | _, _, n + 1, .cons _ t => Vals.drop n t
def RelO : Option V → Option Value → Prop
  | some v, some u => RelV v u
  | none, none => True
  | _, _ => False
def KV {κ : Type} : List (κ × V) → List (κ × Value) → Prop := Paired fun (p : κ × V) (q : κ × Value) => p.1 = q.1 ∧ RelV p.2 q.2
def kV : Key → V
  | .inl i => .int i
  | .inr x => .str x
inductive HO where
  | lst (xs : List V)
  | tup (xs : List V)
  | dK (kvs : List (Key × V)) | dT (kvs : List (List Key × V))
  | set (S : Int → Bool) (n : Nat)
  | ins (C dx : Addr) (fs : List (Str × V))
  | own (x : Addr)
  | xd (fs : List (Str × V))
  | met (f x : Addr)
  | rng (lo hi : Int)
  | frz (o : Obj) (u : HO)
  | tbl (ps : Array Value)
  | ext (φ : Heap → Prop)
abbrev Hp := Addr → Option HO
def upd (H : Hp) (a : Addr) (o : HO) : Hp := fun b => if b = a then some o else H b
theorem upd_same {H : Hp} {a : Addr} {o : HO} : upd H a o a = some o := by unfold upd; rw [if_pos rfl]
theorem upd_ne {H : Hp} {a b : Addr} {o : HO} (h : b ≠ a) : upd H a o b = H b := by unfold upd; rw [if_neg h]
theorem ne_of {H : Hp} {a b : Addr} {o u : HO} (h : H a = some o) (h' : H b = some u) (d : o ≠ u) : a ≠ b := by
  intro e; subst e; rw [h] at h'; exact d (Option.some.inj h')
theorem ne_of_none {H : Hp} {a b : Addr} {o : HO} (h : H a = some o) (h' : H b = none) : a ≠ b := by
  intro e; subst e; rw [h] at h'; cases h'
section
variable (P : Program) (w : World)
def ObjOk (H : Hp) (h : Heap) (a : Addr) : HO → Prop
  | .lst xs => xs.length ≤ sizeLine ∧ ∃ (its : List Value) (n : Nat), Vals xs its ∧ h.get? a = some { cls := .type "list", data := .seq its.toArray n }
  | .tup xs => xs.length ≤ sizeLine ∧ ∃ its : List Value, Vals xs its ∧ IsTup h a its.toArray
  | .dK kvs => kvs.length ≤ sizeLine ∧ (a == sysModules) = false ∧ ∃ vs, KV kvs vs ∧ h.DictOf (mixKind P w) a vs
  | .dT kvs => kvs.length ≤ sizeLine ∧ (a == sysModules) = false ∧ ∃ xs : List (List Key × Addr × Value),
      Paired (fun (p : List Key × V) (q : List Key × Addr × Value) => p.1 = q.1 ∧ H q.2.1 = some (.tup (p.1.map kV)) ∧ RelV p.2 q.2.2) kvs xs ∧
      ∃ o es ep, h.get? a = some o ∧ o.ExactDict ∧ o.data = .dict es ep ∧ es.toList = xs.map (entryOfKey (tupleKind (mixKind P w))) ∧ (xs.map (·.1)).Nodup
  | .set S n => h.SetOf (intKind P w) a S n
  | .ins C dx fs => H dx = some (.own a) ∧ fs.length ≤ 1000 ∧ dx ≠ a ∧ h.get? a = some (PySem.W.instObj C dx) ∧
      ∃ mA, h.Ns1 dx mA ∧ (∀ f, RelO (fs.lookup f) (mA f)) ∧ PySem.Within mA (fs.map (·.1))
  | .own _ => ∃ o, h.get? a = some o
  | .xd fs => ∃ mA, h.Ns1 a mA ∧ ∀ f, RelO (fs.lookup f) (mA f)
  | .rng lo hi => ∃ t u v, h.get? a = some { cls := .type "range", data := .fields #[.int lo t, .int hi u, .int 1 v] }
  | .frz o u => h.get? a = some o ∧ ObjOk H h a u
  | .tbl ps => h.get? a = some { cls := .none, data := .fields ps }
  | .met f x => h.get? a = some (PySem.W.methodObj (.ref f) (.ref x))
  | .ext φ => φ h ∧ (∃ o, h.get? a = some o) ∧ ∀ h1 h2 : Heap, φ h1 → (∀ o, h1.get? a = some o → h2.get? a = some o) → φ h2
def HOk (H : Hp) (h : Heap) : Prop := ∀ a o, H a = some o → ObjOk P w H h a o
end
section
variable {P : Program} {w : World} {H H' : Hp} {h h' : Heap} {a : Addr} {o : HO}
theorem ObjOk.lt (x : ObjOk P w H h a o) : a < h.objs.size := by
  cases o with
  | lst xs => obtain ⟨_, _, _, _, e⟩ := x; exact Heap.lt_size e
  | tup xs => obtain ⟨_, _, _, p⟩ := x; exact p.lt
  | dK kvs => obtain ⟨_, _, _, _, o, _, _, e, _⟩ := x; exact Heap.lt_size e
  | dT kvs => obtain ⟨_, _, _, _, o, _, _, e, _⟩ := x; exact Heap.lt_size e
  | set S n => obtain ⟨o, _, _, _, e, _⟩ := x; exact Heap.lt_size e
  | ins C dx fs => obtain ⟨_, _, _, e, _⟩ := x; exact Heap.lt_size e
  | own y => obtain ⟨_, e⟩ := x; exact Heap.lt_size e
  | xd fs => obtain ⟨_, ⟨_, _, _, e, _⟩, _⟩ := x; exact Heap.lt_size e
  | rng lo hi => obtain ⟨_, _, _, e⟩ := x; exact Heap.lt_size e
  | frz ob u => obtain ⟨e, _⟩ := x; exact Heap.lt_size e
  | tbl ps => exact Heap.lt_size (show h.get? a = some _ from x)
  | met f y => exact Heap.lt_size (show h.get? a = some _ from x)
  | ext φ => obtain ⟨_, ⟨_, e⟩, _⟩ := x; exact Heap.lt_size e
theorem Paired.mapP {α β : Type} {F G : α → β → Prop} {l₁ : List α} {l₂ : List β} (h : Paired F l₁ l₂) (f : ∀ a b, F a b → G a b) : Paired G l₁ l₂ := by
  induction h with
  | nil => exact .nil
  | cons r t ih => exact .cons (f _ _ r) ih
theorem ObjOk.stay (x : ObjOk P w H h a o) (k : ∀ b u, (b = a ∨ H b = some (.own a)) → h.get? b = some u → h'.get? b = some u)
    (ho : ∀ b, H b = some (.own a) → H' b = some (.own a)) (ht : ∀ b xs, H b = some (.tup xs) → H' b = some (.tup xs)) : ObjOk P w H' h' a o := by
  induction o with
  | lst xs => obtain ⟨z, its, n, r, e⟩ := x; exact ⟨z, its, n, r, k _ _ (.inl rfl) e⟩
  | tup xs => obtain ⟨z, its, r, ob, e, c⟩ := x; exact ⟨z, its, r, ob, k _ _ (.inl rfl) e, c⟩
  | dK kvs => obtain ⟨z, y, vs, r, ob, es, ep, e, c⟩ := x; exact ⟨z, y, vs, r, ob, es, ep, k _ _ (.inl rfl) e, c⟩
  | dT kvs =>
    obtain ⟨z, y, xs, r, ob, es, ep, e, c⟩ := x
    exact ⟨z, y, xs, Paired.mapP r fun p q z => ⟨z.1, ht _ _ z.2.1, z.2.2⟩, ob, es, ep, k _ _ (.inl rfl) e, c⟩
  | set S n => obtain ⟨ob, es, ep, t, e, c⟩ := x; exact ⟨ob, es, ep, t, k _ _ (.inl rfl) e, c⟩
  | ins C dx fs =>
    obtain ⟨d, z, ne, e, mA, ⟨od, es, ep, e2, c⟩, r⟩ := x
    exact ⟨ho _ d, z, ne, k _ _ (.inl rfl) e, mA, ⟨od, es, ep, k _ _ (.inr d) e2, c⟩, r⟩
  | own y => obtain ⟨ob, e⟩ := x; exact ⟨ob, k _ _ (.inl rfl) e⟩
  | xd fs => obtain ⟨mA, ⟨od, es, ep, e, c⟩, r⟩ := x; exact ⟨mA, ⟨od, es, ep, k _ _ (.inl rfl) e, c⟩, r⟩
  | rng lo hi => obtain ⟨t, u, v, e⟩ := x; exact ⟨t, u, v, k _ _ (.inl rfl) e⟩
  | frz ob u ih => obtain ⟨e, q⟩ := x; exact ⟨k _ _ (.inl rfl) e, ih q⟩
  | tbl ps =>
    have e : h.get? a = some { cls := .none, data := .fields ps } := x
    show h'.get? a = some { cls := .none, data := .fields ps }
    exact k a _ (.inl rfl) e
  | met f y =>
    have e : h.get? a = some (PySem.W.methodObj (.ref f) (.ref y)) := x
    show h'.get? a = some (PySem.W.methodObj (.ref f) (.ref y))
    exact k a _ (.inl rfl) e
  | ext φ => obtain ⟨p, ⟨o, e⟩, st⟩ := x; exact ⟨st _ _ p fun o q => k _ _ (.inl rfl) q, ⟨o, k _ _ (.inl rfl) e⟩, st⟩
theorem HOk.lt (x : HOk P w H h) (e : H a = some o) : a < h.objs.size := (x a o e).lt
theorem HOk.fresh (x : HOk P w H h) (e : h.objs.size ≤ a) : H a = none := by
  cases q : H a with
  | none => rfl
  | some u => exact absurd (Nat.lt_of_lt_of_le (x.lt q) e) (Nat.lt_irrefl _)
theorem HOk.kept (x : HOk P w H h) (k : ∀ b u, h.get? b = some u → h'.get? b = some u) : HOk P w H h' := fun a o e =>
  (x a o e).stay (fun b u _ q => k b u q) (fun _ q => q) fun _ _ q => q
theorem HOk.laid (x : HOk P w H h) (k : ∀ b u, h.get? b = some u → h'.get? b = some u) (hp : h.objs.size ≤ a) (new : ObjOk P w (upd H a o) h' a o) : HOk P w (upd H a o) h' := fun b u e => by
  have hn := x.fresh hp
  by_cases hb : b = a
  · subst hb; rw [upd_same] at e; cases e; exact new
  · rw [upd_ne hb] at e
    exact (x b u e).stay (fun c v _ q => k c v q) (fun c q => by rw [upd_ne (ne_of_none q hn)]; exact q) fun c xs q => by rw [upd_ne (ne_of_none q hn)]; exact q
end
def Rd (H : Hp) (a : Addr) (u : HO) : Prop := H a = some u ∨ ∃ o, H a = some (.frz o u)
theorem Rd.ok {P : Program} {w : World} {H : Hp} {h : Heap} {a : Addr} {u : HO} (r : Rd H a u) (x : HOk P w H h) : ObjOk P w H h a u := by
  rcases r with r | ⟨o, r⟩
  · exact x a u r
  · obtain ⟨_, q⟩ := x a _ r
    exact q
def Mut : Option HO → Prop
  | some (.lst _) => True
  | some (.dK _) => True
  | some (.dT _) => True
  | some (.set _ _) => True
  | some (.ins _ _ _) => True
  | some (.ext _) => True
  | _ => False
section
variable {P : Program} {w : World} {H : Hp} {h h' : Heap} {x e : Addr} {o' : HO}
theorem HOk.write (ok : HOk P w H h) (mu : Mut (H x)) (he : e = x ∨ H e = some (.own x)) (k : ∀ b u, b ≠ e → h.get? b = some u → h'.get? b = some u) (heo : ∃ u, h'.get? e = some u)
    (new : ObjOk P w (upd H x o') h' x o') : HOk P w (upd H x o') h' := fun b u q => by
  have nown : ∀ c y, H c = some (.own y) → c ≠ x := fun c y r z => by subst z; rw [r] at mu; exact mu
  have ntup : ∀ c xs, H c = some (.tup xs) → c ≠ x := fun c xs r z => by subst z; rw [r] at mu; exact mu
  by_cases hb : b = x
  · subst hb; rw [upd_same] at q; cases q; exact new
  · rw [upd_ne hb] at q
    by_cases hbe : b = e
    · have q' : H b = some (.own x) := by
        rcases he with z | z
        · exact absurd (hbe.trans z) hb
        · rw [hbe]; exact z
      rw [q] at q'; cases q'
      obtain ⟨v, hv⟩ := heo
      exact ⟨v, by rw [hbe]; exact hv⟩
    · refine (ok b u q).stay (fun c v hc r => k c v ?_ r) (fun c r => by rw [upd_ne (nown c b r)]; exact r) fun c xs r => by rw [upd_ne (ntup c xs r)]; exact r
      rcases hc with rfl | hc
      · exact hbe
      · rintro rfl
        rcases he with z | z
        · exact nown c b hc z
        · rw [hc] at z; cases z; exact hb rfl
end
structure Un (fs ex : List Addr) (H H' : Hp) (h h' : Heap) : Prop where
  keep : ∀ b o, h.get? b = some o → H b = none → b ∉ fs → b ∉ ex → h'.get? b = some o
  slot : ∀ b o, h.get? b = some o → H b = none → b ∈ fs → b ∉ ex → ∃ sl, h'.get? b = some { o with slots := sl }
  free : ∀ b o, h.get? b = some o → H b = none → b ∉ ex → H' b = none
  there : ∀ b o, h.get? b = some o → b ∉ ex → ∃ o', h'.get? b = some o'
  tups : ∀ b xs, H b = some (.tup xs) → H' b = some (.tup xs)
  frzs : ∀ b o u, H b = some (.frz o u) → H' b = some (.frz o u)
  tbls : ∀ b ps, H b = some (.tbl ps) → ∃ more, H' b = some (.tbl (ps ++ more))
section
variable {fs fs' ex ex' : List Addr} {H H1 H2 : Hp} {h h1 h2 h' : Heap} {a x e : Addr} {o : HO}
theorem Un.any (u : Un fs ex H H1 h h1) {b : Addr} {ob : Obj} (q : h.get? b = some ob) (n : H b = none) (hx : b ∉ ex) : ∃ sl, h1.get? b = some { ob with slots := sl } := by
  by_cases hb : b ∈ fs
  · exact u.slot b ob q n hb hx
  · exact ⟨ob.slots, u.keep b ob q n hb hx⟩
theorem Un.trans (a : Un fs ex H H1 h h1) (b : Un fs ex H1 H2 h1 h2) : Un fs ex H H2 h h2 where
  keep := fun c ob q n hc hx => b.keep c ob (a.keep c ob q n hc hx) (a.free c ob q n hx) hc hx
  slot := fun c ob q n hc hx => by
    obtain ⟨sl, e1⟩ := a.slot c ob q n hc hx
    obtain ⟨sl', e2⟩ := b.slot c _ e1 (a.free c ob q n hx) hc hx
    exact ⟨sl', e2⟩
  free := fun c ob q n hx => by
    obtain ⟨o', e1⟩ := a.there c ob q hx
    exact b.free c o' e1 (a.free c ob q n hx) hx
  there := fun c ob q hx => by
    obtain ⟨o', e1⟩ := a.there c ob q hx
    exact b.there c o' e1 hx
  tups := fun c xs q => b.tups c xs (a.tups c xs q)
  frzs := fun c ob xs q => b.frzs c ob xs (a.frzs c ob xs q)
  tbls := fun c ps q => by
    obtain ⟨m1, e1⟩ := a.tbls c ps q
    obtain ⟨m2, e2⟩ := b.tbls c _ e1
    exact ⟨m1 ++ m2, by rw [e2, Array.append_assoc]⟩
theorem Un.kept (k : ∀ b u, h.get? b = some u → h'.get? b = some u) : Un fs ex H H h h' :=
  ⟨fun b ob q _ _ _ => k b ob q, fun b ob q _ _ _ => ⟨ob.slots, k b ob q⟩, fun _ _ _ n _ => n, fun b ob q _ => ⟨ob, k b ob q⟩, fun _ _ q => q, fun _ _ _ q => q, fun _ ps q => ⟨#[], by rw [q]; simp⟩⟩
theorem Un.refl : Un fs ex H H h h := Un.kept fun _ _ q => q
theorem Un.laid (k : ∀ b u, h.get? b = some u → h'.get? b = some u) (hp : h.objs.size ≤ a) (hn : H a = none) : Un fs ex H (upd H a o) h h' where
  keep := fun b u q _ _ _ => k b u q
  slot := fun b u q _ _ _ => ⟨u.slots, k b u q⟩
  free := fun b u q n _ => by rw [upd_ne (Nat.ne_of_lt (Nat.lt_of_lt_of_le (Heap.lt_size q) hp))]; exact n
  there := fun b u q _ => ⟨u, k b u q⟩
  tups := fun b xs q => by rw [upd_ne (ne_of_none q hn)]; exact q
  frzs := fun b u xs q => by rw [upd_ne (ne_of_none q hn)]; exact q
  tbls := fun b ps q => ⟨#[], by rw [upd_ne (ne_of_none q hn), q]; simp⟩
theorem Un.write (mu : Mut (H x)) (he : e = x ∨ H e = some (.own x)) (k : ∀ b u, b ≠ e → h.get? b = some u → h'.get? b = some u) (heo : ∃ u, h'.get? e = some u) : Un fs ex H (upd H x o) h h' := by
  have hx : ∀ b, H b = none → b ≠ x := fun b n z => by subst z; rw [n] at mu; exact mu
  have hb : ∀ b, H b = none → b ≠ e := fun b n z => by
    subst z
    rcases he with r | r
    · exact hx b n r
    · rw [n] at r; cases r
  have hm : ∀ b u, H b = some u → ¬ Mut (some u) → b ≠ x := fun b u q nm z => by subst z; rw [q] at mu; exact nm mu
  refine ⟨fun b u q n _ _ => k b u (hb b n) q, fun b u q n _ _ => ⟨u.slots, k b u (hb b n) q⟩, fun b u q n _ => by rw [upd_ne (hx b n)]; exact n, fun b u q _ => ?_,
    fun b xs q => by rw [upd_ne (hm b _ q fun z => z)]; exact q, fun b u xs q => by rw [upd_ne (hm b _ q fun z => z)]; exact q, fun b ps q => ⟨#[], by rw [upd_ne (hm b _ q fun z => z), q]; simp⟩⟩
  by_cases hbe : b = e
  · subst hbe; exact heo
  · exact ⟨u, k b u hbe q⟩
theorem Un.mono (u : Un fs ex H H1 h h1) (hs : ∀ b ∈ fs, b ∈ fs') (hx : ∀ b ∈ ex, b ∈ ex') : Un fs' ex' H H1 h h1 :=
  ⟨fun b ob q n hb he => u.keep b ob q n (fun z => hb (hs b z)) fun z => he (hx b z), fun _ _ q n _ he => u.any q n fun z => he (hx _ z), fun b ob q n he => u.free b ob q n fun z => he (hx b z), fun b ob q he => u.there b ob q fun z => he (hx b z), u.tups, u.frzs, u.tbls⟩
end
def trk (h : Heap) (H : Hp) : List Addr := (List.range h.objs.size).filter fun a => (H a).isSome
def hidT (h : Heap) (H : Hp) : Heap := PySem.W.hideAll h (trk h H)
theorem hidT_size (h : Heap) (H : Hp) : (hidT h H).objs.size = h.objs.size := PySem.W.hideAll_size _ _
theorem hidT_get {h : Heap} {H : Hp} {b : Addr} {o : Obj} (e : h.get? b = some o) (n : H b = none) : (hidT h H).get? b = some o :=
  PySem.W.hideAll_get _ e fun hm => by
    have q : (H b).isSome = true := (List.mem_filter.mp hm).2
    rw [n] at q; simp at q
theorem of_hidT {h : Heap} {H : Hp} {b : Addr} {o : Obj} (e : (hidT h H).get? b = some o) : h.get? b = some o ∧ H b = none := by
  have e' : h.get? b = some o := PySem.W.of_hideAll (trk h H) e
  refine ⟨e', ?_⟩
  cases q : H b with
  | none => rfl
  | some x =>
    have hm : b ∈ trk h H := List.mem_filter.mpr ⟨List.mem_range.mpr (Heap.lt_size e'), by simp [q]⟩
    have z : (hidT h H).get? b = none := PySem.W.hideAll_none (trk h H) hm
    rw [z] at e; cases e
def allNews (g h : Heap) (L : Addr) : List (Addr × Obj) := (List.range h.objs.size).filterMap fun a => if a = L ∨ (g.get? a).isSome = true then none else (h.get? a).map fun o => (a, o)
def rest (g h : Heap) (L d : Addr) : List (Addr × Obj) := (allNews g h L).filter fun p => decide (p.1 ≠ d)
end L2
namespace L2
open PySem PySem.Spec PyProof.Rows
structure Mod (K : PySem.W.Frag) (mg : Str → Option Value) (base : Heap) : Prop where
  kin : K.In base
  glob : base.Ns mainGlobals mg
  blt : ∃ mb, base.Ns builtinsNs mb ∧ ∀ x : Str, x ≠ "__name__" → mb x = bootBuiltins x
  nolimit : base.NoLimit
structure Cx where
  prog : Program
  w : World
  K : PySem.W.Frag
  mg : Str → Option Value
  base : Heap
  A : Around
  N : List Str
  s₀ : Shared
  H₀ : Hp
  env : Env
  outer : List Env
  stack : List Env
  ex : List Addr
  fn : Str → Bool
  calm : Bool
  pn : List (Addr × Obj)
  xe : Value → Shared → Prop
def frs (l : List Env) : List Addr := l.filterMap (·.frame)
abbrev Cx.fs (X : Cx) : List Addr := frs X.outer
def Vis (sc : Scope) (x : Str) : Prop := sc.names.lookup x = some .local ∨ sc.names.lookup x = some .cell ∨ sc.names.lookup x = some .free
def Loc (sc : Scope) (x : Str) : Prop := sc.names.lookup x = some .local ∨ sc.names.lookup x = some .cell
def Look (env : Env) (h : Heap) (m : Str → Option Value) (x : Str) (u : Value) : Prop :=
  (env.kindOf x = some .local ∧ m x = some u) ∨ ((env.kindOf x = some .cell ∨ env.kindOf x = some .free) ∧ ∃ c, env.cells.lookup x = some c ∧ h.IsCell c (some u))
structure Cx.Ok (X : Cx) : Prop where
  mod : Mod X.K X.mg X.base
  kind : X.env.scope.kind = .function
  glob : X.env.globals = mainGlobals
  blt : X.env.builtins = builtinsNs
  above : X.s₀.heap.objs.size ≤ X.env.locals
  inj : ∀ x y c, X.env.cells.lookup x = some c → X.env.cells.lookup y = some c → x = y
  has : ∀ x, (X.env.kindOf x = some .cell ∨ X.env.kindOf x = some .free) → ∃ c, X.env.cells.lookup x = some c
  cab : ∀ x c, X.fn x = true → X.env.cells.lookup x = some c → X.s₀.heap.objs.size ≤ c
  hd : X.calm = true → X.A.handled = none
  frames : X.A.frames = some X.stack
  stk : X.stack = X.outer ∨ (X.stack = X.env :: X.outer ∧ X.env.frame = some X.env.locals)
  exf : ∀ b ∈ X.ex, b ≠ X.env.locals ∧ ∀ x c, X.env.cells.lookup x = some c → c ≠ b
  bs : ∀ b o, X.base.get? b = some o → X.s₀.heap.get? b = some o ∧ X.H₀ b = none
  bsz : X.base.objs.size ≤ X.s₀.heap.objs.size
  noex : ∀ b o, X.base.get? b = some o → b ∉ X.ex
  exfs : ∀ b ∈ X.ex, b ∉ X.fs
  funs : X.s₀.heap.FunFrames X.base X.outer
  frf : ∀ b ∈ X.fs, X.H₀ b = none
structure Inv (X : Cx) (pins : List (Addr × Obj)) (σ : List (Option V)) (H : Hp) (s : Shared) : Prop where
  ok : X.Ok
  os : s.os = X.s₀.os
  bare : AllBare s.gens
  base : Un X.fs X.ex X.H₀ H X.s₀.heap s.heap
  loc : ∃ m, s.heap.Ns X.env.locals m ∧ ∀ (i : Nat) (x : Str) (v : V), X.N[i]? = some x → σ[i]? = some (some v) → Vis X.env.scope x → ∃ u, RelV v u ∧ Look X.env s.heap m x u
  cell : ∀ x c, X.env.cells.lookup x = some c → ∃ v, s.heap.IsCell c v
  free : H X.env.locals = none
  freeC : ∀ x c, X.env.cells.lookup x = some c → H c = none
  pin : ∀ p ∈ X.pn ++ pins, s.heap.get? p.1 = some p.2 ∧ H p.1 = none ∧ p.1 ≠ X.env.locals ∧ p.1 ∉ X.fs ∧ ∀ v, p.2.data ≠ .cell v
  hok : HOk X.prog X.w H s.heap
  len : σ.length = X.N.length
section
variable {X : Cx} {pins : List (Addr × Obj)} {σ : List (Option V)} {H H' : Hp} {s : Shared} {h' : Heap}
theorem Cx.Ok.nofr (ok : X.Ok) {b : Addr} {o : Obj} (e : X.base.get? b = some o) : b ∉ X.fs := fun hb => by
  have := (ok.funs.mem hb).1
  rw [e] at this; cases this
theorem Inv.bs (I : Inv X pins σ H s) : ∀ b o, X.base.get? b = some o → s.heap.get? b = some o ∧ H b = none := fun b o e =>
  ⟨I.base.keep b o (I.ok.bs b o e).1 (I.ok.bs b o e).2 (I.ok.nofr e) (I.ok.noex b o e), I.base.free b o (I.ok.bs b o e).1 (I.ok.bs b o e).2 (I.ok.noex b o e)⟩
theorem Inv.bk (I : Inv X pins σ H s) : ∀ b o, X.base.get? b = some o → s.heap.get? b = some o := fun b o e => (I.bs b o e).1
theorem Inv.mod (I : Inv X pins σ H s) : Mod X.K X.mg X.base := I.ok.mod
theorem Inv.kIn (I : Inv X pins σ H s) : X.K.In s.heap := I.ok.mod.kin.keeps I.bk
theorem Inv.lt (I : Inv X pins σ H s) : X.env.locals < s.heap.objs.size := let ⟨_, hn, _⟩ := I.loc; hn.lt
theorem Inv.sz (I : Inv X pins σ H s) : X.s₀.heap.objs.size ≤ s.heap.objs.size := Nat.le_trans I.ok.above (Nat.le_of_lt I.lt)
theorem Inv.nofs (I : Inv X pins σ H s) {a : Addr} (h : s.heap.objs.size ≤ a) : a ∉ X.fs := fun hb => by
  obtain ⟨_, o, ho, _⟩ := I.ok.funs.mem hb
  exact absurd (Nat.lt_of_lt_of_le (Heap.lt_size ho) (Nat.le_trans I.sz h)) (Nat.lt_irrefl _)
theorem Inv.cne (I : Inv X pins σ H s) : ∀ x c, X.env.cells.lookup x = some c → c ≠ X.env.locals := fun x c e z => by
  obtain ⟨v, o, ho, hd⟩ := I.cell x c e
  obtain ⟨m, ⟨o', es, ep, ho', hd', _⟩, _⟩ := I.loc
  rw [z, ho'] at ho; cases ho; rw [hd'] at hd; cases hd
theorem Inv.funs (I : Inv X pins σ H s) : s.heap.FunFrames X.base X.outer := by
  have all : ∀ (l : List Env), (∀ b ∈ frs l, b ∈ X.fs) → X.s₀.heap.FunFrames X.base l → s.heap.FunFrames X.base l := by
    intro l
    induction l with
    | nil => intro _ _; trivial
    | cons env r ih =>
      intro hs hl
      obtain ⟨hk, ⟨L, o, hf, hn, ho, hd⟩, hr⟩ := hl
      have hL : L ∈ X.fs := hs L (by unfold frs; rw [List.filterMap_cons, hf]; exact List.mem_cons_self)
      obtain ⟨sl, e⟩ := I.base.slot L o ho (I.ok.frf L hL) hL fun z => I.ok.exfs L z hL
      exact ⟨hk, ⟨L, _, hf, hn, e, hd⟩, ih (fun b hb => hs b (by unfold frs; rw [List.filterMap_cons, hf]; exact List.mem_cons_of_mem _ hb)) hr⟩
  exact all X.outer (fun _ hb => hb) I.ok.funs
theorem Inv.stack (I : Inv X pins σ H s) : s.heap.FunFrames X.base X.stack := by
  rcases I.ok.stk with e | ⟨e, hf⟩
  · rw [e]; exact I.funs
  · rw [e]
    obtain ⟨m, hn, _⟩ := I.loc
    refine .cons (by rw [I.ok.kind]; decide) hf hn ?_ I.funs
    exact Heap.get?_none_of_le (Nat.le_trans I.ok.bsz I.ok.above)
theorem Inv.stkSub (I : Inv X pins σ H s) : ∀ b ∈ frs X.stack, b ∈ X.env.locals :: X.fs := fun b hb => by
  rcases I.ok.stk with e | ⟨e, hf⟩
  · rw [e] at hb; exact List.mem_cons_of_mem _ hb
  · rw [e] at hb
    unfold frs at hb
    rw [List.filterMap_cons, hf] at hb
    exact hb
theorem Inv.stkFree (I : Inv X pins σ H s) : ∀ b ∈ frs X.stack, H b = none := fun b hb => by
  rcases List.mem_cons.mp (I.stkSub b hb) with e | hb
  · rw [e]; exact I.free
  · obtain ⟨_, o, ho, _⟩ := I.ok.funs.mem hb
    exact I.base.free b o ho (I.ok.frf b hb) fun z => I.ok.exfs b z hb
theorem Inv.step {g' : Array GenState} {t' : Nat} {d' : Drawn} {ch : List Addr} (I : Inv X pins σ H s)
    (hch : ∀ b ∈ ch, (b ∈ X.ex ∨ X.s₀.heap.objs.size ≤ b) ∧ b ≠ X.env.locals ∧ (∀ x c, X.env.cells.lookup x = some c → c ≠ b) ∧ ∀ p ∈ X.pn ++ pins, p.1 ≠ b)
    (keep : ∀ b o, b ≠ X.env.locals → b ∉ X.fs → b ∉ ch → s.heap.get? b = some o → H b = none → h'.get? b = some o)
    (slot : ∀ b o, b ≠ X.env.locals → b ∈ X.fs → b ∉ ch → s.heap.get? b = some o → H b = none → ∃ sl, h'.get? b = some { o with slots := sl }) (free : ∀ b o, b ∉ ch → s.heap.get? b = some o → H b = none → H' b = none)
    (there : ∀ b o, b ∉ ch → s.heap.get? b = some o → ∃ o', h'.get? b = some o')
    (tups : ∀ b xs, H b = some (.tup xs) → H' b = some (.tup xs)) (frzs : ∀ b o u, H b = some (.frz o u) → H' b = some (.frz o u)) (tbls : ∀ b ps, H b = some (.tbl ps) → ∃ more, H' b = some (.tbl (ps ++ more)))
    (ns : ∀ m, s.heap.Ns X.env.locals m → h'.Ns X.env.locals m) (hok : HOk X.prog X.w H' h') (hg : AllBare g') :
    Inv X pins σ H' { s with heap := h', gens := g', drawn := d', toks := t' } := by
  have neL : ∀ b o, X.s₀.heap.get? b = some o → b ≠ X.env.locals := fun b o e => Nat.ne_of_lt (Nat.lt_of_lt_of_le (Heap.lt_size e) I.ok.above)
  have neC : ∀ b o, X.s₀.heap.get? b = some o → b ∉ X.ex → b ∉ ch := fun b o e hx hb => by
    rcases (hch b hb).1 with z | z
    · exact hx z
    · exact absurd (Nat.lt_of_lt_of_le (Heap.lt_size e) z) (Nat.lt_irrefl _)
  have cellK : ∀ x c, X.env.cells.lookup x = some c → ∀ v, s.heap.IsCell c v → h'.IsCell c v := fun x c e v zz1 => el2 zz1 fun o ho hd => by
    have nch : c ∉ ch := fun z => (hch c z).2.2.1 x c e rfl
    by_cases hc : c ∈ X.fs
    · obtain ⟨sl, q⟩ := slot c o (I.cne x c e) hc nch ho (I.freeC x c e)
      exact ⟨_, q, hd⟩
    · exact ⟨o, keep c o (I.cne x c e) hc nch ho (I.freeC x c e), hd⟩
  refine ⟨I.ok, I.os, hg, ⟨fun b o e n hb hx => ?_, fun b o e n hb hx => ?_, fun b o e n hx => ?_, fun b o e hx => ?_, fun b xs e => tups b xs (I.base.tups b xs e), fun b o xs e => frzs b o xs (I.base.frzs b o xs e), fun b ps e => ?_⟩, ?_, fun x c e => ?_, ?_, fun x c e => ?_, fun p hp => ?_, hok, I.len⟩
  · exact keep b o (neL b o e) hb (neC b o e hx) (I.base.keep b o e n hb hx) (I.base.free b o e n hx)
  · obtain ⟨sl, e1⟩ := I.base.slot b o e n hb hx
    obtain ⟨sl', e2⟩ := slot b _ (neL b o e) hb (neC b o e hx) e1 (I.base.free b o e n hx)
    exact ⟨sl', e2⟩
  · obtain ⟨o', e1⟩ := I.base.there b o e hx
    exact free b o' (neC b o e hx) e1 (I.base.free b o e n hx)
  · obtain ⟨o', e1⟩ := I.base.there b o e hx
    exact there b o' (neC b o e hx) e1
  · obtain ⟨m1, e1⟩ := I.base.tbls b ps e
    obtain ⟨m2, e2⟩ := tbls b _ e1
    exact ⟨m1 ++ m2, by rw [e2, Array.append_assoc]⟩
  · obtain ⟨m, hn, hl⟩ := I.loc
    refine ⟨m, ns m hn, fun i x v e1 e2 e3 => ?_⟩
    obtain ⟨u, r, l⟩ := hl i x v e1 e2 e3
    refine ⟨u, r, ?_⟩
    rcases l with l | ⟨k, c, e, z⟩
    · exact .inl l
    · exact .inr ⟨k, c, e, cellK x c e _ z⟩
  · obtain ⟨v, z⟩ := I.cell x c e
    exact ⟨v, cellK x c e v z⟩
  · obtain ⟨m, ⟨o, _, _, ho, _⟩, _⟩ := I.loc
    exact free _ o (fun z => (hch _ z).2.1 rfl) ho I.free
  · obtain ⟨v, o, ho, hd⟩ := I.cell x c e
    exact free c o (fun z => (hch c z).2.2.1 x c e rfl) ho (I.freeC x c e)
  · obtain ⟨e, n, ne, nf, d⟩ := I.pin p hp
    have nch : p.1 ∉ ch := fun z => (hch p.1 z).2.2.2 p hp rfl
    exact ⟨keep p.1 p.2 ne nf nch e n, free p.1 p.2 nch e n, ne, nf, d⟩
theorem Inv.un {t' : Nat} (I : Inv X pins σ H s) (u : Un X.fs [] H H' s.heap h') (hok : HOk X.prog X.w H' h') : Inv X pins σ H' { s with heap := h', toks := t' } := by
  obtain ⟨m, ⟨o, es, ep, ho, r⟩, _⟩ := id I.loc
  obtain ⟨sl, hL⟩ := u.any ho I.free (by simp)
  exact I.step (g' := s.gens) (d' := s.drawn) (ch := []) (fun _ z => nomatch z) (fun b o _ hb _ e n => u.keep b o e n hb (by simp)) (fun b o _ hb _ e n => u.slot b o e n hb (by simp)) (fun b o _ e n => u.free b o e n (by simp)) (fun b o _ e => u.there b o e (by simp)) u.tups u.frzs u.tbls (fun m' hm => by
    obtain ⟨o', es', ep', ho', r'⟩ := hm
    rw [ho] at ho'; cases ho'
    exact ⟨_, es', ep', hL, r'⟩) hok I.bare
theorem Inv.call {g' : Array GenState} {t' : Nat} {d' : Drawn} {ch : List Addr} (I : Inv X pins σ H s) (u : Un (frs X.stack) ch H H' s.heap h') (hok : HOk X.prog X.w H' h') (hg : AllBare g')
    (hch : ∀ b ∈ ch, (b ∈ X.ex ∨ X.s₀.heap.objs.size ≤ b) ∧ b ≠ X.env.locals ∧ (∀ x c, X.env.cells.lookup x = some c → c ≠ b) ∧ ∀ p ∈ X.pn ++ pins, p.1 ≠ b) :
    Inv X pins σ H' { s with heap := h', gens := g', drawn := d', toks := t' } := by
  obtain ⟨m, ⟨o, es, ep, ho, r⟩, _⟩ := id I.loc
  obtain ⟨sl, hL⟩ := u.any ho I.free fun z => (hch _ z).2.1 rfl
  exact I.step (ch := ch) hch (fun b o hL hb hc e n => u.keep b o e n (fun z => (List.mem_cons.mp (I.stkSub b z)).elim hL hb) hc) (fun b o _ _ hc e n => u.any e n hc) (fun b o hc e n => u.free b o e n hc) (fun b o hc e => u.there b o e hc) u.tups u.frzs u.tbls (fun m' hm => by
    obtain ⟨o', es', ep', ho', r'⟩ := hm
    rw [ho] at ho'; cases ho'
    exact ⟨_, es', ep', hL, r'⟩) hok hg
theorem Inv.turned {t' : Nat} {it : Addr} (I : Inv X pins σ H s) (k : ∀ b o, b ≠ it → s.heap.get? b = some o → h'.get? b = some o) (hn : H it = none) (hL : it ≠ X.env.locals)
    (h1 : it ∈ X.ex ∨ X.s₀.heap.objs.size ≤ it) (h2 : ∀ x c, X.env.cells.lookup x = some c → c ≠ it) (h3 : ∀ p ∈ X.pn ++ pins, p.1 ≠ it) : Inv X pins σ H { s with heap := h', toks := t' } := by
  have nit : ∀ b u, H b = some u → b ≠ it := fun b u e z => by rw [z, hn] at e; cases e
  refine I.step (g' := s.gens) (d' := s.drawn) (ch := [it]) (fun b hb => ?_) (fun b o _ _ hc e _ => k b o (fun z => hc (by simp [z])) e) (fun b o _ _ hc e _ => ⟨o.slots, k b o (fun z => hc (by simp [z])) e⟩) (fun _ _ _ _ n => n)
    (fun b o hc e => ⟨o, k b o (fun z => hc (by simp [z])) e⟩) (fun _ _ e => e) (fun _ _ _ e => e) (fun b ps e => ⟨#[], by rw [e]; simp⟩) (fun m hm => ?_) (fun b u e => ?_) I.bare
  · have e : b = it := by simpa using hb
    subst e
    exact ⟨h1, hL, h2, h3⟩
  · obtain ⟨o, es, ep, ho, r⟩ := hm
    exact ⟨o, es, ep, k _ o (Ne.symm hL) ho, r⟩
  · refine (I.hok b u e).stay (fun c v hc q => k c v ?_ q) (fun _ q => q) fun _ _ q => q
    rcases hc with z | z
    · rw [z]; exact nit b u e
    · exact nit c _ z
theorem Inv.tok (I : Inv X pins σ H s) (t : Nat) : Inv X pins σ H { s with toks := t } := I.un (h' := s.heap) (t' := t) Un.refl I.hok
theorem Inv.kept {t' : Nat} (I : Inv X pins σ H s) (k : ∀ b u, s.heap.get? b = some u → h'.get? b = some u) : Inv X pins σ H { s with heap := h', toks := t' } := I.un (Un.kept k) (I.hok.kept k)
theorem Inv.laid {a : Addr} {o : HO} {t' : Nat} (I : Inv X pins σ H s) (k : ∀ b u, s.heap.get? b = some u → h'.get? b = some u) (hp : s.heap.objs.size ≤ a) (new : ObjOk X.prog X.w (upd H a o) h' a o) :
    Inv X pins σ (upd H a o) { s with heap := h', toks := t' } := I.un (Un.laid k hp (I.hok.fresh hp)) (I.hok.laid k hp new)
theorem Inv.write {x e : Addr} {o : HO} {t' : Nat} (I : Inv X pins σ H s) (mu : Mut (H x)) (he : e = x ∨ H e = some (.own x)) (k : ∀ b u, b ≠ e → s.heap.get? b = some u → h'.get? b = some u) (heo : ∃ u, h'.get? e = some u)
    (new : ObjOk X.prog X.w (upd H x o) h' x o) : Inv X pins σ (upd H x o) { s with heap := h', toks := t' } := I.un (Un.write mu he k heo) (I.hok.write mu he k heo new)
theorem Inv.pins_of {pins' : List (Addr × Obj)} (I : Inv X pins σ H s) (h : ∀ p ∈ pins', s.heap.get? p.1 = some p.2 ∧ H p.1 = none ∧ p.1 ≠ X.env.locals ∧ p.1 ∉ X.fs ∧ ∀ v, p.2.data ≠ .cell v) : Inv X pins' σ H s :=
  ⟨I.ok, I.os, I.bare, I.base, I.loc, I.cell, I.free, I.freeC, fun p hp => (List.mem_append.mp hp).elim (fun z => I.pin p (List.mem_append_left _ z)) (h p), I.hok, I.len⟩
theorem nodup_ix {N : List Str} (hN : N.Nodup) {i j : Nat} {x : Str} (a : N[i]? = some x) (b : N[j]? = some x) : i = j := by
  obtain ⟨h1, e1⟩ := List.getElem?_eq_some_iff.mp a
  obtain ⟨h2, e2⟩ := List.getElem?_eq_some_iff.mp b
  exact (List.getElem_inj hN).mp (e1.trans e2.symm)
theorem store_ok2 {M : Model} {A : Around} {E : Value → Shared → Prop} {i : Nat} {x : Str} {v : V} {u : Value} {Q : Unit → Shared → Prop} (I : Inv X pins σ H s) (hN : X.N.Nodup) (hi : X.N[i]? = some x) (hx : Loc X.env.scope x) (r : RelV v u)
    (h : ∀ s', Inv X pins (σ.set i (some v)) H s' → (∃ a, Heap.SameBut a s.heap s'.heap ∧ (a = X.env.locals ∨ X.env.cells.lookup x = some a)) → Q () s') (hf : X.fn x = true ∨ X.env.scope.names.lookup x = some .local := by first | exact .inl rfl | exact .inr rfl | assumption) : wpAny M A (storeName X.env x u) Q E s := by
  obtain ⟨m, hn, hl⟩ := id I.loc
  have hcls : (X.env.scope.kind == .class || (X.env.scope.kind == .module && X.env.locals != X.env.globals)) = false := by rw [I.ok.kind]; rfl
  have hiσ : i < σ.length := by rw [I.len]; exact (List.getElem?_eq_some_iff.mp hi).1
  have cne := I.cne
  have tracked : ∀ {a : Addr} {h' : Heap}, (∃ o, s.heap.get? a = some o ∧ H a = none) → Heap.SameBut a s.heap h' → HOk X.prog X.w H h' := fun {a h'} ha hs b ob e => by
    obtain ⟨_, _, hfree⟩ := ha
    refine (I.hok b ob e).stay (fun c w' hc q => (hs.2 c ?_).trans q) (fun _ q => q) fun _ _ q => q
    rintro rfl
    rcases hc with rfl | hc
    · rw [hfree] at e; cases e
    · rw [hfree] at hc; cases hc
  rcases hx with hk | hk
  · refine wpAny_storeName_local hk hn (fun h' hn' hs => ?_) hcls
    obtain ⟨oL, _, _, hoL, _⟩ := id hn
    refine h _ ⟨I.ok, I.os, I.bare, ⟨fun b o e n hb hx => ?_, fun b o e n hb hx => ?_, I.base.free, fun b o e hx => ?_, I.base.tups, I.base.frzs, I.base.tbls⟩, ⟨_, hn', fun j y v' e1 e2 e3 => ?_⟩, fun y c e => ?_, I.free, I.freeC, fun p hp => ?_, tracked ⟨oL, hoL, I.free⟩ hs, by simpa using I.len⟩ ⟨_, hs, .inl rfl⟩
    · exact (hs.2 b (Nat.ne_of_lt (Nat.lt_of_lt_of_le (Heap.lt_size e) I.ok.above))).trans (I.base.keep b o e n hb hx)
    · obtain ⟨sl, e1⟩ := I.base.slot b o e n hb hx
      exact ⟨sl, (hs.2 b (Nat.ne_of_lt (Nat.lt_of_lt_of_le (Heap.lt_size e) I.ok.above))).trans e1⟩
    · obtain ⟨o', e1⟩ := I.base.there b o e hx
      exact ⟨o', (hs.2 b (Nat.ne_of_lt (Nat.lt_of_lt_of_le (Heap.lt_size e) I.ok.above))).trans e1⟩
    · by_cases hj : j = i
      · subst hj
        rw [hi] at e1; cases e1
        rw [List.getElem?_set_self hiσ] at e2
        cases e2
        exact ⟨u, r, .inl ⟨hk, by simp⟩⟩
      · rw [List.getElem?_set_ne (Ne.symm hj)] at e2
        obtain ⟨u', r', q⟩ := hl j y v' e1 e2 e3
        refine ⟨u', r', ?_⟩
        rcases q with ⟨k, e⟩ | ⟨k, c, e, z⟩
        · refine .inl ⟨k, ?_⟩
          have : y ≠ x := fun e => hj (nodup_ix hN e1 (e ▸ hi))
          simp [this, e]
        · exact .inr ⟨k, c, e, z.sameBut hs (cne y c e)⟩
    · obtain ⟨w', z⟩ := I.cell y c e
      exact ⟨w', z.sameBut hs (cne y c e)⟩
    · obtain ⟨e, n, ne, nf, d⟩ := I.pin p hp
      exact ⟨(hs.2 p.1 ne).trans e, n, ne, nf, d⟩
  · have hfn : X.fn x = true := by
      rcases hf with z | z
      · exact z
      · rw [z] at hk; cases hk
    obtain ⟨c, hc⟩ := I.ok.has x (.inl hk)
    obtain ⟨w', z⟩ := I.cell x c hc
    refine wpAny_storeName_cell I.ok.kind hk hc z (fun h' hc' hs => ?_)
    obtain ⟨oc, hoc, hocd⟩ := id z
    refine h { s with heap := h' } ⟨I.ok, I.os, I.bare, ⟨fun b o e n hb hx => ?_, fun b o e n hb hx => ?_, I.base.free, fun b o e hx => ?_, I.base.tups, I.base.frzs, I.base.tbls⟩, ⟨m, hn.sameBut hs (Ne.symm (cne x c hc)), fun j y v' e1 e2 e3 => ?_⟩, fun y c' e => ?_, I.free, I.freeC, fun p hp => ?_, tracked ⟨oc, hoc, I.freeC x c hc⟩ hs, by simpa using I.len⟩ ⟨c, hs, .inr hc⟩
    · exact (hs.2 b (Nat.ne_of_lt (Nat.lt_of_lt_of_le (Heap.lt_size e) (I.ok.cab x c hfn hc)))).trans (I.base.keep b o e n hb hx)
    · obtain ⟨sl, e1⟩ := I.base.slot b o e n hb hx
      exact ⟨sl, (hs.2 b (Nat.ne_of_lt (Nat.lt_of_lt_of_le (Heap.lt_size e) (I.ok.cab x c hfn hc)))).trans e1⟩
    · obtain ⟨o', e1⟩ := I.base.there b o e hx
      exact ⟨o', (hs.2 b (Nat.ne_of_lt (Nat.lt_of_lt_of_le (Heap.lt_size e) (I.ok.cab x c hfn hc)))).trans e1⟩
    · by_cases hj : j = i
      · subst hj
        rw [hi] at e1; cases e1
        rw [List.getElem?_set_self hiσ] at e2
        cases e2
        exact ⟨u, r, .inr ⟨.inl hk, c, hc, hc'⟩⟩
      · rw [List.getElem?_set_ne (Ne.symm hj)] at e2
        obtain ⟨u', r', q⟩ := hl j y v' e1 e2 e3
        refine ⟨u', r', ?_⟩
        rcases q with q | ⟨k, c', e, z'⟩
        · exact .inl q
        · refine .inr ⟨k, c', e, z'.sameBut hs ?_⟩
          rintro rfl
          exact hj (nodup_ix hN e1 (I.ok.inj _ _ _ e hc ▸ hi))
    · by_cases hcc : c' = c
      · subst hcc; exact ⟨_, hc'⟩
      · obtain ⟨w2, z2⟩ := I.cell y c' e
        exact ⟨w2, z2.sameBut hs hcc⟩
    · obtain ⟨e, n, ne, nf, d⟩ := I.pin p hp
      refine ⟨(hs.2 p.1 ?_).trans e, n, ne, nf, d⟩
      intro q
      rw [q, hoc] at e
      have q' : oc = p.2 := Option.some.inj e
      exact d w' (by rw [← q']; exact hocd)
theorem store_ok {M : Model} {A : Around} {E : Value → Shared → Prop} {i : Nat} {x : Str} {v : V} {u : Value} {Q : Unit → Shared → Prop} (I : Inv X pins σ H s) (hN : X.N.Nodup) (hi : X.N[i]? = some x) (hx : Loc X.env.scope x) (r : RelV v u)
    (h : ∀ s', Inv X pins (σ.set i (some v)) H s' → Q () s') (hf : X.fn x = true ∨ X.env.scope.names.lookup x = some .local := by first | exact .inl rfl | exact .inr rfl | assumption) : wpAny M A (storeName X.env x u) Q E s :=
  store_ok2 I hN hi hx r (fun s' I' _ => h s' I') hf
theorem Inv.call' {s' : Shared} {ch : List Addr} (I : Inv X pins σ H s) (ho : s'.os = s.os) (u : Un (frs X.stack) ch H H' s.heap s'.heap) (hok : HOk X.prog X.w H' s'.heap) (hg : AllBare s'.gens)
    (hch : ∀ b ∈ ch, (b ∈ X.ex ∨ X.s₀.heap.objs.size ≤ b) ∧ b ≠ X.env.locals ∧ (∀ x c, X.env.cells.lookup x = some c → c ≠ b) ∧ ∀ p ∈ X.pn ++ pins, p.1 ≠ b) : Inv X pins σ H' s' := by
  obtain ⟨h', g', d', t', o'⟩ := s'
  have e : o' = s.os := ho
  subst e
  exact I.call (g' := g') (t' := t') (d' := d') u hok hg hch
end
abbrev XK := Value → Option Addr → Hp → Prop
abbrev St := List (Option V)
abbrev VK := V → Hp → Prop
abbrev TE := St → Hp → VK → Prop
abbrev TT := St → Hp → (Bool → Hp → Prop) → Prop
abbrev TA := St → Hp → (List V → Hp → Prop) → Prop
structure Ends where
  nx : St → Hp → Prop
  rt : VK
  bk : St → Hp → Prop := fun _ _ => False
  ct : St → Hp → Prop := fun _ _ => False
abbrev TS := Ends → St → Hp → Prop
def EP (X : Cx) (pins : List (Addr × Obj)) (σ : St) (Q : VK) (u : Value) (s' : Shared) : Prop := ∃ v H', Inv X pins σ H' s' ∧ RelV v u ∧ Q v H'
def TP (X : Cx) (pins : List (Addr × Obj)) (σ : St) (Q : Bool → Hp → Prop) (b : Bool) (s' : Shared) : Prop := ∃ H', Inv X pins σ H' s' ∧ Q b H'
def AP (X : Cx) (pins : List (Addr × Obj)) (σ : St) (Q : List V → Hp → Prop) (us : List Value) (s' : Shared) : Prop := ∃ vs H', Inv X pins σ H' s' ∧ Vals vs us ∧ Q vs H'
def SP (X : Cx) (pins : List (Addr × Obj)) (D : Ends) (f : Flow) (s' : Shared) : Prop :=
  match f with
  | .next => ∃ σ' H', Inv X pins σ' H' s' ∧ D.nx σ' H'
  | .brk => ∃ σ' H', Inv X pins σ' H' s' ∧ D.bk σ' H'
  | .cont => ∃ σ' H', Inv X pins σ' H' s' ∧ D.ct σ' H'
  | .ret u => ∃ v σ' H', Inv X pins σ' H' s' ∧ RelV v u ∧ D.rt v H'
def PE (X : Cx) (e : Expr) (t : TE) : Prop :=
  ∀ (pins : List (Addr × Obj)) (s : Shared) (σ : St) (H : Hp) (Q : VK), Inv X pins σ H s → t σ H Q → wpAny (model X.prog X.w) X.A (eval e X.env) (EP X pins σ Q) X.xe s
def PT (X : Cx) (e : Expr) (t : TT) : Prop :=
  ∀ (pins : List (Addr × Obj)) (s : Shared) (σ : St) (H : Hp) (Q : Bool → Hp → Prop), Inv X pins σ H s → t σ H Q → wpAny (model X.prog X.w) X.A (isTrue e X.env (eval e X.env)) (TP X pins σ Q) X.xe s
def PW (X : Cx) (e : Expr) (t : TT) : Prop :=
  ∀ (whole : Sem Value) (pins : List (Addr × Obj)) (s : Shared) (σ : St) (H : Hp) (Q : Bool → Hp → Prop), Inv X pins σ H s → t σ H Q → wpAny (model X.prog X.w) X.A (isTrue e X.env whole) (TP X pins σ Q) X.xe s
theorem PW.pt {X : Cx} {e : Expr} {t : TT} (h : PW X e t) : PT X e t := h _
def PA (X : Cx) (es : List Expr) (t : TA) : Prop :=
  ∀ (pos : Pos) (pins : List (Addr × Obj)) (s : Shared) (σ : St) (H : Hp) (Q : List V → Hp → Prop), Inv X pins σ H s → t σ H Q → wpAny (model X.prog X.w) X.A (spliced (backTo pos (starEach es X.env))) (AP X pins σ Q) X.xe s
def PS (X : Cx) (st : Stmt) (t : TS) : Prop :=
  ∀ (pins : List (Addr × Obj)) (s : Shared) (σ : St) (H : Hp) (D : Ends), Inv X pins σ H s → t D σ H → wpAny (model X.prog X.w) X.A (exec st X.env) (SP X pins D) X.xe s
def PSs (X : Cx) (st : List Stmt) (t : TS) : Prop :=
  ∀ (pins : List (Addr × Obj)) (s : Shared) (σ : St) (H : Hp) (D : Ends), Inv X pins σ H s → t D σ H → wpAny (model X.prog X.w) X.A (execs st X.env) (SP X pins D) X.xe s
theorem thn {α : Type} {t : Sem α} {Q Q' : α → Shared → Prop} {M : Model} {A : Around} {E : Value → Shared → Prop} {s : Shared} (h : wpAny M A t Q E s) (hQ : ∀ a s, Q a s → Q' a s) : wpAny M A t Q' E s := wpAny_mono h hQ fun _ _ x => x
end L2
namespace L2
open PySem PySem.Spec PyProof.Rows
section
variable {X : Cx}
def tVar (i : Nat) : TE := fun σ H Q => ∃ v, σ[i]? = some (some v) ∧ Q v H
def tC (v : V) : TE := fun _ H Q => Q v H
theorem pe_var {i : Nat} {x : Str} {pos : Pos} (hN : X.N[i]? = some x) (hv : Vis X.env.scope x) (hd : (x == ("__debug__" : Str)) = false := by decide) (hcd : (x == ("__classdict__" : Str)) = false := by decide) : PE X (.Name x pos) (tVar i) := by
  intro pins s σ H Q I h
  obtain ⟨v, e, h⟩ := h
  obtain ⟨m, hn, hl⟩ := I.loc
  obtain ⟨u, r, l⟩ := hl i x v hN e hv
  have fin : EP X pins σ Q u s := ⟨v, H, I, r, h⟩
  rcases l with ⟨hk, hm⟩ | ⟨hk, c, hc, hcell⟩
  · exact wpAny_Name (wpAny_loadName_local I.ok.kind hk hn hm fin) hd
  · rcases hk with hk | hk
    · exact wpAny_Name (wpAny_loadName_cell I.ok.kind hk hc hcell fin) hd
    · exact wpAny_Name (wpAny_loadName_free I.ok.kind hk hc hcell fin hcd) hd
theorem pe_int {i j pos} : PE X (.Constant (.int i) j pos) (tC (.int i)) := fun _ _ _ H _ I h => wpAny_Constant_int ⟨.int i, H, I.tok _, ⟨_, rfl⟩, h⟩
theorem pe_bl {b j pos} : PE X (.Constant (.bool b) j pos) (tC (.bl b)) := fun _ _ _ H _ I h => Constant_bool ⟨.bl b, H, I, rfl, h⟩
theorem pe_non {j pos} : PE X (.Constant .none j pos) (tC .non) := fun _ _ _ H _ I h => Constant_none ⟨.non, H, I, rfl, h⟩
theorem pe_str {x j pos} : PE X (.Constant (.str x) j pos) (tC (.str x)) := fun _ _ _ H _ I h => Calls.Constant_str ⟨.str x, H, I.tok _, ⟨_, rfl⟩, h⟩
def Gl (X : Cx) (x : Str) : Prop := X.env.kindOf x = some .globalImplicit
theorem ld_glob {E : Value → Shared → Prop} {pins : List (Addr × Obj)} {s : Shared} {σ : St} {H : Hp} {x : Str} {u : Value} {pos : Pos} {Q : Value → Shared → Prop} (I : Inv X pins σ H s) (hg : Gl X x) (hm : X.mg x = some u) (h : Q u s)
    (hd : (x == ("__debug__" : Str)) = false := by decide) : wpAny (model X.prog X.w) X.A (eval (.Name x pos) X.env) Q E s :=
  Calls.Name_function_global I.ok.kind hg (Calls.loadGlobal_global (by rw [I.ok.glob]; exact I.mod.glob.keeps I.bk) hm h) hd
theorem ld_blt {E : Value → Shared → Prop} {pins : List (Addr × Obj)} {s : Shared} {σ : St} {H : Hp} {x : Str} {u : Value} {pos : Pos} {Q : Value → Shared → Prop} (I : Inv X pins σ H s) (hg : Gl X x) (hm : X.mg x = none) (hv : bootBuiltins x = some u) (h : Q u s)
    (hn : x ≠ "__name__" := by decide) (hd : (x == ("__debug__" : Str)) = false := by decide) : wpAny (model X.prog X.w) X.A (eval (.Name x pos) X.env) Q E s := by
  obtain ⟨mb, h1, h2⟩ := I.mod.blt
  exact Calls.Name_function_global I.ok.kind hg (Calls.loadGlobal_builtin (by rw [I.ok.glob]; exact I.mod.glob.keeps I.bk) hm (by rw [I.ok.blt]; exact h1.keeps I.bk) ((h2 x hn).trans hv) h) hd
theorem pe_glob {x : Str} {v : V} {u : Value} {pos : Pos} (hg : Gl X x) (hm : X.mg x = some u) (r : RelV v u) (hd : (x == ("__debug__" : Str)) = false := by decide) : PE X (.Name x pos) (tC v) :=
  fun _ _ _ H _ I h => ld_glob I hg hm ⟨v, H, I, r, h⟩ hd
theorem pe_bltn {x : Str} {v : V} {u : Value} {pos : Pos} (hg : Gl X x) (hm : X.mg x = none) (hv : bootBuiltins x = some u) (r : RelV v u) (hn : x ≠ "__name__" := by decide) (hd : (x == ("__debug__" : Str)) = false := by decide) : PE X (.Name x pos) (tC v) :=
  fun _ _ _ H _ I h => ld_blt I hg hm hv ⟨v, H, I, r, h⟩ hn hd
variable {a b : Expr} {ta tb : TE} {pos : Pos}
def tB (t : TE) : TT := fun σ H Q => t σ H fun x H1 => ∃ c, x = .bl c ∧ Q c H1
theorem pt_val {e : Expr} {t : TE} (h : PE X e t) (he : ∀ whole, isTrue e X.env whole = (do let v ← whole; standAt e.pos; holding [v] (truthy v)) := by intro _; rfl) : PT X e (tB t) := by
  intro pins s σ H Q I hw
  refine isTrue_plain (thn (h pins s σ H _ I hw) fun v s1 zz7 => el5 zz7 fun x H1 I1 r1 q1 => ?_) (he _)
  obtain ⟨d, rfl, q⟩ := q1
  cases r1
  exact wpAny_truthy_bool ⟨H1, I1, q⟩
variable {tA tB' : TT} {rest : List Expr}
def tAnd (t u : TT) : TT := fun σ H Q => t σ H fun c H1 => if c = true then u σ H1 Q else Q false H1
def tOr (t u : TT) : TT := fun σ H Q => t σ H fun c H1 => if c = true then Q true H1 else u σ H1 Q
def tNot (t : TT) : TT := fun σ H Q => t σ H fun c H1 => Q (!c) H1
theorem pw_and1 (ha : PT X a tA) : PW X (.BoolOp .And [a] pos) tA := by
  intro wh pins s σ H Q I h
  refine isTrue_and (thn (ha pins s σ H Q I h) fun c s1 e => ?_)
  cases c with
  | true => exact isTrue_and_nil e
  | false => exact e
theorem pw_or1 (ha : PT X a tA) : PW X (.BoolOp .Or [a] pos) tA := by
  intro wh pins s σ H Q I h
  refine isTrue_or (thn (ha pins s σ H Q I h) fun c s1 e => ?_)
  cases c with
  | false => exact isTrue_or_nil e
  | true => exact e
theorem pw_and (ha : PT X a tA) (hb : PW X (.BoolOp .And (b :: rest) pos) tB') : PW X (.BoolOp .And (a :: b :: rest) pos) (tAnd tA tB') := by
  intro wh pins s σ H Q I h
  refine isTrue_and (thn (ha pins s σ H _ I h) fun c s1 zz8 => el2 zz8 fun H1 I1 q1 => ?_)
  cases c with
  | true => exact hb wh pins s1 σ H1 Q I1 q1
  | false => exact ⟨H1, I1, q1⟩
theorem pw_or (ha : PT X a tA) (hb : PW X (.BoolOp .Or (b :: rest) pos) tB') : PW X (.BoolOp .Or (a :: b :: rest) pos) (tOr tA tB') := by
  intro wh pins s σ H Q I h
  refine isTrue_or (thn (ha pins s σ H _ I h) fun c s1 zz9 => el2 zz9 fun H1 I1 q1 => ?_)
  cases c with
  | true => exact ⟨H1, I1, q1⟩
  | false => exact hb wh pins s1 σ H1 Q I1 q1
theorem pt_not (ha : PT X a tA) : PT X (.UnaryOp .Not a pos) (tNot tA) := by
  intro pins s σ H Q I h
  exact isTrue_not (ha pins s σ H (fun c H1 => Q (!c) H1) I h)
def tAndV (ta tb : TE) : TE := fun σ H Q => ta σ H fun x H1 => ∃ c, x = .bl c ∧ if c = true then tb σ H1 Q else Q (.bl false) H1
def tNotV (ta : TE) : TE := fun σ H Q => ta σ H fun x H1 => ∃ c, x = .bl c ∧ Q (.bl (!c)) H1
theorem pe_one {op} {t : TE} (h : PE X a t) : PE X (.BoolOp op [a] pos) t := fun pins s σ H Q I hw => BoolOp_one (h pins s σ H Q I hw)
theorem pe_and (ha : PE X a ta) (hb : PE X (.BoolOp .And (b :: rest) pos) tb) : PE X (.BoolOp .And (a :: b :: rest) pos) (tAndV ta tb) := by
  intro pins s σ H Q I h
  refine BoolOp_and (thn (ha pins s σ H _ I h) fun v s1 zz10 => el5 zz10 fun x H1 I1 r1 q1 => ?_)
  obtain ⟨c, rfl, q1⟩ := q1
  cases r1
  refine wpAny_truthy_bool ?_
  cases c with
  | true => exact hb pins s1 σ H1 Q I1 q1
  | false => exact ⟨.bl false, H1, I1, rfl, q1⟩
theorem pe_not (ha : PE X a ta) : PE X (.UnaryOp .Not a pos) (tNotV ta) := by
  intro pins s σ H Q I h
  refine UnaryOp_ (thn (ha pins s σ H _ I h) fun v s1 zz12 => el5 zz12 fun x H1 I1 r1 q1 => ?_)
  obtain ⟨c, rfl, q1⟩ := q1
  cases r1
  exact not_of (wpAny_truthy_bool ⟨.bl (!c), H1, I1, rfl, q1⟩)
end
end L2
namespace L2
open PySem PySem.Spec PyProof.Rows
def SqL (K : PySem.W.Frag) (H : Hp) (a : Addr) (xs : List V) : Prop :=
  Rd H a (.lst xs) ∨
    ∃ (o : Obj) (its : Array Value) (n : Nat), K.lookup a = some o ∧ o.cls = .type "list" ∧ o.dict = none ∧ o.data = .seq its n ∧ its.size ≤ sizeLine ∧ Vals xs its.toList
def SqT (K : PySem.W.Frag) (H : Hp) (a : Addr) (xs : List V) : Prop :=
  Rd H a (.tup xs) ∨
    ∃ (o : Obj) (its : Array Value) (n : Nat), K.lookup a = some o ∧ o.cls = .type "tuple" ∧ o.data = .seq its n ∧ its.size ≤ sizeLine ∧ Vals xs its.toList
def absV : Value → Option V
  | .none => some .non
  | .bool b => some (.bl b)
  | .int i _ => some (.int i)
  | .str x _ => some (.str x)
  | .bytes b _ => some (.byt b)
  | .float b _ => some (.flt b)
  | .ref a => some (.ref a)
  | .type n => some (.ty n)
  | _ => none
theorem RelV.abs {x : V} {u : Value} (r : RelV x u) : absV u = some x := by
  cases x with
  | non => cases r; rfl
  | bl _ => cases r; rfl
  | int _ => obtain ⟨t, rfl⟩ := r; rfl
  | str _ => obtain ⟨t, rfl⟩ := r; rfl
  | byt _ => obtain ⟨t, rfl⟩ := r; rfl
  | flt _ => obtain ⟨t, rfl⟩ := r; rfl
  | ref _ => cases r; rfl
  | ty _ => cases r; rfl
theorem RelV.inj {x y : V} {u : Value} (r : RelV x u) (q : RelV y u) : x = y := Option.some.inj (r.abs.symm.trans q.abs)
theorem Vals.inj {xs ys : List V} {us : List Value} (h : Vals xs us) (k : Vals ys us) : xs = ys := by
  induction h generalizing ys with
  | nil => cases k; rfl
  | cons r t ih =>
    cases k with
    | cons r' t' => rw [r.inj r', ih t']
section
variable {X : Cx} {pins : List (Addr × Obj)} {σ : St} {H : Hp} {s : Shared} {a : Addr} {xs ys : List V}
theorem SqL.of {K : PySem.W.Frag} (h : H a = some (.lst xs)) : SqL K H a xs := .inl (.inl h)
theorem SqT.of {K : PySem.W.Frag} (h : H a = some (.tup xs)) : SqT K H a xs := .inl (.inl h)
theorem Inv.list (I : Inv X pins σ H s) (h : SqL X.K H a xs) : ∃ its : List Value, Vals xs its ∧ PlainL s.heap a its.toArray ∧ xs.length ≤ sizeLine := by
  rcases h with h | ⟨o, its, n, hk, hc, hd, hs, hz, r⟩
  · obtain ⟨z, its, n, r, e⟩ := h.ok I.hok
    exact ⟨its, r, ⟨_, n, e, rfl, rfl, rfl⟩, z⟩
  · refine ⟨its.toList, r, ⟨o, n, I.kIn a o hk, hc, hd, by simpa using hs⟩, ?_⟩
    have e := r.length
    simp only [Array.length_toList] at e
    lia
theorem Inv.tuple (I : Inv X pins σ H s) (h : SqT X.K H a xs) : ∃ its : List Value, Vals xs its ∧ IsTup s.heap a its.toArray ∧ xs.length ≤ sizeLine := by
  rcases h with h | ⟨o, its, n, hk, hc, hs, hz, r⟩
  · obtain ⟨z, its, r, p⟩ := h.ok I.hok
    exact ⟨its, r, p, z⟩
  · refine ⟨its.toList, r, ⟨o, I.kIn a o hk, hc, n, by simpa using hs⟩, ?_⟩
    have e := r.length
    simp only [Array.length_toList] at e
    lia
theorem Inv.list_inj (I : Inv X pins σ H s) (h : SqL X.K H a xs) (h' : SqL X.K H a ys) : xs = ys := by
  obtain ⟨its, r, ⟨o, n, e, _, _, d⟩, _⟩ := I.list h
  obtain ⟨its', r', ⟨o', n', e', _, _, d'⟩, _⟩ := I.list h'
  rw [e] at e'; cases e'
  rw [d] at d'
  injection d' with d1 _
  have : its = its' := by simpa using congrArg Array.toList d1
  subst this
  exact r.inj r'
theorem Inv.tuple_inj (I : Inv X pins σ H s) (h : SqT X.K H a xs) (h' : SqT X.K H a ys) : xs = ys := by
  obtain ⟨its, r, ⟨o, e, _, n, d⟩, _⟩ := I.tuple h
  obtain ⟨its', r', ⟨o', e', _, n', d'⟩, _⟩ := I.tuple h'
  rw [e] at e'; cases e'
  rw [d] at d'
  injection d' with d1 _
  have : its = its' := by simpa using congrArg Array.toList d1
  subst this
  exact r.inj r'
end
abbrev Cx.wish (X : Cx) (E : Value → Shared → Prop) : Cx := { X with xe := E }
abbrev Cx.nox (X : Cx) : Cx := X.wish fun _ _ => False
theorem Cx.Ok.wish {X : Cx} (ok : X.Ok) (E : Value → Shared → Prop) : (X.wish E).Ok :=
  ⟨ok.mod, ok.kind, ok.glob, ok.blt, ok.above, ok.inj, ok.has, ok.cab, ok.hd, ok.frames, ok.stk, ok.exf, ok.bs, ok.bsz, ok.noex, ok.exfs, ok.funs, ok.frf⟩
theorem Cx.Ok.unwish {X : Cx} {E : Value → Shared → Prop} (ok : (X.wish E).Ok) : X.Ok :=
  ⟨ok.mod, ok.kind, ok.glob, ok.blt, ok.above, ok.inj, ok.has, ok.cab, ok.hd, ok.frames, ok.stk, ok.exf, ok.bs, ok.bsz, ok.noex, ok.exfs, ok.funs, ok.frf⟩
section
variable {X : Cx} {pins : List (Addr × Obj)} {σ : St} {H : Hp} {s : Shared} {E : Value → Shared → Prop}
theorem Inv.wish (I : Inv X pins σ H s) (E : Value → Shared → Prop) : Inv (X.wish E) pins σ H s := ⟨I.ok.wish E, I.os, I.bare, I.base, I.loc, I.cell, I.free, I.freeC, I.pin, I.hok, I.len⟩
theorem Inv.unwish (I : Inv (X.wish E) pins σ H s) : Inv X pins σ H s := ⟨I.ok.unwish, I.os, I.bare, I.base, I.loc, I.cell, I.free, I.freeC, I.pin, I.hok, I.len⟩
theorem SP.unwish {D : Ends} {f : Flow} {s' : Shared} (h : SP (X.wish E) pins D f s') : SP X pins D f s' := by
  cases f with
  | next => obtain ⟨σ', H', I, q⟩ := h; exact ⟨σ', H', I.unwish, q⟩
  | brk => obtain ⟨σ', H', I, q⟩ := h; exact ⟨σ', H', I.unwish, q⟩
  | cont => obtain ⟨σ', H', I, q⟩ := h; exact ⟨σ', H', I.unwish, q⟩
  | ret u => obtain ⟨v, σ', H', I, r, q⟩ := h; exact ⟨v, σ', H', I.unwish, r, q⟩
theorem PSs.nox {st : List Stmt} {t : TS} (h : PSs X.nox st t) : PSs X st t := fun pins s σ H D I hw =>
  wpAny_mono (h pins s σ H D (I.wish _) hw) (fun _ _ q => q.unwish) fun _ _ z => False.elim z
end
section
variable {X : Cx} {st : Stmt} {rest : List Stmt} {t u : TS} {e : Expr} {te : TE} {pos : Pos}
def tNext : TS := fun D σ H => D.nx σ H
def tSeq (t u : TS) : TS := fun D σ H => t { D with nx := u D } σ H
theorem pss_nil : PSs X [] tNext := fun _ _ σ H _ I h => wpAny_execs_nil ⟨σ, H, I, h⟩
theorem pss_cons (h1 : PS X st t) (h2 : PSs X rest u) : PSs X (st :: rest) (tSeq t u) := by
  intro pins s σ H D I h
  refine wpAny_execs_cons (thn (h1 pins s σ H { D with nx := u D } I h) fun f s1 q => ?_)
  cases f with
  | next =>
    obtain ⟨σ', H', I', q⟩ := q
    exact h2 pins s1 σ' H' D I' q
  | ret v => exact q
  | brk => exact q
  | cont => exact q
theorem pss_one (h1 : PS X st t) : PSs X [st] t := by
  intro pins s σ H D I h
  refine wpAny_execs_cons (thn (h1 pins s σ H D I h) fun f s1 q => ?_)
  cases f with
  | next => exact wpAny_execs_nil q
  | ret v => exact q
  | brk => exact q
  | cont => exact q
theorem Inv.quiet {pins : List (Addr × Obj)} {σ : St} {H : Hp} {s : Shared} (I : Inv X pins σ H s) : interactive X.env = false := by simp [interactive, I.ok.kind]
def tDrop (te : TE) : TS := fun D σ H => te σ H fun _ H1 => D.nx σ H1
theorem ps_expr (he : PE X e te) (hs : swapsWith e none pos.line X.env = pure false := by rfl) : PS X (.Expr e pos) (tDrop te) := by
  intro pins s σ H D I h
  exact wpAny_Expr_any (thn (he pins s σ H _ I h) fun v s1 zz20 => el5 zz20 fun x H1 I1 r1 q1 => ⟨σ, H1, I1, q1⟩) I.quiet hs
def tRet (te : TE) : TS := fun D σ H => te σ H D.rt
theorem ps_ret (he : PE X e te) : PS X (.Return (some e) pos) (tRet te) := by
  intro pins s σ H D I h
  exact wpAny_Return_some (thn (he pins s σ H _ I h) fun v s1 zz21 => el5 zz21 fun x H1 I1 r1 q1 => ⟨x, σ, H1, I1, r1, q1⟩)
def tIfS (c : TT) (t u : TS) : TS := fun D σ H => c σ H fun b H1 => if b = true then t D σ H1 else u D σ H1
theorem ps_if {c : Expr} {a b : List Stmt} {tc : TT} (hc : PT X c tc) (ha : PSs X a t) (hb : PSs X b u) : PS X (.If c a b pos) (tIfS tc t u) := by
  intro pins s σ H D I h
  refine wpAny_If (thn (hc pins s σ H _ I h) fun d s1 zz22 => el2 zz22 fun H1 I1 q1 => ?_)
  cases d with
  | true => exact ha pins s1 σ H1 D I1 q1
  | false => exact hb pins s1 σ H1 D I1 q1
end
abbrev TG := V → St → Hp → (St → Hp → Prop) → Prop
abbrev TGs := List V → St → Hp → (St → Hp → Prop) → Prop
def PG (X : Cx) (target : Expr) (t : TG) : Prop :=
  ∀ (pins : List (Addr × Obj)) (s : Shared) (σ : St) (H : Hp) (v : V) (u : Value) (Q : St → Hp → Prop), Inv X pins σ H s → RelV v u → t v σ H Q →
    wpAny (model X.prog X.w) X.A (assign target X.env u) (fun _ s' => ∃ σ' H', Inv X pins σ' H' s' ∧ Q σ' H') X.xe s
def PGs (X : Cx) (ts : List Expr) (t : TGs) : Prop :=
  ∀ (pins : List (Addr × Obj)) (s : Shared) (σ : St) (H : Hp) (vs : List V) (us : List Value) (Q : St → Hp → Prop), Inv X pins σ H s → Vals vs us → t vs σ H Q →
    wpAny (model X.prog X.w) X.A (assignInOrder ((assignEach ts X.env).map (·.2)) us) (fun _ s' => ∃ σ' H', Inv X pins σ' H' s' ∧ Q σ' H') X.xe s
abbrev TSet := V → V → V → Hp → (Hp → Prop) → Prop
def PSet (X : Cx) (t : TSet) : Prop :=
  ∀ (pins : List (Addr × Obj)) (s : Shared) (σ : St) (H : Hp) (o i v : V) (ov iv u : Value) (Q : Hp → Prop), Inv X pins σ H s → RelV o ov → RelV i iv → RelV v u → t o i v H Q →
    wpAny (model X.prog X.w) X.A (setItem ov iv u) (fun _ s' => ∃ H', Inv X pins σ H' s' ∧ Q H') X.xe s
abbrev TIp := V → V → Hp → VK → Prop
def PIp (X : Cx) (op : Operator) (t : TIp) : Prop :=
  ∀ (pins : List (Addr × Obj)) (s : Shared) (σ : St) (H : Hp) (x y : V) (v u : Value) (Q : VK), Inv X pins σ H s → RelV x v → RelV y u → t x y H Q →
    wpAny (model X.prog X.w) X.A (inplaceOp op v u) (EP X pins σ Q) X.xe s
section
variable {X : Cx} {pos : Pos}
def gName (i : Nat) : TG := fun v σ H Q => Q (σ.set i (some v)) H
theorem pg_name {i : Nat} {x : Str} (hN : X.N.Nodup) (hi : X.N[i]? = some x) (hx : Loc X.env.scope x) (hf : X.fn x = true ∨ X.env.scope.names.lookup x = some .local := by first | exact .inl rfl | exact .inr rfl | assumption) : PG X (.Name x pos) (gName i) := by
  intro pins s σ H v u Q I r h
  exact wpAny_assign_Name (store_ok I hN hi hx r (fun s' I' => ⟨_, H, I', h⟩) hf)
def gNil : TGs := fun vs σ H Q => vs = [] ∧ Q σ H
def gCons (t : TG) (u : TGs) : TGs := fun vs σ H Q => ∃ v r, vs = v :: r ∧ t v σ H fun σ' H' => u r σ' H' Q
theorem pgs_nil : PGs X [] gNil := by
  intro pins s σ H vs us Q I r h
  obtain ⟨e, h⟩ := h
  subst e
  cases r
  exact assignInOrder_nil ⟨σ, H, I, h⟩
theorem pgs_cons {e : Expr} {es : List Expr} {t : TG} {u : TGs} (h1 : PG X e t) (h2 : PGs X es u)
    (hs : (assignEach (e :: es) X.env).map (·.2) = assign e X.env :: (assignEach es X.env).map (·.2) := by rfl) : PGs X (e :: es) (gCons t u) := by
  intro pins s σ H vs us Q I r h
  obtain ⟨v, vr, e1, h⟩ := h
  subst e1
  cases r with
  | cons r rr =>
    rw [hs]
    refine assignInOrder_cons (thn (h1 pins s σ H _ _ _ I r h) fun _ s1 zz23 => zz23.elim fun σ1 zz24 => zz24.elim fun H1 zz25 => zz25.elim fun I1 q1 => ?_)
    exact h2 pins s1 σ1 H1 _ _ Q I1 rr q1
def gTup (K : PySem.W.Frag) (n : Nat) (t : TGs) : TG := fun v σ H Q => ∃ a xs, v = .ref a ∧ SqT K H a xs ∧ xs.length = n ∧ t xs σ H Q
theorem pg_tup {es : List Expr} {k : Nat} {t : TGs} {n : Nat} (hc : X.calm = true) (h : PGs X es t)
    (hn : (assignEach es X.env).length = n := by rfl) (hst : (assignEach es X.env).findIdx? (·.1) = none := by rfl) : PG X (.Tuple es k pos) (gTup X.K n t) := by
  intro pins s σ H v u Q I r hw
  obtain ⟨a, xs, e1, hq, hl, hw⟩ := hw
  subst e1
  cases r
  obtain ⟨its, rv, ht, hz⟩ := I.tuple hq
  refine assign_Tuple_tuple (I.ok.hd hc) ht (by simp [hn, ← hl, rv.length]) hst fun h' hx => ?_
  have I1 : Inv X pins σ H { s with heap := h' } := I.kept (t' := s.toks) fun b o e => hx b o (Nat.ne_of_lt (Heap.lt_size e)) e
  exact h pins _ σ H xs _ Q I1 (by simpa using rv) hw
def gSub (to ti : TE) (t : TSet) : TG := fun v σ H Q => to σ H fun o H1 => ti σ H1 fun i H2 => t o i v H2 fun H3 => Q σ H3
theorem pg_sub {o i : Expr} {to ti : TE} {t : TSet} (ho : PE X o to) (hi : PE X i ti) (hs : PSet X t)
    (ha : ∀ v, assign (.Subscript o i pos) X.env v = (do
      let ov ← holding [v] (eval o X.env)
      let iv ← holding [v, ov] (eval i X.env)
      standAt pos
      holding [v, ov, iv] (setItem ov iv v)
      release [v, ov, iv] []) := by intro _; rfl) : PG X (.Subscript o i pos) (gSub to ti t) := by
  intro pins s σ H v u Q I r h
  rw [ha]
  refine wpAny_bind (wpAny_holding (thn (ho pins s σ H _ I h) fun ov s1 zz26 => el5 zz26 fun x H1 I1 r1 q1 => ?_))
  refine wpAny_bind (wpAny_holding (thn (hi pins s1 σ H1 _ I1 q1) fun iv s2 zz27 => el5 zz27 fun y H2 I2 r2 q2 => ?_))
  refine wpAny_bind (wpAny_standAt (wpAny_bind (wpAny_holding (thn (hs pins s2 σ H2 x y v ov iv u _ I2 r1 r2 r q2) fun _ s3 zz28 => el2 zz28 fun H3 I3 q3 => ?_))))
  exact wpAny_release ⟨σ, H3, I3, q3⟩
def tAsg (te : TE) (g : TG) : TS := fun D σ H => te σ H fun x H1 => g x σ H1 D.nx
theorem ps_asg {tg e : Expr} {te : TE} {g : TG} (he : PE X e te) (hg : PG X tg g) (hs : swapsWithSole [tg] e pos.line X.env = pure false := by rfl) (hw : swappedStores [tg] e X.env = pure none := by rfl)
    (h1 : (assignEach [tg] X.env).map (·.2) = [assign tg X.env] := by rfl) : PS X (.Assign [tg] e pos) (tAsg te g) := by
  intro pins s σ H D I h
  refine wpAny_Assign_stores (thn (he pins s σ H _ I h) fun v s1 zz29 => el5 zz29 fun x H1 I1 r1 q1 => ?_) hs hw
  rw [h1]
  exact thn (hg pins s1 σ H1 x v _ I1 r1 q1) fun _ s2 q => q
theorem ps_set {i : Nat} {x : Str} {e : Expr} {te : TE} {pos' : Pos} (hN : X.N.Nodup) (hi : X.N[i]? = some x) (hx : Loc X.env.scope x) (he : PE X e te) (hs : swapsWith e (some (.Name x pos')) pos.line X.env = pure false := by rfl) (hf : X.fn x = true ∨ X.env.scope.names.lookup x = some .local := by first | exact .inl rfl | exact .inr rfl | assumption) :
    PS X (.Assign [.Name x pos'] e pos) (tAsg te (gName i)) := by
  intro pins s σ H D I h
  refine wpAny_Assign_Name (thn (he pins s σ H _ I h) fun v s1 zz30 => el5 zz30 fun y H1 I1 r1 q1 => ?_) hs
  exact store_ok I1 hN hi hx r1 (fun s2 I2 => ⟨_, H1, I2, q1⟩) hf
def tAugS (to ti te : TE) (tget : V → V → Hp → VK → Prop) (tip : TIp) (tset : TSet) : TS := fun D σ H => to σ H fun o H1 => ti σ H1 fun i H2 => tget o i H2 fun x H3 => te σ H3 fun y H4 => tip x y H4 fun z H5 => tset o i z H5 fun H6 => D.nx σ H6
def PGet (X : Cx) (t : V → V → Hp → VK → Prop) : Prop :=
  ∀ (pins : List (Addr × Obj)) (s : Shared) (σ : St) (H : Hp) (o i : V) (ov iv : Value) (Q : VK), Inv X pins σ H s → RelV o ov → RelV i iv → t o i H Q →
    wpAny (model X.prog X.w) X.A (getItem ov iv) (EP X pins σ Q) X.xe s
theorem ps_augS {o i e : Expr} {to ti te : TE} {tget : V → V → Hp → VK → Prop} {tip : TIp} {tset : TSet} {op : Operator} {tpos : Pos} (ho : PE X o to) (hi : PE X i ti) (hg : PGet X tget) (he : PE X e te) (hp : PIp X op tip) (hs : PSet X tset)
    (ha : ∀ ov iv new, augStore i ov iv new = (do holding [new, ov, iv] (setItem ov iv new); release [new, ov, iv] []; pure .next) := by intros; rfl) : PS X (.AugAssign (.Subscript o i tpos) op e pos) (tAugS to ti te tget tip tset) := by
  intro pins s σ H D I h
  refine wpAny_AugAssign_SubscriptAny (thn (ho pins s σ H _ I h) fun ov s1 zz34 => el5 zz34 fun x1 H1 I1 r1 q1 => ?_) ha
  refine thn (hi pins s1 σ H1 _ I1 q1) fun iv s2 zz35 => el5 zz35 fun x2 H2 I2 r2 q2 => ?_
  refine thn (hg pins s2 σ H2 x1 x2 ov iv _ I2 r1 r2 q2) fun old s3 zz36 => el5 zz36 fun x3 H3 I3 r3 q3 => ?_
  refine thn (he pins s3 σ H3 _ I3 q3) fun v s4 zz37 => el5 zz37 fun x4 H4 I4 r4 q4 => ?_
  refine thn (hp pins s4 σ H4 x3 x4 old v _ I4 r3 r4 q4) fun new s5 zz38 => el5 zz38 fun x5 H5 I5 r5 q5 => ?_
  exact thn (hs pins s5 σ H5 x1 x2 x5 ov iv new _ I5 r1 r2 r5 q5) fun _ s6 zz39 => el2 zz39 fun H6 I6 q6 => ⟨σ, H6, I6, q6⟩
def ipI (f : Int → Int → Int) : TIp := fun x y H Q => ∃ i j, x = .int i ∧ y = .int j ∧ Q (.int (f i j)) H
theorem ip_add : PIp X .Add (ipI fun i j => i + j) := by
  intro pins s σ H x y v u Q I r1 r2 h
  obtain ⟨i, j, e1, e2, q⟩ := h
  subst e1; subst e2
  obtain ⟨t, rfl⟩ := r1
  obtain ⟨t', rfl⟩ := r2
  exact iadd_int ⟨.int _, H, I.tok _, ⟨_, rfl⟩, q⟩
theorem ip_sub : PIp X .Sub (ipI fun i j => i - j) := by
  intro pins s σ H x y v u Q I r1 r2 h
  obtain ⟨i, j, e1, e2, q⟩ := h
  subst e1; subst e2
  obtain ⟨t, rfl⟩ := r1
  obtain ⟨t', rfl⟩ := r2
  exact isub_int ⟨.int _, H, I.tok _, ⟨_, rfl⟩, q⟩
end
section
variable {X : Cx} {pos : Pos}
def tWhile (c : TT) (tb : TS) : TS := fun D σ H => ∃ W : Nat → St → Hp → Prop, (∃ m, W m σ H) ∧ ∀ m σ H, W m σ H →
  c σ H fun b H1 => if b = true then ∃ N : St → Hp → Prop, (∀ σ' H', N σ' H' → ∃ m', m' < m ∧ W m' σ' H') ∧ tb { D with nx := N, ct := N, bk := D.nx } σ H1 else D.nx σ H1
theorem ps_while {c : Expr} {body : List Stmt} {tc : TT} {tb : TS} (hp : PassesOwn (model X.prog X.w) X.A X.env X.xe) (hc : PT X c tc) (hb : PSs X body tb) : PS X (.While c body [] pos) (tWhile tc tb) := by
  intro pins s σ H D I h
  obtain ⟨W, ⟨m0, w0⟩, turn⟩ := h
  refine wpAny_While (codeAny_whileLoop (fun n s' => ∃ σ' H', Inv X pins σ' H' s' ∧ W n σ' H') ?_ m0 ⟨σ, H, I, w0⟩)
  rintro n s1 ⟨σ1, H1, I1, w1⟩
  refine wpAny_passesOwn hp (thn (hc pins s1 σ1 H1 _ I1 (turn n σ1 H1 w1)) fun b s2 zz40 => el2 zz40 fun H2 I2 q2 => ?_)
  cases b with
  | true =>
    obtain ⟨N, hN, q2⟩ := q2
    rw [if_pos rfl]
    refine wpAny_passesOwn hp (thn (hb pins s2 σ1 H2 _ I2 q2) fun f s3 q3 => ?_)
    cases f with
    | next =>
      obtain ⟨σ3, H3, I3, n3⟩ := q3
      obtain ⟨m', hm, w3⟩ := hN σ3 H3 n3
      exact ⟨m', hm, σ3, H3, I3, w3⟩
    | cont =>
      obtain ⟨σ3, H3, I3, n3⟩ := q3
      obtain ⟨m', hm, w3⟩ := hN σ3 H3 n3
      exact ⟨m', hm, σ3, H3, I3, w3⟩
    | brk => exact q3
    | ret v => exact q3
  | false =>
    rw [if_neg Bool.false_ne_true]
    exact wpAny_execs_nil ⟨σ1, H2, I2, q2⟩
end
structure It where
  go : Nat → Hp → Prop
  yld : Nat → Hp → V → Hp → Prop
  stop : Nat → Hp → Prop
def FpOk (X : Cx) (pins : List (Addr × Obj)) (H : Hp) (b : Addr) : Prop :=
  H b = none ∧ b ≠ X.env.locals ∧ b ∉ X.fs ∧ (b ∈ X.ex ∨ X.s₀.heap.objs.size ≤ b) ∧ (∀ x c, X.env.cells.lookup x = some c → c ≠ b) ∧ ∀ p ∈ X.pn ++ pins, p.1 ≠ b
theorem Inv.fpOk {X : Cx} {pins : List (Addr × Obj)} {σ : St} {H H' : Hp} {s : Shared} {b : Addr} (I : Inv X pins σ H s) (hb : s.heap.objs.size ≤ b) (hn : H' b = none) : FpOk X pins H' b := by
  refine ⟨hn, Nat.ne_of_gt (Nat.lt_of_lt_of_le I.lt hb), I.nofs hb, .inr (Nat.le_trans I.sz hb), fun x c e z => ?_, fun p hp z => ?_⟩
  · obtain ⟨v, q⟩ := I.cell x c e
    exact absurd (Nat.lt_of_lt_of_le q.lt (by rw [z]; exact hb)) (Nat.lt_irrefl _)
  · exact absurd (Nat.lt_of_lt_of_le (Heap.lt_size (I.pin p hp).1) (by rw [z]; exact hb)) (Nat.lt_irrefl _)
structure Turn (P : Program) (w : World) (K : PySem.W.Frag) (tg : Expr) (J : It) (fp : List Addr) (it : Addr) (tn : Nat → Heap → Prop) : Prop where
  mem : it ∈ fp
  obj : ∀ i h, tn i h → ∀ b ∈ fp, ∃ o, h.get? b = some o ∧ ∀ v, o.data ≠ .cell v
  keep : ∀ i h h', tn i h → (∀ b ∈ fp, ∀ o, h.get? b = some o → h'.get? b = some o) → tn i h'
  item : ∀ (X : Cx), X.prog = P → X.w = w → X.K = K → X.calm = true → ∀ (i : Nat) (pins : List (Addr × Obj)) (s : Shared) (σ : St) (H : Hp) (E : Value → Shared → Prop), Inv X pins σ H s → (∀ b ∈ fp, FpOk X pins H b) → tn i s.heap → J.go i H →
    wpAny (model P w) X.A (pyNext (.ref it)) (fun r s1 => ∃ u, r = some u ∧
      wpAny (model P w) X.A (letOwnedTupleGo tg (.ref it) u) (fun _ s2 => ∃ x H', Inv X pins σ H' s2 ∧ RelV x u ∧ J.yld i H x H' ∧ tn (i + 1) s2.heap ∧ ∀ b ∈ fp, H' b = none) E s1) E s
  done : ∀ (X : Cx), X.prog = P → X.w = w → X.K = K → X.calm = true → ∀ (i : Nat) (pins : List (Addr × Obj)) (s : Shared) (σ : St) (H : Hp) (E : Value → Shared → Prop), Inv X pins σ H s → (∀ b ∈ fp, FpOk X pins H b) → tn i s.heap → J.stop i H →
    wpAny (model P w) X.A (pyNext (.ref it)) (fun r s1 => r = none ∧ Inv X pins σ H s1) E s
  self : ∀ (A : Around) (i : Nat) (s : Shared) (Q : Value → Shared → Prop) (E : Value → Shared → Prop), tn i s.heap → Q (.ref it) s → wpAny (model P w) A (pyIter (.ref it)) Q E s
abbrev TI := St → Hp → (It → Hp → Prop) → Prop
def PIE (X : Cx) (pins : List (Addr × Obj)) (σ : St) (tg : Expr) (R : It → Hp → Prop) (itv : Value) (s2 : Shared) : Prop :=
  ∃ (it : Addr) (fp : List Addr) (tn : Nat → Heap → Prop) (J : It) (H' : Hp), itv = .ref it ∧ Inv X pins σ H' s2 ∧ Turn X.prog X.w X.K tg J fp it tn ∧ tn 0 s2.heap ∧ (∀ b ∈ fp, FpOk X pins H' b) ∧ R J H'
def PI (X : Cx) (tg iter : Expr) (wi : TI) : Prop :=
  ∀ (pins : List (Addr × Obj)) (s : Shared) (σ : St) (H : Hp) (R : It → Hp → Prop), Inv X pins σ H s → wi σ H R →
    wpAny (model X.prog X.w) X.A (eval iter X.env) (fun v s1 => wpAny (model X.prog X.w) X.A (pyIter v) (PIE X pins σ tg R) X.xe s1) X.xe s
theorem go_of {M : Model} {A : Around} {E : Value → Shared → Prop} {s : Shared} {tg : Expr} {it : Addr} {u : Value} {o : Obj} {n : String} {vs : Array Value} {Q : Unit → Shared → Prop} (ho : s.heap.get? it = some o) (hc : o.cls = .type n) (hd : o.data = .fields vs)
    (hn : ["enumerate", "zip", "dict_itemiterator", "dict_reverseitemiterator", "odict_iterator", "itertools.zip_longest", "itertools.pairwise"].contains n = false) (hQ : Q () s) : wpAny M A (letOwnedTupleGo tg (.ref it) u) Q E s := by
  unfold letOwnedTupleGo
  cases tg <;> first
    | exact wpAny_pure hQ
    | (cases u <;> first
        | exact wpAny_pure hQ
        | (refine wpAny_bind (wpAny_load ho ?_)
           rw [hc, hd]
           show wpAny M A (if (["enumerate", "zip", "dict_itemiterator", "dict_reverseitemiterator", "odict_iterator", "itertools.zip_longest", "itertools.pairwise"].contains n && vs[0]? == some (rawInt _)) = true then _ else _) Q E s
           rw [if_neg (by intro h; rw [hn, Bool.false_and] at h; cases h)]
           exact wpAny_pure hQ))
def Itt (K : PySem.W.Frag) (a : Addr) : It :=
  ⟨fun i H => ∃ xs x, SqT K H a xs ∧ xs[i]? = some x, fun i H x H' => H' = H ∧ ∀ xs, SqT K H a xs → xs[i]? = some x, fun i H => ∃ xs, SqT K H a xs ∧ xs.length ≤ i⟩
def Itr (lo : Int) (n : Nat) : It := ⟨fun i _ => i < n, fun i H x H' => H' = H ∧ x = .int (lo + i), fun i _ => n ≤ i⟩
theorem turn_tuple {P : Program} {w : World} {K : PySem.W.Frag} {tg : Expr} (a it : Addr) : Turn P w K tg (Itt K a) [it] it (fun i h => h.IsTupleIter it a i) where
  mem := by simp
  obj := fun i h st b hb => by
    have e : b = it := by simpa using hb
    subst e
    obtain ⟨o, e, c, d⟩ := st
    exact ⟨o, e, fun v z => by rw [d] at z; cases z⟩
  keep := fun i h h' st k => st.at fun o e => k it (by simp) o e
  item := by
    intro X hP hw hK hc i pins s σ H E I hf st hg
    subst hP hw hK
    obtain ⟨xs, x, hq, hx⟩ := hg
    obtain ⟨its, rv, p, hz⟩ := I.tuple hq
    obtain ⟨u, hu, ru⟩ := rv.get hx
    obtain ⟨f0, f1, f2, f3, f4, f5⟩ := hf it (by simp)
    refine wpAny_pyNext_tuple_item st (show s.heap.IsTuple a its.toArray from p) (x := u) (by simpa using hu) fun h' st' sb => ?_
    have I1 : Inv X pins σ H { s with heap := h' } := I.turned (t' := s.toks) (fun b o hb e => (sb.2 b hb).trans e) f0 f1 f3 f4 f5
    obtain ⟨o, e, c, d⟩ := id st'
    exact ⟨u, rfl, go_of (s := { s with heap := h' }) e c d (by decide) ⟨x, H, I1, ru, ⟨rfl, fun ys hy => by rw [I.tuple_inj hy hq]; exact hx⟩, st', fun b hb => (hf b hb).1⟩⟩
  done := by
    intro X hP hw hK hc i pins s σ H E I hf st hg
    subst hP hw hK
    obtain ⟨xs, hq, hx⟩ := hg
    obtain ⟨its, rv, p, hz⟩ := I.tuple hq
    obtain ⟨f0, f1, f2, f3, f4, f5⟩ := hf it (by simp)
    have hl := rv.length
    exact wpAny_pyNext_tuple_end (I.ok.hd hc) st (show s.heap.IsTuple a its.toArray from p) (by simp; lia) fun h' eb => ⟨rfl, I.turned (t' := s.toks) (fun b o hb e => eb b o hb e) f0 f1 f3 f4 f5⟩
  self := fun _ _ _ _ _ st h => wpAny_pyIter_tupleiter st h
theorem turn_range {P : Program} {w : World} {K : PySem.W.Frag} {tg : Expr} (it : Addr) (lo : Int) (n : Nat) : Turn P w K tg (Itr lo n) [it] it (fun i h => IsRangeIter h it (lo + (i : Nat) * 1) ((n : Int) - (i : Nat)) 1) where
  mem := by simp
  obj := fun i h st b hb => by
    have e : b = it := by simpa using hb
    subst e
    exact ⟨_, st, fun v z => by
      have z' : Data.fields _ = Data.cell v := z
      cases z'⟩
  keep := fun i h h' st k => k it (by simp) _ st
  item := by
    intro X hP hw hK hc i pins s σ H E I hf st hg
    subst hP hw hK
    obtain ⟨f0, f1, f2, f3, f4, f5⟩ := hf it (by simp)
    have W := Walks.range (prog := X.prog) (w := X.w) (I.ok.hd hc) it lo 1 n
    refine W.item i s _ _ hg st fun v h' tk hv st' kk => ?_
    obtain ⟨t, rfl⟩ := hv
    have I1 : Inv X pins σ H { s with heap := h', toks := tk } := I.turned (fun b o hb e => kk b o (by simpa using hb) e) f0 f1 f3 f4 f5
    refine ⟨_, rfl, go_of (s := { s with heap := h', toks := tk }) (n := "range_iterator") st' rfl rfl (by decide) ⟨.int (lo + i), H, I1, ⟨t, ?_⟩, ⟨rfl, rfl⟩, st', fun b hb => (hf b hb).1⟩⟩
    rw [Int.mul_one]
  done := by
    intro X hP hw hK hc i pins s σ H E I hf st hg
    subst hP hw hK
    obtain ⟨f0, f1, f2, f3, f4, f5⟩ := hf it (by simp)
    exact wpAny_pyNext_range_end (I.ok.hd hc) st (by have : n ≤ i := hg; lia) fun h' eb => ⟨rfl, I.turned (t' := s.toks) (fun b o hb e => eb b o hb e) f0 f1 f3 f4 f5⟩
  self := fun _ _ _ _ _ st h => wpAny_pyIter_rangeiter st h
end L2
namespace L2
open PySem PySem.Spec PyProof.Rows
section
variable {X : Cx} {tg : Expr}
def iTup (K : PySem.W.Frag) (tl : TE) : TI := fun σ H R => tl σ H fun x H1 => ∃ a, x = .ref a ∧ (∃ xs, SqT K H1 a xs) ∧ R (Itt K a) H1
theorem pi_tup {l : Expr} {tl : TE} (hl : PE X l tl) : PI X tg l (iTup X.K tl) := by
  intro pins s σ H R I h
  refine thn (hl pins s σ H _ I h) fun v s1 zz42 => el5 zz42 fun x H1 I1 r1 q1 => ?_
  obtain ⟨a, e, ⟨xs, hq⟩, q⟩ := q1
  subst e
  cases r1
  obtain ⟨its, rv, p, hz⟩ := I1.tuple hq
  refine wpAny_pyIter_tuple (show s1.heap.IsTuple a its.toArray from p) ?_
  refine ⟨s1.heap.objs.size, [s1.heap.objs.size], _, _, H1, rfl, I1.kept (t' := s1.toks) fun b o e => Heap.get?_push_of_some _ e, turn_tuple a _, ⟨_, Heap.get?_push_size _ rfl, rfl, rfl⟩, fun b hb => ?_, q⟩
  have e : b = s1.heap.objs.size := by simpa using hb
  subst e
  exact I1.fpOk (Nat.le_refl _) (I1.hok.fresh (Nat.le_refl _))
theorem range_it {pins : List (Addr × Obj)} {σ : St} {H : Hp} {s : Shared} {R : It → Hp → Prop} {E : Value → Shared → Prop} {lo hi : Int} {t u v : Tok} {tk : Nat} (I : Inv X pins σ H s) (h1 : -(2 ^ 62) ≤ lo) (h2 : lo < 2 ^ 62) (h3 : -(2 ^ 62) ≤ hi) (h4 : hi < 2 ^ 62)
    (q : R (Itr lo (hi - lo).toNat) H) : wpAny (model X.prog X.w) X.A (pyIter (.ref s.heap.objs.size)) (PIE X pins σ tg R) E { s with heap := s.heap.push { cls := .type "range", data := .fields #[.int lo t, .int hi u, .int 1 v] }, toks := tk } := by
  refine wpAny_pyIter_range (IsRange.new ..) (small_one h1 h2 h3 h4) ?_
  have I1 : Inv X pins σ H { s with heap := s.heap.push { cls := .type "range", data := .fields #[.int lo t, .int hi u, .int 1 v] }, toks := tk } := I.kept fun b o e => Heap.get?_push_of_some _ e
  refine ⟨(s.heap.push { cls := .type "range", data := .fields #[.int lo t, .int hi u, .int 1 v] }).objs.size, [(s.heap.push { cls := .type "range", data := .fields #[.int lo t, .int hi u, .int 1 v] }).objs.size], _, _, H, rfl,
    I1.kept (t' := tk) fun b o e => Heap.get?_push_of_some _ e, turn_range _ lo (hi - lo).toNat, ?_, fun b hb => ?_, q⟩
  · have e1 : lo + ((0 : Nat) : Int) * 1 = lo := by simp
    have e2 : (((hi - lo).toNat : Nat) : Int) - ((0 : Nat) : Int) = Builtin.Range.rangeSize lo hi 1 := by rw [rangeSize_one]; split <;> lia
    show IsRangeIter _ _ (lo + ((0 : Nat) : Int) * 1) ((((hi - lo).toNat : Nat) : Int) - ((0 : Nat) : Int)) 1
    rw [e1, e2]
    exact Heap.get?_push_size _ rfl
  · have e : b = (s.heap.push { cls := .type "range", data := .fields #[.int lo t, .int hi u, .int 1 v] }).objs.size := by simpa using hb
    subst e
    exact I1.fpOk (Nat.le_refl _) (I1.hok.fresh (Nat.le_refl _))
def iRng1 (ta : TA) : TI := fun σ H R => ta σ H fun vs H1 => ∃ j : Int, vs = [.int j] ∧ -(2 ^ 62) ≤ j ∧ j < 2 ^ 62 ∧ R (Itr 0 j.toNat) H1
theorem pi_range1 {a : Expr} {ta : TA} {p pos : Pos} (hg : Gl X "range") (hm : X.mg "range" = none) (ha : PA X [a] ta) (hs : starEach [a] X.env = [(false, eval a X.env)] := by rfl) : PI X tg (.Call (.Name "range" p) [a] [] pos) (iRng1 ta) := by
  intro pins s σ H R I h
  refine Call_ (ld_blt I hg hm boot_range (PyProof.Rows.callWith_type1 (thn (ha pos pins s σ H _ I h) fun us s1 zz43 => el5 zz43 fun vs H1 I1 r1 q1 => ?_) hs rfl))
  obtain ⟨j, e, q1, q2, q⟩ := q1
  subst e
  cases r1 with
  | cons r rr =>
    cases rr
    obtain ⟨t, rfl⟩ := r
    exact call_range_1 (range_it I1 (by lia) (by lia) q1 q2 (by simpa using q))
def tFor (wi : TI) (g : TG) (tb : TS) : TS := fun D σ H => wi σ H fun J H1 => ∃ W : Nat → Nat → St → Hp → Prop, (∃ m, W 0 m σ H1) ∧ ∀ i m σ H, W i m σ H →
  (J.stop i H ∧ D.nx σ H) ∨ (J.go i H ∧ ∃ N : St → Hp → Prop, (∀ σ' H', N σ' H' → ∃ m', m' < m ∧ W (i + 1) m' σ' H') ∧ ∀ x H', J.yld i H x H' → g x σ H' fun σ2 H2 => tb { D with nx := N, ct := N, bk := D.nx } σ2 H2)
def pinsAt (fp : List Addr) (h : Heap) : List (Addr × Obj) := fp.filterMap fun b => (h.get? b).map fun o => (b, o)
theorem mem_pinsAt {fp : List Addr} {h : Heap} {b : Addr} {o : Obj} (hb : b ∈ fp) (e : h.get? b = some o) : (b, o) ∈ pinsAt fp h := List.mem_filterMap.mpr ⟨b, hb, by rw [e]; rfl⟩
theorem of_pinsAt {fp : List Addr} {h : Heap} {p : Addr × Obj} (hp : p ∈ pinsAt fp h) : p.1 ∈ fp ∧ h.get? p.1 = some p.2 := by
  obtain ⟨b, hb, e⟩ := List.mem_filterMap.mp hp
  cases q : h.get? b with
  | none => rw [q] at e; cases e
  | some o =>
    rw [q] at e
    have e' : (b, o) = p := Option.some.inj e
    subst e'
    exact ⟨hb, q⟩
theorem Inv.pinned {pins : List (Addr × Obj)} {σ : St} {H : Hp} {s : Shared} {fp : List Addr} (I : Inv X pins σ H s) (hf : ∀ b ∈ fp, FpOk X pins H b) (ho : ∀ b ∈ fp, ∃ o, s.heap.get? b = some o ∧ ∀ v, o.data ≠ .cell v) : Inv X (pins ++ pinsAt fp s.heap) σ H s :=
  I.pins_of fun p hp => (List.mem_append.mp hp).elim (fun z => I.pin p (List.mem_append_right _ z)) fun z => by
    obtain ⟨hb, e⟩ := of_pinsAt z
    obtain ⟨f0, f1, f2, _⟩ := hf p.1 hb
    obtain ⟨o, e', d⟩ := ho p.1 hb
    rw [e] at e'; cases e'
    exact ⟨e, f0, f1, f2, d⟩
theorem Inv.unpinned {pins pl : List (Addr × Obj)} {σ : St} {H : Hp} {s : Shared} (I : Inv X (pins ++ pl) σ H s) : Inv X pins σ H s := I.pins_of fun p hp => I.pin p (List.mem_append_right _ (List.mem_append_left _ hp))
theorem ps_for {iter : Expr} {body : List Stmt} {wi : TI} {g : TG} {tb : TS} {pos : Pos} (hp : PassesOwn (model X.prog X.w) X.A X.env X.xe) (hc : X.calm = true) (hi : PI X tg iter wi) (hg : PG X tg g) (hb : PSs X body tb)
    (hs : ∀ x, foldedSetIterable iter X.env x = pure x := by intro _; rfl) : PS X (.For tg iter body [] pos) (tFor wi g tb) := by
  intro pins s σ H D I h
  refine wpAny_For (thn (hi pins s σ H _ I h) fun v s1 h1 => thn h1 fun itv s2 h2 => ?_) hs
  obtain ⟨it, fp, tn, J, H2, e, I2, T, st2, f2, W, ⟨m0, w0⟩, turn⟩ := h2
  subst e
  have stat : ∀ {H' : Hp}, (∀ b ∈ fp, H' b = none) → ∀ b ∈ fp, FpOk X pins H' b := fun hn b hb => ⟨hn b hb, (f2 b hb).2⟩
  refine codeAny_forLoop_any (fun n s' => ∃ i σ' H', Inv X pins σ' H' s' ∧ tn i s'.heap ∧ (∀ b ∈ fp, H' b = none) ∧ W i n σ' H') ?_ m0 ⟨0, σ, H2, I2, st2, fun b hb => (f2 b hb).1, w0⟩
  rintro n s3 ⟨i, σ3, H3, I3, st3, fr3, w3⟩
  rcases turn i n σ3 H3 w3 with ⟨stop, qn⟩ | ⟨go, N, hN, step⟩
  · refine wpAny_passesOwn hp (thn (T.done X rfl rfl rfl hc i pins s3 σ3 H3 X.xe I3 (stat fr3) st3 stop) fun r s4 zz45 => zz45.elim fun hr I4 => ?_)
    subst hr
    exact wpAny_execs_nil ⟨σ3, H3, I4, qn⟩
  · refine wpAny_passesOwn hp (thn (T.item X rfl rfl rfl hc i pins s3 σ3 H3 X.xe I3 (stat fr3) st3 go) fun r s4 zz46 => el2 zz46 fun u hr h4 => ?_)
    subst hr
    refine wpAny_passesOwn hp (thn h4 fun _ s5 zz47 => zz47.elim fun x zz48 => zz48.elim fun H5 zz49 => zz49.elim fun I5 zz50 => zz50.elim fun r5 zz51 => zz51.elim fun y5 zz52 => zz52.elim fun st5 fr5 => ?_)
    have I5' := I5.pinned (stat fr5) (T.obj _ _ st5)
    refine wpAny_passesOwn hp (thn (hg _ s5 σ3 H5 x u _ I5' r5 (step x H5 y5)) fun _ s6 zz53 => zz53.elim fun σ6 zz54 => zz54.elim fun H6 zz55 => zz55.elim fun I6 q6 => ?_)
    refine wpAny_passesOwn hp (thn (hb _ s6 σ6 H6 _ I6 q6) fun f s7 q7 => ?_)
    have again : ∀ {σ7 : St} {H7 : Hp}, Inv X (pins ++ pinsAt fp s5.heap) σ7 H7 s7 → N σ7 H7 → ∃ m, m < n ∧ ∃ i σ' H', Inv X pins σ' H' s7 ∧ tn i s7.heap ∧ (∀ b ∈ fp, H' b = none) ∧ W i m σ' H' := fun {σ7 H7} I7 n7 => by
      obtain ⟨m', hm, w7⟩ := hN σ7 H7 n7
      refine ⟨m', hm, i + 1, σ7, H7, I7.unpinned, T.keep _ _ _ st5 fun b hb o e => (I7.pin (b, o) (List.mem_append_right _ (List.mem_append_right _ (mem_pinsAt hb e)))).1, fun b hb => ?_, w7⟩
      obtain ⟨o, e, d⟩ := T.obj _ _ st5 b hb
      exact (I7.pin (b, o) (List.mem_append_right _ (List.mem_append_right _ (mem_pinsAt hb e)))).2.1
    cases f with
    | next => obtain ⟨σ7, H7, I7, n7⟩ := q7; exact again I7 n7
    | cont => obtain ⟨σ7, H7, I7, n7⟩ := q7; exact again I7 n7
    | brk => obtain ⟨σ7, H7, I7, q7⟩ := q7; exact ⟨σ7, H7, I7.unpinned, q7⟩
    | ret v => obtain ⟨x7, σ7, H7, I7, r7, q7⟩ := q7; exact ⟨x7, σ7, H7, I7.unpinned, r7, q7⟩
end
theorem while_by {c : TT} {tb : TS} {D : Ends} {σ : St} {H : Hp} (Pv : St → Hp → Prop) (μ : St → Hp → Nat) (h0 : Pv σ H)
    (hs : ∀ σ H, Pv σ H → c σ H fun b H1 => if b = true then tb { D with nx := fun σ' H' => Pv σ' H' ∧ μ σ' H' < μ σ H, ct := fun σ' H' => Pv σ' H' ∧ μ σ' H' < μ σ H, bk := D.nx } σ H1 else D.nx σ H1)
    (mono : ∀ σ H Q Q', (∀ b H1, Q b H1 → Q' b H1) → c σ H Q → c σ H Q') : tWhile c tb D σ H := by
  refine ⟨fun m σ H => m = μ σ H ∧ Pv σ H, ⟨_, rfl, h0⟩, ?_⟩
  rintro m σ H ⟨rfl, p⟩
  refine mono σ H _ _ (fun b H1 q => ?_) (hs σ H p)
  cases b with
  | true => exact ⟨_, fun σ' H' zz56 => zz56.elim fun p' l => ⟨_, l, rfl, p'⟩, q⟩
  | false => exact q
end L2
namespace L2
open PySem PySem.Spec PyProof.Rows
abbrev R2 := V → V → Hp → VK → Prop
def OpR (X : Cx) (f : Value → Value → Sem Value) (r : R2) : Prop :=
  ∀ (pins : List (Addr × Obj)) (s : Shared) (σ : St) (H : Hp) (x y : V) (v u : Value) (Q : VK), Inv X pins σ H s → RelV x v → RelV y u → r x y H Q →
    wpAny (model X.prog X.w) X.A (f v u) (EP X pins σ Q) X.xe s
def UnR (X : Cx) (f : Value → Sem Value) (r : V → Hp → VK → Prop) : Prop :=
  ∀ (pins : List (Addr × Obj)) (s : Shared) (σ : St) (H : Hp) (x : V) (v : Value) (Q : VK), Inv X pins σ H s → RelV x v → r x H Q →
    wpAny (model X.prog X.w) X.A (f v) (EP X pins σ Q) X.xe s
def CallR (X : Cx) (f : Value) (r : List V → Hp → VK → Prop) : Prop :=
  ∀ (pins : List (Addr × Obj)) (s : Shared) (σ : St) (H : Hp) (xs : List V) (us : List Value) (Q : VK), Inv X pins σ H s → Vals xs us → r xs H Q →
    wpAny (model X.prog X.w) X.A (call f us) (EP X pins σ Q) X.xe s
def tOp (r : R2) (ta tb : TE) : TE := fun σ H Q => ta σ H fun x H1 => tb σ H1 fun y H2 => r x y H2 Q
def tUn (r : V → Hp → VK → Prop) (ta : TE) : TE := fun σ H Q => ta σ H fun x H1 => r x H1 Q
def rI (C : Int → Int → Prop) (g : Int → Int → V) : R2 := fun x y H Q => ∃ i j, x = .int i ∧ y = .int j ∧ C i j ∧ Q (g i j) H
def rI0 (g : Int → Int → V) : R2 := fun x y H Q => ∃ i j, x = .int i ∧ y = .int j ∧ Q (g i j) H
def rU (g : Int → V) : V → Hp → VK → Prop := fun x H Q => ∃ i, x = .int i ∧ Q (g i) H
section
variable {X : Cx} {a b c : Expr} {ta tb tc : TE} {pos : Pos}
theorem binT (ha : PE X a ta) (hb : PE X b tb) {pins : List (Addr × Obj)} {s : Shared} {σ : St} {H : Hp} {R : V → V → Hp → Prop} (I : Inv X pins σ H s)
    (h : ta σ H fun x H1 => tb σ H1 fun y H2 => R x y H2) {Q : Value → Shared → Prop} {f : Value → Value → Sem Value}
    (hf : ∀ v u s2 x y H2, Inv X pins σ H2 s2 → RelV x v → RelV y u → R x y H2 → wpAny (model X.prog X.w) X.A (f v u) Q X.xe s2) :
    wpAny (model X.prog X.w) X.A (eval a X.env) (fun v s₁ => wpAny (model X.prog X.w) X.A (eval b X.env) (fun u s₂ => wpAny (model X.prog X.w) X.A (f v u) Q X.xe s₂) X.xe s₁) X.xe s := by
  refine thn (ha pins s σ H _ I h) fun v s1 zz57 => el5 zz57 fun x H1 I1 r1 q1 => ?_
  refine thn (hb pins s1 σ H1 _ I1 q1) fun u s2 zz58 => el5 zz58 fun y H2 I2 r2 q2 => ?_
  exact hf v u s2 x y H2 I2 r1 r2 q2
theorem pe_op {op : Operator} {r : R2} (ho : OpR X (binaryOp op) r) (ha : PE X a ta) (hb : PE X b tb) : PE X (.BinOp a op b pos) (tOp r ta tb) := by
  intro pins s σ H Q I h
  exact wpAny_BinOp (binT ha hb I h fun v u s2 x y H2 I2 rx ry q => ho pins s2 σ H2 x y v u Q I2 rx ry q)
theorem pe_un {op : UnaryOp} {r : V → Hp → VK → Prop} (ho : UnR X (unaryOp op) r) (ha : PE X a ta) : PE X (.UnaryOp op a pos) (tUn r ta) := by
  intro pins s σ H Q I h
  exact UnaryOp_ (thn (ha pins s σ H _ I h) fun v s1 zz59 => el5 zz59 fun x H1 I1 r1 q1 => ho pins s1 σ H1 x v Q I1 r1 q1)
theorem opI {f : Value → Value → Sem Value} {C : Int → Int → Prop} {g : Int → Int → Int}
    (rule : ∀ (i j : Int) (t u : Tok) (s : Shared) (Q : Value → Shared → Prop) (E : Value → Shared → Prop), C i j → Q (.int (g i j) s.toks) { s with toks := s.toks + 1 } → wpAny (model X.prog X.w) X.A (f (.int i t) (.int j u)) Q E s) :
    OpR X f (rI C fun i j => .int (g i j)) := by
  intro pins s σ H x y v u Q I rx ry h
  obtain ⟨i, j, rfl, rfl, hc, q⟩ := h
  obtain ⟨t, rfl⟩ := rx
  obtain ⟨t', rfl⟩ := ry
  exact rule i j t t' s _ _ hc ⟨.int (g i j), H, I.tok _, ⟨_, rfl⟩, q⟩
theorem opI0 {f : Value → Value → Sem Value} {g : Int → Int → Int}
    (rule : ∀ (i j : Int) (t u : Tok) (s : Shared) (Q : Value → Shared → Prop) (E : Value → Shared → Prop), Q (.int (g i j) s.toks) { s with toks := s.toks + 1 } → wpAny (model X.prog X.w) X.A (f (.int i t) (.int j u)) Q E s) :
    OpR X f (rI0 fun i j => .int (g i j)) := by
  intro pins s σ H x y v u Q I rx ry h
  obtain ⟨i, j, rfl, rfl, q⟩ := h
  obtain ⟨t, rfl⟩ := rx
  obtain ⟨t', rfl⟩ := ry
  exact rule i j t t' s _ _ ⟨.int (g i j), H, I.tok _, ⟨_, rfl⟩, q⟩
theorem opB0 {f : Value → Value → Sem Value} {g : Int → Int → Bool}
    (rule : ∀ (i j : Int) (t u : Tok) (s : Shared) (Q : Value → Shared → Prop) (E : Value → Shared → Prop), Q (.bool (g i j)) s → wpAny (model X.prog X.w) X.A (f (.int i t) (.int j u)) Q E s) :
    OpR X f (rI0 fun i j => .bl (g i j)) := by
  intro pins s σ H x y v u Q I rx ry h
  obtain ⟨i, j, rfl, rfl, q⟩ := h
  obtain ⟨t, rfl⟩ := rx
  obtain ⟨t', rfl⟩ := ry
  exact rule i j t t' s _ _ ⟨.bl (g i j), H, I, rfl, q⟩
def CPow (i j : Int) : Prop := 0 ≤ j ∧ j ≤ 1000000 ∧ i.natAbs < 2 ^ 64
def CMul (i j : Int) : Prop := (-(2 ^ 64) < i ∧ i < 2 ^ 64) ∨ (-(2 ^ 64) < j ∧ j < 2 ^ 64)
theorem CMul.ok {i j : Int} (h : CMul i j) : IntMulOk i j := by
  rcases h with ⟨h1, h2⟩ | ⟨h1, h2⟩
  · exact .of_left (intBits_le_64 h1 h2)
  · exact .of_right (intBits_le_64 h1 h2)
theorem op_add : OpR X (binaryOp .Add) (rI0 fun i j => .int (i + j)) := opI0 fun _ _ _ _ _ _ _ q => add_int q
theorem op_sub : OpR X (binaryOp .Sub) (rI0 fun i j => .int (i - j)) := opI0 fun _ _ _ _ _ _ _ q => sub_int q
theorem op_mul : OpR X (binaryOp .Mult) (rI CMul fun i j => .int (i * j)) := opI fun _ _ _ _ _ _ _ hc q => mul_int q hc.ok
theorem op_mod : OpR X (binaryOp .Mod) (rI (fun _ j => 0 < j) fun i j => .int (i % j)) := opI fun i j _ _ _ _ _ hc q => by
  have h1 : (0 : Int) < j := hc
  exact mod_int' (by lia) (by rw [Int.fmod_eq_emod_of_nonneg i (by lia)]; exact q)
theorem op_pow : OpR X (binaryOp .Pow) (rI CPow fun i j => .int (i ^ j.toNat)) := opI fun _ _ _ _ _ _ _ hc q => pow_int_small hc.1 hc.2.1 hc.2.2 q
theorem unI {f : Value → Sem Value} {g : Int → Int}
    (rule : ∀ (i : Int) (t : Tok) (s : Shared) (Q : Value → Shared → Prop) (E : Value → Shared → Prop), Q (.int (g i) s.toks) { s with toks := s.toks + 1 } → wpAny (model X.prog X.w) X.A (f (.int i t)) Q E s) :
    UnR X f (rU fun i => .int (g i)) := by
  intro pins s σ H x v Q I rx h
  obtain ⟨i, rfl, q⟩ := h
  obtain ⟨t, rfl⟩ := rx
  exact rule i t s _ _ ⟨.int (g i), H, I.tok _, ⟨_, rfl⟩, q⟩
theorem un_neg : UnR X (unaryOp .USub) (rU fun i => .int (-i)) := unI fun _ _ _ _ _ q => neg_int q
end
def scal : V → V → Bool
  | .non, .non => true | .non, .int _ => true | .int _, .non => true | .non, .bl _ => true | .bl _, .non => true | .non, .str _ => true | .str _, .non => true
  | .int _, .int _ => true | .bl _, .bl _ => true | .str _, .str _ => true | .byt _, .byt _ => true
  | .int _, .str _ => true | .str _, .int _ => true | .bl _, .str _ => true | .str _, .bl _ => true
  | _, _ => false
def rEq : R2 := fun x y H Q => scal x y = true ∧ Q (.bl (decide (x = y))) H
theorem dec_int {i j : Int} : decide (V.int i = V.int j) = (i == j) := by
  rw [Bool.eq_iff_iff]
  simp
theorem dec_bl {i j : Bool} : decide (V.bl i = V.bl j) = (i == j) := by
  rw [Bool.eq_iff_iff]
  simp
theorem dec_str {i j : Str} : decide (V.str i = V.str j) = (i == j) := by
  rw [Bool.eq_iff_iff]
  simp
theorem dec_byt {i j : Array UInt8} : decide (V.byt i = V.byt j) = (i.toList == j.toList) := by
  rw [Bool.eq_iff_iff]
  cases i
  cases j
  simp
section
variable {X : Cx} {a b c : Expr} {ta tb tc : TE} {pos : Pos}
theorem fin_bl {pins : List (Addr × Obj)} {σ : St} {H : Hp} {s : Shared} {Q : VK} {k k' : Bool} (I : Inv X pins σ H s) (q : Q (.bl k) H) (e : k = k') : EP X pins σ Q (.bool k') s := by
  subst e
  exact ⟨.bl k, H, I, rfl, q⟩
theorem op_eq : OpR X (compareOp .Eq) rEq := by
  intro pins s σ H x y v u Q I rx ry h
  obtain ⟨hs, q⟩ := h
  cases x with
  | non =>
    cases rx
    cases y with
    | non => cases ry; exact PySem.EqNone.eq_none_none (fin_bl I q (by simp))
    | bl j => cases ry; exact PySem.EqNone.eq_none_bool (fin_bl I q (by simp))
    | int j => obtain ⟨t', rfl⟩ := ry; exact PySem.EqNone.eq_none_int (fin_bl I q (by simp))
    | str j => obtain ⟨t', rfl⟩ := ry; exact PySem.EqNone.eq_none_str (fin_bl I q (by simp))
    | _ => exact absurd (show false = true from hs) Bool.false_ne_true
  | bl i =>
    cases rx
    cases y with
    | non => cases ry; exact PySem.EqNone.eq_bool_none (fin_bl I q (by simp))
    | bl j => cases ry; exact eq_bool (fin_bl I q dec_bl)
    | str j => obtain ⟨t', rfl⟩ := ry; exact PySem.EqMixed.eq_bool_str (fin_bl I q (by simp))
    | _ => exact absurd (show false = true from hs) Bool.false_ne_true
  | int i =>
    obtain ⟨t, rfl⟩ := rx
    cases y with
    | non => cases ry; exact PySem.EqNone.eq_int_none (fin_bl I q (by simp))
    | int j => obtain ⟨t', rfl⟩ := ry; exact eq_int (fin_bl I q dec_int)
    | str j => obtain ⟨t', rfl⟩ := ry; exact PySem.EqMixed.eq_int_str (fin_bl I q (by simp))
    | _ => exact absurd (show false = true from hs) Bool.false_ne_true
  | str i =>
    obtain ⟨t, rfl⟩ := rx
    cases y with
    | non => cases ry; exact PySem.EqNone.eq_str_none (fin_bl I q (by simp))
    | bl j => cases ry; exact PySem.EqMixed.eq_str_bool (fin_bl I q (by simp))
    | int j => obtain ⟨t', rfl⟩ := ry; exact PySem.EqMixed.eq_str_int (fin_bl I q (by simp))
    | str j => obtain ⟨t', rfl⟩ := ry; exact eq_str (fin_bl I q dec_str)
    | _ => exact absurd (show false = true from hs) Bool.false_ne_true
  | byt i =>
    obtain ⟨t, rfl⟩ := rx
    cases y with
    | byt j => obtain ⟨t', rfl⟩ := ry; exact PySem.W.eq_bytes (fin_bl I q dec_byt)
    | _ => exact absurd (show false = true from hs) Bool.false_ne_true
  | _ => cases y <;> exact absurd (show false = true from hs) Bool.false_ne_true
theorem op_lt : OpR X (compareOp .Lt) (rI0 fun i j => .bl (decide (i < j))) := opB0 fun _ _ _ _ _ _ _ q => lt_int q
theorem op_le : OpR X (compareOp .LtE) (rI0 fun i j => .bl (decide (i ≤ j))) := opB0 fun _ _ _ _ _ _ _ q => le_int q
theorem op_gt : OpR X (compareOp .Gt) (rI0 fun i j => .bl (decide (j < i))) := opB0 fun _ _ _ _ _ _ _ q => gt_int q
theorem op_ge : OpR X (compareOp .GtE) (rI0 fun i j => .bl (decide (j ≤ i))) := opB0 fun _ _ _ _ _ _ _ q => ge_int q
theorem op_isN : OpR X (compareOp .Is) (fun x y H Q => y = .non ∧ Q (.bl (decide (x = .non))) H) := by
  intro pins s σ H x y v u Q I rx ry h
  obtain ⟨rfl, q⟩ := h
  cases ry
  refine is_none_gen (fin_bl I q ?_)
  cases x <;> first
    | (cases rx; rfl)
    | (obtain ⟨t, rfl⟩ := rx; rfl)
theorem nomark (b : Expr) {op : CmpOp} (h : op ≠ .In := by decide) (h2 : op ≠ .NotIn := by decide) : behindInMarks op b = false := by
  have e1 : (op == CmpOp.In) = false := by cases op <;> first | rfl | exact absurd rfl h
  have e2 : (op == CmpOp.NotIn) = false := by cases op <;> first | rfl | exact absurd rfl h2
  cases b <;> simp [behindInMarks, e1, e2]
theorem pe_cmpR {op : CmpOp} {r : R2} (ho : OpR X (compareOp op) r) (ha : PE X a ta) (hb : PE X b tb) (hm : behindInMarks op b = false) : PE X (.Compare a [op] [b] pos) (tOp r ta tb) := by
  intro pins s σ H Q I h
  exact wpAny_Compare1 (binT ha hb I h fun v u s2 x y H2 I2 rx ry q => ho pins s2 σ H2 x y v u Q I2 rx ry q) hm
def tTest (t : TE) : TT := fun σ H Q => t σ H fun x H' => ∃ k, x = .bl k ∧ Q k H'
theorem pt_cmpR {op : CmpOp} {r : R2} (ho : OpR X (compareOp op) r) (ha : PE X a ta) (hb : PE X b tb) (hm : behindInMarks op b = false) : PT X (.Compare a [op] [b] pos) (tTest (tOp r ta tb)) := by
  intro pins s σ H Q I h
  refine wpAny_isTrue_Compare1 (thn (ha pins s σ H _ I h) fun v s1 zz60 => el5 zz60 fun x H1 I1 r1 q1 => thn (hb pins s1 σ H1 _ I1 q1) fun u s2 zz61 => el5 zz61 fun y H2 I2 r2 q2 =>
    thn (ho pins s2 σ H2 x y v u _ I2 r1 r2 q2) fun c s3 zz62 => zz62.elim fun z zz63 => zz63.elim fun H3 zz64 => zz64.elim fun I3 zz65 => zz65.elim fun r3 zz66 => zz66.elim fun k zz67 => zz67.elim fun e q3 => ?_) hm
  subst e
  cases r3
  exact wpAny_truthy_bool ⟨H3, I3, q3⟩
def tChain (r r' : R2) (ta tb tc : TE) : TE := fun σ H Q => ta σ H fun x H1 => tb σ H1 fun y H2 => r x y H2 fun z H3 => ∃ k, z = .bl k ∧
  (if k = true then tc σ H3 fun w' H4 => r' y w' H4 Q else Q (.bl false) H3)
theorem pe_chain {op op' : CmpOp} {r r' : R2} (ho : OpR X (compareOp op) r) (ho' : OpR X (compareOp op') r') (ha : PE X a ta) (hb : PE X b tb) (hc : PE X c tc)
    (hm : lastMarks [op, op'] [b, c] = false := by with_unfolding_all rfl) : PE X (.Compare a [op, op'] [b, c] pos) (tChain r r' ta tb tc) := by
  intro pins s σ H Q I h
  refine Compare_chain (thn (ha pins s σ H _ I h) fun v s1 zz68 => el5 zz68 fun x H1 I1 r1 q1 => chain_link (thn (hb pins s1 σ H1 _ I1 q1) fun u s2 zz69 => el5 zz69 fun y H2 I2 r2 q2 =>
    thn (ho pins s2 σ H2 x y v u _ I2 r1 r2 q2) fun d s3 zz70 => zz70.elim fun z zz71 => zz71.elim fun H3 zz72 => zz72.elim fun I3 zz73 => zz73.elim fun r3 zz74 => zz74.elim fun k zz75 => zz75.elim fun e q3 => ?_)) hm
  subst e
  cases r3
  refine wpAny_truthy_bool ?_
  cases k with
  | false => exact ite_ff ⟨.bl false, H3, I3, rfl, q3⟩
  | true => exact ite_tt (chain_last (thn (hc pins s3 σ H3 _ I3 q3) fun w' s4 zz76 => el5 zz76 fun z' H4 I4 r4 q4 => ho' pins s4 σ H4 y z' u w' Q I4 r2 r4 q4))
theorem pt_chain {op op' : CmpOp} {r r' : R2} (ho : OpR X (compareOp op) r) (ho' : OpR X (compareOp op') r') (ha : PE X a ta) (hb : PE X b tb) (hc : PE X c tc)
    (hm : lastMarks [op, op'] [b, c] = false := by with_unfolding_all rfl) : PT X (.Compare a [op, op'] [b, c] pos) (tTest (tChain r r' ta tb tc)) := by
  intro pins s σ H Q I h
  refine isTrue_chain (thn (ha pins s σ H _ I h) fun v s1 zz77 => el5 zz77 fun x H1 I1 r1 q1 => test_link (thn (hb pins s1 σ H1 _ I1 q1) fun u s2 zz78 => el5 zz78 fun y H2 I2 r2 q2 =>
    thn (ho pins s2 σ H2 x y v u _ I2 r1 r2 q2) fun d s3 zz79 => zz79.elim fun z zz80 => zz80.elim fun H3 zz81 => zz81.elim fun I3 zz82 => zz82.elim fun r3 zz83 => zz83.elim fun k zz84 => zz84.elim fun e q3 => ?_)) hm
  subst e
  cases r3
  refine wpAny_truthy_bool ?_
  cases k with
  | false =>
    obtain ⟨k', e', q'⟩ := q3
    cases e'
    exact ite_ff ⟨H3, I3, q'⟩
  | true =>
    refine ite_tt (test_last (thn (hc pins s3 σ H3 _ I3 q3) fun w' s4 zz85 => el5 zz85 fun z' H4 I4 r4 q4 => thn (ho' pins s4 σ H4 y z' u w' _ I4 r2 r4 q4) fun d' s5 zz86 => zz86.elim fun z2 zz87 => zz87.elim fun H5 zz88 => zz88.elim fun I5 zz89 => zz89.elim fun r5 zz90 => zz90.elim fun k2 zz91 => zz91.elim fun e2 q5 => ?_))
    subst e2
    cases r5
    exact wpAny_truthy_bool ⟨H5, I5, q5⟩
theorem line63 : (sizeLine : Nat) < 2 ^ 63 := by rw [sizeLine_eq]; decide
theorem vals1 {x : V} {us : List Value} (r : Vals [x] us) : ∃ u, us = [u] ∧ RelV x u := by
  cases r with
  | cons r1 r2 => cases r2; exact ⟨_, rfl, r1⟩
theorem vals2 {x y : V} {us : List Value} (r : Vals [x, y] us) : ∃ u w', us = [u, w'] ∧ RelV x u ∧ RelV y w' := by
  cases r with
  | cons r1 r2 =>
    cases r2 with
    | cons r3 r4 => cases r4; exact ⟨_, _, rfl, r1, r3⟩
theorem call_abs : CallR X (.builtin "abs") (fun xs H Q => ∃ i, xs = [.int i] ∧ Q (.int (if i < 0 then -i else i)) H) := by
  intro pins s σ H xs us Q I r h
  obtain ⟨i, rfl, q⟩ := h
  obtain ⟨u, rfl, t, rfl⟩ := vals1 r
  exact call_abs_int fun u tk => ⟨.int (if i < 0 then -i else i), H, I.tok _, ⟨_, rfl⟩, q⟩
end
end L2
namespace L2
open PySem PySem.Spec PyProof.Rows
structure ObjM (h : Heap) (x dx C : Addr) (mA : Str → Option Value) : Prop where
  obj : h.get? x = some (PySem.W.instObj C dx)
  ns : h.Ns1 dx mA
  ne : dx ≠ x
theorem lookIn_ns {h : Heap} {dx : Addr} {mA : Str → Option Value} (n : h.Ns1 dx mA) : ∃ od, h.get? dx = some od ∧ ∀ name, PySem.W.lookIn name od = some (mA name) := by
  obtain ⟨o, es, ep, ho, hd, hk, _, hm⟩ := n
  refine ⟨o, ho, fun name => ?_⟩
  have e := hm name
  unfold nsFind findBy at e
  rw [← Array.find?_toList] at e
  unfold PySem.W.lookIn
  rw [hd]
  dsimp only
  split
  · rename_i y q
    rw [q] at e
    exact congrArg some e
  · rename_i q
    rw [q] at e
    have a : es.toList.any (·.refKey) = false := by
      rw [List.any_eq_false]
      intro y hy
      obtain ⟨z, t, hkey⟩ := hk y (Array.mem_toList_iff.mp hy)
      simp [DictEntry.refKey, hkey]
    have a' : ¬ es.toList.any (·.refKey) = true := by rw [a]; exact Bool.false_ne_true
    rw [if_neg a']
    exact congrArg some e
theorem ObjM.look {h : Heap} {x dx C : Addr} {mA : Str → Option Value} (I : ObjM h x dx C mA) : ∃ od, PySem.W.InstAt h x (PySem.W.instObj C dx) C (some od) ∧ ∀ name, PySem.W.lookIn name od = some (mA name) :=
  let ⟨od, ho, hl⟩ := lookIn_ns I.ns
  ⟨od, ⟨I.obj, rfl, rfl, ho⟩, hl⟩
section
variable {prog : Program} {w : World} {A : Around} {E : Value → Shared → Prop} {s : Shared} {K : PySem.W.Frag} {x dx C f : Addr} {mA : Str → Option Value} {name : Str} {v : Value}
end
theorem RelO.some_of {v : V} {o : Option Value} (r : RelO (some v) o) : ∃ u, o = some u ∧ RelV v u := by
  cases o with
  | none => exact (show False from r).elim
  | some u => exact ⟨u, rfl, r⟩
theorem handed_of {v : V} {u : Value} (r : RelV v u) : PySem.W.handedIn u = true := by
  cases v with
  | non => cases (show u = Value.none from r); rfl
  | bl b => cases (show u = Value.bool b from r); rfl
  | int i => obtain ⟨t, e⟩ := (show ∃ t, u = Value.int i t from r); cases e; rfl
  | str x => obtain ⟨t, e⟩ := (show ∃ t, u = Value.str x t from r); cases e; rfl
  | byt b => obtain ⟨t, e⟩ := (show ∃ t, u = Value.bytes b t from r); cases e; rfl
  | flt b => obtain ⟨t, e⟩ := (show ∃ t, u = Value.float b t from r); cases e; rfl
  | ref a => cases (show u = Value.ref a from r); rfl
  | ty n => cases (show u = Value.type n from r); rfl
section
variable {P : Program} {w : World} {H H' : Hp} {h h' : Heap} {a C dx : Addr} {fs fs' : List (Str × V)}
theorem ins_get (hok : HOk P w H h) (e : H a = some (.ins C dx fs)) : ∃ mA, ObjM h a dx C mA ∧ (∀ f, RelO (fs.lookup f) (mA f)) ∧ PySem.Within mA (fs.map (·.1)) ∧ fs.length ≤ 1000 ∧ H dx = some (.own a) := by
  obtain ⟨d, z, ne, ob, mA, n, r, q⟩ := (show ObjOk P w H h a (.ins C dx fs) from hok a _ e)
  exact ⟨mA, ⟨ob, n, ne⟩, r, q, z, d⟩
end
structure Cls (K : PySem.W.Frag) (C : Addr) : Prop where
  pg : PySem.W.plainGet K C Str.empty = true
  hd : PySem.W.hasDictIn K C = true
  po : PySem.W.plainOver K C = true
  sa : PySem.W.findIn K (.ref C) "__setattr__" = some (some (.builtin "object.__setattr__"))
theorem Cls.get {K : PySem.W.Frag} {C : Addr} (c : Cls K C) (f : Str) : PySem.W.plainGet K C f = true := c.pg
def NoAttr (K : PySem.W.Frag) (C : Addr) (f : Str) : Prop := PySem.W.findIn K (.ref C) f = some none
section
variable {X : Cx} {pins : List (Addr × Obj)} {σ : St} {H : Hp} {s : Shared} {a C dx : Addr} {fs : List (Str × V)} {f : Str} {v : V} {A : Around} {E : Value → Shared → Prop}
theorem attr_of {prog : Program} {w : World} {env : Env} {e : Expr} {f : Str} {pos : Pos} {s : Shared} {Q : Value → Shared → Prop} (hb : attributeBase e f env (eval e env) = eval e env)
    (h : wpAny (model prog w) A (eval e env) (fun o s₁ => wpAny (model prog w) A (getAttr o f true) Q E s₁) E s) : wpAny (model prog w) A (eval (.Attribute e f pos) env) Q E s :=
  Attribute_any_ h (by rw [arm_eval_Attribute, hb])
end
section
variable {X : Cx} {o e value : Expr} {f : Str} {pos pos' tpos : Pos} {ta tv : TE}
end
section
variable {X : Cx} {pins : List (Addr × Obj)} {σ : St} {H : Hp} {s : Shared} {A : Around} {E : Value → Shared → Prop} {Q : Value → Shared → Prop} {c : Value} {b : Bool}
inductive TyOf (K : PySem.W.Frag) (H : Hp) : V → Value → Prop where
  | non : TyOf K H .non (.type "NoneType")
  | bl (x : Bool) : TyOf K H (.bl x) (.type "bool")
  | int (i : Int) : TyOf K H (.int i) (.type "int")
  | str (x : Str) : TyOf K H (.str x) (.type "str")
  | flt (x : UInt64) : TyOf K H (.flt x) (.type "float")
  | lst {a : Addr} {xs : List V} (e : H a = some (.lst xs)) : TyOf K H (.ref a) (.type "list")
  | frz {a : Addr} {o : Obj} {xs : List V} (e : H a = some (.frz o (.lst xs))) : TyOf K H (.ref a) (.type "list")
  | tup {a : Addr} {xs : List V} (e : H a = some (.tup xs)) : TyOf K H (.ref a) (.type "tuple")
  | dK {a : Addr} {kvs : List (Key × V)} (e : H a = some (.dK kvs)) : TyOf K H (.ref a) (.type "dict")
  | dT {a : Addr} {kvs : List (List Key × V)} (e : H a = some (.dT kvs)) : TyOf K H (.ref a) (.type "dict")
  | ins {a C dx : Addr} {fs : List (Str × V)} (e : H a = some (.ins C dx fs)) (cl : Cls K C) (ha : PySem.W.findIn K (.ref C) "__class__" = some (some (.builtin "object.__class__")))
      (hn : PySem.W.specialIn K (.builtin "object.__class__") "__get__" = some (some (.builtin "getset_descriptor.__get__"))) (htk : PySem.W.takesIn K (.builtin "object.__class__") = some true)
      (hm : PySem.W.mroIn K C (.type "object") = some true) : TyOf K H (.ref a) (.ref C)
theorem isinst_ok {x : V} {u t : Value} (I : Inv X pins σ H s) (rx : RelV x u) (ty : TyOf X.K H x t) (e : PySem.W.kitOne X.K t c = some b) (h : ∀ tk, Q (.bool b) { s with toks := tk }) :
    wpAny (model X.prog X.w) A (call (.builtin "isinstance") [u, c]) Q E s := by
  cases ty with
  | non => cases (show u = Value.none from rx); exact PySem.W.kia_one PySem.W.kitx_none I.kIn True.intro e (fun z => nomatch z) h
  | bl y => cases (show u = Value.bool y from rx); exact PySem.W.kia_one PySem.W.kitx_bool I.kIn True.intro e (fun z => nomatch z) h
  | int i => obtain ⟨t, q⟩ := (show ∃ t, u = Value.int i t from rx); cases q; exact PySem.W.kia_one PySem.W.kitx_int I.kIn True.intro e (fun z => nomatch z) h
  | str y => obtain ⟨t, q⟩ := (show ∃ t, u = Value.str y t from rx); cases q; exact PySem.W.kia_one PySem.W.kitx_str I.kIn True.intro e (fun z => nomatch z) h
  | flt y => obtain ⟨t, q⟩ := (show ∃ t, u = Value.float y t from rx); cases q; exact PySem.W.kia_one PySem.W.kitx_float I.kIn True.intro e (fun z => nomatch z) h
  | @lst a xs ea =>
    cases (show u = Value.ref a from rx)
    obtain ⟨_, _, n, _, h1⟩ := (show ObjOk X.prog X.w H s.heap a (.lst xs) from I.hok a _ ea)
    exact PySem.W.kia_one PySem.W.kitx_list I.kIn ⟨_, h1, rfl⟩ e (fun z => nomatch z) h
  | @frz a ob xs ea =>
    cases (show u = Value.ref a from rx)
    obtain ⟨_, _, _, n, _, h1⟩ := (show ObjOk X.prog X.w H s.heap a (.frz ob (.lst xs)) from I.hok a _ ea)
    exact PySem.W.kia_one PySem.W.kitx_list I.kIn ⟨_, h1, rfl⟩ e (fun z => nomatch z) h
  | @tup a xs ea =>
    cases (show u = Value.ref a from rx)
    obtain ⟨_, _, _, p⟩ := (show ObjOk X.prog X.w H s.heap a (.tup xs) from I.hok a _ ea)
    obtain ⟨o, h1, h2, _⟩ := p
    exact PySem.W.kia_one PySem.W.kitx_tuple I.kIn ⟨o, h1, h2⟩ e (fun z => nomatch z) h
  | @dK a kvs ea =>
    cases (show u = Value.ref a from rx)
    obtain ⟨_, _, vs, _, p⟩ := (show ObjOk X.prog X.w H s.heap a (.dK kvs) from I.hok a _ ea)
    obtain ⟨o, es, ep, h1, h2, _⟩ := p
    exact PySem.W.kia_one PySem.W.kitx_dict I.kIn ⟨o, h1, h2.1⟩ e (fun z => nomatch z) h
  | @dT a kvs ea =>
    cases (show u = Value.ref a from rx)
    obtain ⟨_, _, xs, _, o, es, ep, h1, h2, _⟩ := (show ObjOk X.prog X.w H s.heap a (.dT kvs) from I.hok a _ ea)
    exact PySem.W.kia_one PySem.W.kitx_dict I.kIn ⟨o, h1, h2.1⟩ e (fun z => nomatch z) h
  | @ins a C dx fs ea cl ha hn htk hm =>
    cases (show u = Value.ref a from rx)
    obtain ⟨mA, O, _⟩ := ins_get I.hok ea
    obtain ⟨od, J, _⟩ := O.look
    exact PySem.W.kia_one (PySem.W.kitx_own (cl.get _) cl.hd ha hn htk hm) I.kIn J e (fun z => nomatch z) h
end
end L2
namespace L2
open PySem PySem.Spec PyProof.Rows
structure Room (k : Nat) (A : Around) : Prop where
  hd : A.handled = none
  dp : A.depth + 3 * k + 5 < recursionLimit
  un : A.units + 16 * k + 200 < cLine
  gd : A.guards = some []
theorem Room.mono {j k : Nat} {A : Around} (r : Room k A) (h : j ≤ k) : Room j A := ⟨r.hd, by have := r.dp; lia, by have := r.un; lia, r.gd⟩
theorem Room.deeper {k : Nat} {A : Around} (r : Room (k + 1) A) (env : Env) : Room k (A.deeper env) :=
  ⟨r.hd, by have := r.dp; show A.depth + 1 + 3 * k + 5 < _; lia, by have := r.un; show A.units + 3 + 16 * k + 200 < _; lia, r.gd⟩
theorem make_depth {A : Around} {C : Addr} {us : List Value} {kw : List (Str × Value)} : (A.under (.builtin "type.__call__" ⟨.ref C :: us, kw⟩)).depth = A.depth + 1 := by
  first | rfl | simp [Around.under, Code.weight, Code.isCreation, Code.isGuard, Code.isCaller, Code.frames, Code.isFrame, guardIds]
theorem make_units {A : Around} {C : Addr} {us : List Value} {kw : List (Str × Value)} : (A.under (.builtin "type.__call__" ⟨.ref C :: us, kw⟩)).units = A.units + 1 := by
  first | rfl | simp [Around.under, Code.cUnits, Code.frames, Code.isFrame]
theorem Room.make {k : Nat} {A : Around} (r : Room (k + 1) A) (C : Addr) (us : List Value) (kw : List (Str × Value)) : Room k (A.under (.builtin "type.__call__" ⟨.ref C :: us, kw⟩)) :=
  ⟨r.hd, by have := r.dp; rw [make_depth]; lia, by have := r.un; rw [make_units]; lia, by first | exact r.gd | (show pushGuards _ A.guards = _; rw [r.gd]; rfl)⟩
theorem Room.depth {k : Nat} {A : Around} (r : Room k A) : A.depth < recursionLimit := by have := r.dp; lia
theorem Room.units {k : Nat} {A : Around} (r : Room k A) : A.units + 64 < cLine := by have := r.un; lia
def tNil : TA := fun _ H Q => Q [] H
def tCons (ta : TE) (tr : TA) : TA := fun σ H Q => ta σ H fun x H1 => tr σ H1 fun xs H2 => Q (x :: xs) H2
section
variable {X : Cx} {e : Expr} {es : List Expr} {te : TE} {t : TA} {pos : Pos}
theorem pa_nil : PA X [] tNil := fun _ _ _ _ H Q I h => Calls.spliced_nil ⟨[], H, I, .nil, h⟩
theorem pa_cons (ha : PE X e te) (hr : PA X es t) (hs : starEach (e :: es) X.env = (false, eval e X.env) :: starEach es X.env := by rfl) : PA X (e :: es) (tCons te t) := by
  intro pos pins s σ H Q I h
  rw [hs]
  show wpAny _ _ (spliced ((false, eval e X.env) :: backTo pos (starEach es X.env))) _ _ s
  refine Calls.spliced_cons (thn (ha pins s σ H _ I h) fun u s1 zz173 => el5 zz173 fun x H1 I1 r1 q1 => ?_)
  exact thn (hr pos pins s1 σ H1 _ I1 q1) fun us s2 zz174 => el5 zz174 fun xs H2 I2 r2 q2 => ⟨x :: xs, H2, I2, .cons r1 r2, q2⟩
def tTup (t : TA) : TE := fun σ H Q => t σ H fun xs H1 => xs.length ≤ sizeLine ∧ ∀ p, H1 p = none → Q (.ref p) (upd H1 p (.tup xs))
def tLst (t : TA) : TE := fun σ H Q => t σ H fun xs H1 => xs.length ≤ sizeLine ∧ ∀ p, H1 p = none → Q (.ref p) (upd H1 p (.lst xs))
theorem pe_tup {x1} (h : PA X es t) : PE X (.Tuple es x1 pos) (tTup t) := by
  intro pins s σ H Q I hq
  refine wpAny_Tuple_spliced (thn (h pos pins s σ H _ I hq) fun us s1 zz175 => zz175.elim fun xs zz176 => zz176.elim fun H1 zz177 => zz177.elim fun I1 zz178 => zz178.elim fun r zz179 => zz179.elim fun z q => ⟨by rw [← r.length]; exact z, ?_⟩)
  have hf : H1 s1.heap.objs.size = none := I1.hok.fresh (Nat.le_refl _)
  refine ⟨.ref s1.heap.objs.size, upd H1 s1.heap.objs.size (.tup xs), I1.laid (t' := s1.toks) (fun b u e => Heap.get?_push_of_some _ e) (Nat.le_refl _) ?_, rfl, q _ hf⟩
  exact ⟨z, us, r, ⟨_, Heap.get?_push_size _ rfl, rfl, _, rfl⟩⟩
theorem pe_lst (h : PA X es t) : PE X (.List es pos) (tLst t) := by
  intro pins s σ H Q I hq
  refine wpAny_List_spliced (thn (h pos pins s σ H _ I hq) fun us s1 zz180 => zz180.elim fun xs zz181 => zz181.elim fun H1 zz182 => zz182.elim fun I1 zz183 => zz183.elim fun r zz184 => zz184.elim fun z q => ⟨by rw [← r.length]; exact z, ?_⟩)
  have hf : H1 s1.heap.objs.size = none := I1.hok.fresh (Nat.le_refl _)
  refine ⟨.ref s1.heap.objs.size, upd H1 s1.heap.objs.size (.lst xs), I1.laid (t' := s1.toks) (fun b u e => Heap.get?_push_of_some _ e) (Nat.le_refl _) ?_, rfl, q _ hf⟩
  exact ⟨z, us, 0, r, Heap.get?_push_size _ rfl⟩
end
abbrev Sp := List V → Hp → VK → XK → Prop
abbrev CXT := List Env → Hp → Shared → XK → Value → Shared → Prop
structure Env0 (P : Program) (w : World) (K : PySem.W.Frag) (mg : Str → Option Value) (base : Heap) (A : Around) (outer : List Env) (s : Shared) (H : Hp) : Prop where
  frames : A.frames = some outer
  mod : Mod K mg base
  bs : ∀ b o, base.get? b = some o → s.heap.get? b = some o ∧ H b = none
  bsz : base.objs.size ≤ s.heap.objs.size
  funs : s.heap.FunFrames base outer
  frf : ∀ b ∈ frs outer, H b = none
  hok : HOk P w H s.heap
  bare : AllBare s.gens
def CE (outer : List Env) (P : Program) (w : World) (H : Hp) (s : Shared) (Q : VK) (u : Value) (s' : Shared) : Prop :=
  ∃ v H', s'.os = s.os ∧ AllBare s'.gens ∧ Un (frs outer) [] H H' s.heap s'.heap ∧ HOk P w H' s'.heap ∧ RelV v u ∧ Q v H'
def CR (CX : CXT) (outer : List Env) (P : Program) (w : World) (H : Hp) (s : Shared) (Q : VK) (E : XK) (r : Result) (s' : Shared) : Prop :=
  match r with
  | .ok (.ret u) => CE outer P w H s Q u s'
  | .ok _ => False
  | .error e => CX outer H s E e s'
structure FnOk (P : Program) (w : World) (K : PySem.W.Frag) (mg : Str → Option Value) (base : Heap) (CX : CXT) (k : Nat) (f : Addr) (fd : FuncData) (ps : List Str) (sp : Sp) : Prop where
  len : ∀ vs H Q E, sp vs H Q E → vs.length = ps.length
  run : ∀ (A : Around) (outer : List Env) (s : Shared) (H : Hp) (args : Args) (us : List Value) (vs : List V) (Q : VK) (E : XK), Room k A → Env0 P w K mg base A outer s H → BindsTo s fd args (ps.zip us) → Vals vs us → sp vs H Q E →
    codeAny (model P w) A (.call (.ref f) args) (CR CX outer P w H s Q E) s
theorem FnOk.imp {P : Program} {w : World} {K : PySem.W.Frag} {mg : Str → Option Value} {base : Heap} {CX : CXT} {k : Nat} {f : Addr} {fd : FuncData} {ps : List Str} {sp sp' : Sp} (F : FnOk P w K mg base CX k f fd ps sp)
    (h : ∀ vs H Q E, sp' vs H Q E → sp vs H Q E) : FnOk P w K mg base CX k f fd ps sp' :=
  ⟨fun vs H Q E q => F.len vs H Q E (h _ _ _ _ q), fun A outer s H args us vs Q E hr he hb hv hs => F.run A outer s H args us vs Q E hr he hb hv (h _ _ _ _ hs)⟩
theorem Env0.make {P : Program} {w : World} {K : PySem.W.Frag} {mg : Str → Option Value} {base : Heap} {A : Around} {outer : List Env} {s : Shared} {H : Hp} (e : Env0 P w K mg base A outer s H) (C : Addr) (us : List Value) (kw : List (Str × Value)) :
    Env0 P w K mg base (A.under (.builtin "type.__call__" ⟨.ref C :: us, kw⟩)) outer s H := ⟨by first | exact e.frames | (simpa [Around.under, Code.envs, Code.isFrame, pushEnvs] using e.frames), e.mod, e.bs, e.bsz, e.funs, e.frf, e.hok, e.bare⟩
section
variable {X : Cx} {pins : List (Addr × Obj)} {σ : St} {H : Hp} {s s' : Shared}
theorem Inv.env0 (I : Inv X pins σ H s) : Env0 X.prog X.w X.K X.mg X.base X.A X.stack s H :=
  ⟨I.ok.frames, I.ok.mod, I.bs, Nat.le_trans I.ok.bsz I.sz, I.stack, I.stkFree, I.hok, I.bare⟩
theorem Inv.after {Q : VK} {u : Value} (I : Inv X pins σ H s) (h : CE X.stack X.prog X.w H s Q u s') : EP X pins σ Q u s' := by
  obtain ⟨v, H', os, bare, un, hok, r, q⟩ := h
  obtain ⟨hh, g, d, t, os'⟩ := s'
  obtain rfl : os' = s.os := os
  exact ⟨v, H', I.call (h' := hh) (g' := g) (d' := d) (t' := t) (ch := []) un hok bare (fun b z => absurd z (by simp)), r, q⟩
end
def tCall (sp : Sp) (dvs : List V) (E : XK) (t : TA) : TE := fun σ H Q => t σ H fun vs H1 => sp (vs ++ dvs) H1 Q E
def Binds (K : PySem.W.Frag) (fd : FuncData) (ps : List Str) (ds : List Value) : Prop :=
  ∀ (s : Shared) (us : List Value), K.In s.heap → (us ++ ds).length = ps.length → BindsTo s fd ⟨us, []⟩ (ps.zip (us ++ ds))
theorem Binds.all {K : PySem.W.Frag} {fd : FuncData} {ps : List Str} (h : ∀ us : List Value, us.length = ps.length → bindArgs fd ⟨us, []⟩ = pure (ps.zip us)) : Binds K fd ps [] := fun s us _ hl => by
  rw [List.append_nil] at hl ⊢
  exact .of_eq (h us hl)
def Passes (CX : CXT) (X : Cx) (E : XK) : Prop := ∀ (pins : List (Addr × Obj)) (σ : St) (H : Hp) (s : Shared) (e : Value) (s' : Shared), Inv X pins σ H s → CX X.stack H s E e s' → X.xe e s'
section
variable {X : Cx} {CX : CXT} {k : Nat} {f C : Addr} {fd : FuncData} {ps : List Str} {sp : Sp} {dvs : List V} {ds : List Value} {E : XK} {x m : Str} {p pos apos : Pos} {e o : Expr} {es : List Expr} {ta : TE} {t : TA}
theorem run_fn {pins : List (Addr × Obj)} {σ : St} {H : Hp} {s : Shared} {Q : VK} {us : List Value} {vs : List V} (F : FnOk X.prog X.w X.K X.mg X.base CX k f fd ps sp) (hr : Room k X.A) (hb : Binds X.K fd ps ds) (hd : Vals dvs ds) (hx : Passes CX X E)
    (I : Inv X pins σ H s) (r : Vals vs us) (h : sp (vs ++ dvs) H Q E) : wpAny (model X.prog X.w) X.A (call (.ref f) us) (EP X pins σ Q) X.xe s := by
  have r2 : Vals (vs ++ dvs) (us ++ ds) := r.append hd
  have hl : (us ++ ds).length = ps.length := by rw [← r2.length]; exact F.len _ _ _ _ h
  refine wpAny_call (codeAny_mono (F.run X.A X.stack s H ⟨us, []⟩ (us ++ ds) (vs ++ dvs) Q E hr I.env0 (hb s us I.kIn hl) r2 h) fun r s' hq => ?_)
  cases r with
  | error e => exact hx pins σ H s e s' I hq
  | ok fl =>
    cases fl with
    | ret u => exact I.after hq
    | next => exact False.elim hq
    | brk => exact False.elim hq
    | cont => exact False.elim hq
theorem pe_call (F : FnOk X.prog X.w X.K X.mg X.base CX k f fd ps sp) (hr : Room k X.A) (hg : Gl X x) (hm : X.mg x = some (.ref f)) (hk : PySem.W.keepIn X.K (.ref f) = true) (hb : Binds X.K fd ps ds) (hd : Vals dvs ds) (hx : Passes CX X E)
    (ha : PA X (e :: es) t) (hdb : (x == ("__debug__" : Str)) = false := by decide) (he : starEach (e :: es) X.env = (false, eval e X.env) :: starEach es X.env := by rfl) (hpl : (backTo pos (starEach es X.env)).any (·.1) = false := by rfl) :
    PE X (.Call (.Name x p) (e :: es) [] pos) (tCall sp dvs E t) := by
  intro pins s σ H Q I h
  refine wpAny_Call_Name_kw (ld_glob I hg hm ?_ hdb)
  refine PySem.W.callWith_K (h₀ := X.base) I.ok.mod.kin hk (thn (ha pos pins s σ H _ I h) fun us s1 zz185 => el5 zz185 fun vs H1 I1 r q => ⟨I1.kIn, ?_⟩) he hpl
  exact run_fn F hr hb hd hx I1 r q
end
section
variable {X : Cx} {CX : CXT} {k : Nat} {f C : Addr} {fd : FuncData} {ps ks : List Str} {sp : Sp} {E : XK} {x m : Str} {p pos apos kpos : Pos} {e o : Expr} {es : List Expr} {kws : List Keyword} {te ta : TE} {t tk : TA} {nm : Option Str}
variable {g : List Value → List Value → List Value} {gV : List V → List V → List V}
end
structure FnScope (N P : List Str) (sc : Scope) : Prop where
  kind : sc.kind = .function
  co : sc.isCoroutine = false
  gen : sc.isGenerator = false
  nd : N.Nodup
  pre : N.take P.length = P
  par : ∀ x ∈ P, sc.names.lookup x = some .local ∨ sc.names.lookup x = some .cell
  nofree : ∀ y ∈ sc.names, y.2 ≠ .free
theorem bindL_out {kindOf : Str → Option NameKind} {x : Str} : ∀ {binds : List (Str × Value)} {m : Str → Option Value}, (∀ v, (x, v) ∉ binds) → bindL kindOf binds m x = m x
  | [], _, _ => rfl
  | (n, v) :: r, m, h => by
    unfold bindL
    rw [bindL_out fun w hw => h w (List.mem_cons_of_mem _ hw)]
    split
    · have : x ≠ n := by rintro rfl; exact h v List.mem_cons_self
      simp [this]
    · rfl
theorem bindC_out {kindOf : Str → Option NameKind} {x : Str} : ∀ {binds : List (Str × Value)} {m : Str → Option Value}, (∀ v, (x, v) ∉ binds) → bindC kindOf binds m x = m x
  | [], _, _ => rfl
  | (n, v) :: r, m, h => by
    unfold bindC
    rw [bindC_out fun w hw => h w (List.mem_cons_of_mem _ hw)]
    split
    · rfl
    · have : x ≠ n := by rintro rfl; exact h v List.mem_cons_self
      simp [this]
theorem bindL_get {kindOf : Str → Option NameKind} {x : Str} {v : Value} : ∀ {P : List Str} {vs : List Value} {i : Nat} {m : Str → Option Value}, P.Nodup → P[i]? = some x → vs[i]? = some v → kindOf x = some .local →
    bindL kindOf (P.zip vs) m x = some v
  | [], _, _, _, _, h, _, _ => by simp at h
  | _ :: _, [], _, _, _, _, h, _ => by simp at h
  | p :: P, w :: vs, 0, m, nd, h1, h2, hk => by
    simp at h1 h2; subst h1; subst h2
    show bindL kindOf ((p, w) :: P.zip vs) m p = _
    unfold bindL
    rw [bindL_out fun v hv => (List.nodup_cons.mp nd).1 (List.of_mem_zip hv).1, if_pos hk]
    simp
  | p :: P, w :: vs, i + 1, m, nd, h1, h2, hk => by
    show bindL kindOf ((p, w) :: P.zip vs) m x = _
    unfold bindL
    exact bindL_get (i := i) (List.nodup_cons.mp nd).2 (by simpa using h1) (by simpa using h2) hk
theorem bindC_get {kindOf : Str → Option NameKind} {x : Str} {v : Value} : ∀ {P : List Str} {vs : List Value} {i : Nat} {m : Str → Option Value}, P.Nodup → P[i]? = some x → vs[i]? = some v → kindOf x ≠ some .local →
    bindC kindOf (P.zip vs) m x = some v
  | [], _, _, _, _, h, _, _ => by simp at h
  | _ :: _, [], _, _, _, _, h, _ => by simp at h
  | p :: P, w :: vs, 0, m, nd, h1, h2, hk => by
    simp at h1 h2; subst h1; subst h2
    show bindC kindOf ((p, w) :: P.zip vs) m p = _
    unfold bindC
    rw [bindC_out fun v hv => (List.nodup_cons.mp nd).1 (List.of_mem_zip hv).1, if_neg hk]
    simp
  | p :: P, w :: vs, i + 1, m, nd, h1, h2, hk => by
    show bindC kindOf ((p, w) :: P.zip vs) m x = _
    unfold bindC
    exact bindC_get (i := i) (List.nodup_cons.mp nd).2 (by simpa using h1) (by simpa using h2) hk
def start (N : List Str) (vs : List V) : St := vs.map some ++ List.replicate (N.length - vs.length) none
def cxOf (CX : CXT) (P : Program) (w : World) (K : PySem.W.Frag) (mg : Str → Option Value) (base : Heap) (N : List Str) (qual : Str) (scope : Scope) (f : Addr) (cd : Value) (A : Around) (outer : List Env) (s : Shared) (H : Hp) (E : XK) : Cx where
  prog := P
  w := w
  K := K
  mg := mg
  base := base
  A := A.deeper (envOfC qual scope s.heap.objs.size f cd)
  N := N
  s₀ := s
  H₀ := H
  env := envOfC qual scope s.heap.objs.size f cd
  outer := outer
  stack := envOfC qual scope s.heap.objs.size f cd :: outer
  ex := []
  calm := true
  fn := fun _ => true
  pn := []
  xe := fun e s' => wpAny (model P w) (A.deeper (envOfC qual scope s.heap.objs.size f cd)) (leaving (envOfC qual scope s.heap.objs.size f cd) e) (fun _ s'' => CX outer H s E e s'') (fun e' s'' => CX outer H s E e' s'') s'
theorem cell_has {sc : Scope} {n : Nat} {x : Str} (h : sc.names.lookup x = some .cell) : ∃ c, (cellsFrom n sc.names []).lookup x = some c := by
  have q := PySem.W.cellsFrom_some sc.names n [] (.inl h)
  exact Option.isSome_iff_exists.mp q
theorem inv_start {CX : CXT} {P : Program} {w : World} {K : PySem.W.Frag} {mg : Str → Option Value} {base : Heap} {N ps : List Str} {qual : Str} {scope : Scope} {f : Addr} {cd : Value} {A : Around} {outer : List Env} {s s1 : Shared} {H : Hp} {E : XK} {us : List Value} {vs : List V}
    (S : FnScope N ps scope) (hd : A.handled = none) (e0 : Env0 P w K mg base A outer s H) (hl : vs.length = ps.length) (r : Vals vs us)
    (x : InCallC s s.heap.objs.size (bindL (envOfC qual scope s.heap.objs.size f cd).kindOf (ps.zip us) fun _ => none) (cellsFrom (s.heap.objs.size + 1) scope.names []) (bindC (envOfC qual scope s.heap.objs.size f cd).kindOf (ps.zip us) fun _ => none) s1) :
    Inv (cxOf CX P w K mg base N qual scope f cd A outer s H E) [] (start N vs) H s1 := by
  have hpl : ps.length ≤ N.length := by have := congrArg List.length S.pre; rw [List.length_take] at this; lia
  obtain ⟨h1, tk, rfl, hk⟩ := x.done
  have noA : ∀ b : Addr, b ∉ (cxOf CX P w K mg base N qual scope f cd A outer s H E).ex := fun b z => absurd (show b ∈ ([] : List Addr) from z) (by simp)
  refine ⟨⟨e0.mod, S.kind, rfl, rfl, Nat.le_refl _, fun y z c h1 h2 => ?_, fun y hy => ?_, fun y c _ h => ?_, fun _ => hd, Around.frames_deeper e0.frames, .inr ⟨rfl, rfl⟩, fun b z => absurd z (noA b), e0.bs, e0.bsz, fun b _ _ => noA b, fun b z => absurd z (noA b), e0.funs, e0.frf⟩,
    rfl, e0.bare, Un.kept hk, ⟨_, x.toInCall.ns, fun i y v h1 h2 h3 => ?_⟩, fun y c h => ⟨_, x.cell y c h⟩, e0.hok.fresh (Nat.le_refl _), fun y c h => ?_, fun p hp => absurd (show p ∈ ([] : List (Addr × Obj)) from hp) (by simp), e0.hok.kept hk, ?_⟩
  · exact name_of_addr x.apart (PySem.mem_of_lookup h1) (PySem.mem_of_lookup h2)
  · have hy : scope.names.lookup y = some .cell ∨ scope.names.lookup y = some .free := hy
    rcases hy with hy | hy
    · exact cell_has hy
    · exact absurd rfl (S.nofree _ (PySem.mem_of_lookup hy))
  · exact Nat.le_of_lt (x.above y c (PySem.mem_of_lookup h))
  · have hi : i < vs.length := by
      unfold start at h2
      by_cases hi : i < vs.length
      · exact hi
      · rw [List.getElem?_append_right (by simpa using hi)] at h2
        rw [List.getElem?_replicate] at h2
        split at h2 <;> cases h2
    have ha : vs[i]? = some v := by
      unfold start at h2
      rw [List.getElem?_append_left (by simpa using hi), List.getElem?_map] at h2
      cases e : vs[i]? with
      | none => rw [e] at h2; cases h2
      | some a => rw [e] at h2; cases h2; rfl
    obtain ⟨u, hu, rv⟩ := r.get ha
    have hp : ps[i]? = some y := by
      rw [← S.pre, List.getElem?_take_of_lt (by lia)]; exact h1
    have ndP : ps.Nodup := by rw [← S.pre]; exact S.nd.sublist (List.take_sublist _ _)
    refine ⟨u, rv, ?_⟩
    rcases S.par y (List.mem_of_getElem? hp) with k | k
    · exact .inl ⟨k, bindL_get ndP hp hu k⟩
    · obtain ⟨c, e⟩ := cell_has (n := s.heap.objs.size + 1) k
      refine .inr ⟨.inl k, c, e, ?_⟩
      have q := x.cell y c e
      rw [bindC_get ndP hp hu (by show scope.names.lookup y ≠ _; rw [k]; decide)] at q
      exact q
  · exact e0.hok.fresh (Nat.le_of_lt (x.above y c (PySem.mem_of_lookup h)))
  · unfold start
    show _ = N.length
    rw [List.length_append, List.length_map, List.length_replicate]
    lia
theorem fn_of {CX : CXT} {P : Program} {w : World} {K : PySem.W.Frag} {mg : Str → Option Value} {base : Heap} {k : Nat} {f : Addr} {name qual : Str} {params : Arguments} {body : List Stmt} {scope : Scope} {dV kV doc pm cdv ct oc : Value} {an od : Option Addr}
    {osl : Array (Option Value)} {N ps : List Str} {sp : Sp} (lk : K.lookup f = some ⟨oc, od, .func (PySem.W.fnOf name qual params body scope dV kV doc pm an cdv ct), osl⟩) (hcd : PySem.W.codeIn K cdv qual = true) (S : FnScope N ps scope)
    (len : ∀ vs H Q E, sp vs H Q E → vs.length = ps.length)
    (hbody : ∀ (A : Around) (outer : List Env) (s : Shared) (H : Hp) (vs : List V) (Q : VK) (E : XK), Room k (A.deeper (envOfC qual scope s.heap.objs.size f cdv)) → sp vs H Q E →
      ∃ t, PSs (cxOf CX P w K mg base N qual scope f cdv A outer s H E) body t ∧ t { nx := fun _ H' => Q .non H', rt := Q } (start N vs) H) :
    FnOk P w K mg base CX (k + 1) f (PySem.W.fnOf name qual params body scope dV kV doc pm an cdv ct) ps sp := by
  refine ⟨len, fun A outer s H args us vs Q E hr e0 hb r hsp => ?_⟩
  have hl := len _ _ _ _ hsp
  have KX : K.In s.heap := e0.mod.kin.keeps fun b o e => (e0.bs b o e).1
  have lim : s.heap.NoLimit := e0.mod.nolimit.keeps fun b o e => (e0.bs b o e).1
  have hkind : ∀ y ∈ ps.zip us, scope.names.lookup y.1 = some .local ∨ (scope.names.lookup y.1 = some .cell ∧ ((cellsFrom (s.heap.objs.size + 1) scope.names []).lookup y.1).isSome = true) := fun ⟨n, v⟩ hy => by
    rcases S.par n (List.of_mem_zip hy).1 with q | q
    · exact .inl q
    · exact .inr ⟨q, PySem.W.cellsFrom_some _ _ _ (.inl q)⟩
  refine codeAny_call_function hr.depth (KX _ _ lk) rfl S.co S.gen rfl (PySem.W.codeRec_of KX hcd) (hb _ _ _ _ ?_)
  refine wpAny_newFunctionEnv_cells S.kind hkind fun env he s1 x => ?_
  subst he
  refine ⟨lim.keeps x.toInCall.keep, codeAny_func ?_⟩
  obtain ⟨t, ht, hq⟩ := hbody A outer s H vs Q E (hr.deeper _) hsp
  have I : Inv (cxOf CX P w K mg base N qual scope f cdv A outer s H E) [] (start N vs) H s1 := inv_start S hr.hd e0 hl r x
  refine wpAny_mono (ht [] s1 (start N vs) H _ I hq) (fun fl s' hs => ?_) fun e s' hs => hs
  have fin : ∀ {σ' : St} {H' : Hp} {v : V} {u : Value}, Inv (cxOf CX P w K mg base N qual scope f cdv A outer s H E) [] σ' H' s' → RelV v u → Q v H' → CE outer P w H s Q u s' :=
    fun {σ' H' v u} J rv q => ⟨v, H', J.os, J.bare, J.base, J.hok, rv, q⟩
  cases fl with
  | ret u =>
    obtain ⟨v, σ', H', J, rv, q⟩ := hs
    exact fin J rv q
  | next =>
    obtain ⟨σ', H', J, q⟩ := hs
    exact fin (v := V.non) (u := Value.none) J rfl q
  | brk =>
    obtain ⟨_, _, _, q⟩ := hs
    exact False.elim q
  | cont =>
    obtain ⟨_, _, _, q⟩ := hs
    exact False.elim q
end L2
namespace L2
open PySem PySem.Spec PyProof.Rows
section
variable {X : Cx} {x : Str} {p pos : Pos} {e : Expr} {es : List Expr} {t : TA} {id T : String} {r : List V → Hp → VK → Prop}
def tCB (r : List V → Hp → VK → Prop) (t : TA) : TE := fun σ H Q => t σ H fun vs H1 => r vs H1 Q
theorem pe_callB (hc : CallR X (.builtin id) r) (hg : Gl X x) (hm : X.mg x = none) (hv : bootBuiltins x = some (.builtin id)) (ha : PA X (e :: es) t) (hn : x ≠ "__name__" := by decide) (hdb : (x == ("__debug__" : Str)) = false := by decide)
    (he : starEach (e :: es) X.env = (false, eval e X.env) :: starEach es X.env := by rfl) (hpl : (backTo pos (starEach es X.env)).any (·.1) = false := by rfl) : PE X (.Call (.Name x p) (e :: es) [] pos) (tCB r t) := by
  intro pins s σ H Q I h
  refine wpAny_Call_Name_kw (ld_blt I hg hm hv ?_ hn hdb)
  exact PyProof.Rows.callWith_builtin1 (thn (ha pos pins s σ H _ I h) fun us s1 zz213 => el5 zz213 fun vs H1 I1 r1 q1 => hc pins s1 σ H1 vs us Q I1 r1 q1) he hpl
theorem pe_callTy (hc : CallR X (.type T) r) (hg : Gl X x) (hm : X.mg x = none) (hv : bootBuiltins x = some (.type T)) (ha : PA X (e :: es) t) (hn : x ≠ "__name__" := by decide) (hdb : (x == ("__debug__" : Str)) = false := by decide)
    (he : starEach (e :: es) X.env = (false, eval e X.env) :: starEach es X.env := by rfl) (hpl : (backTo pos (starEach es X.env)).any (·.1) = false := by rfl) : PE X (.Call (.Name x p) (e :: es) [] pos) (tCB r t) := by
  intro pins s σ H Q I h
  refine wpAny_Call_Name_kw (ld_blt I hg hm hv ?_ hn hdb)
  exact PyProof.Rows.callWith_type1 (thn (ha pos pins s σ H _ I h) fun us s1 zz214 => el5 zz214 fun vs H1 I1 r1 q1 => hc pins s1 σ H1 vs us Q I1 r1 q1) he hpl
end
end L2
namespace HT
open PySem PyProof.Rows
section
open PySem.SeqAt
open PySem.AutoSeq1 (wpAny_loadPart')
open PySem.MeetsSeq PySem.MeetsSeq2 PySem.MeetsSeq3
end
section
variable {prog : Program} {w : World} {A : Around} {E : Value → Shared → Prop} {s : Shared}
def sIx (n d : Nat) : Option Int → Nat
  | none => d
  | some v => if v < 0 then (v + (n : Int)).toNat else min v.toNat n
end
end HT
namespace L2
open PySem PySem.Spec PyProof.Rows
abbrev TO := St → Hp → (Option Int → Hp → Prop) → Prop
def PO (X : Cx) (e : Option Expr) (t : TO) : Prop :=
  ∀ (pins : List (Addr × Obj)) (s : Shared) (σ : St) (H : Hp) (Q : Option Int → Hp → Prop), Inv X pins σ H s → t σ H Q →
    wpAny (model X.prog X.w) X.A (evalPart e X.env) (fun u s' => ∃ o H', Inv X pins σ H' s' ∧ IsPart u o ∧ Q o H') X.xe s
def tNoPart : TO := fun _ H Q => Q none H
def tPart (t : TE) : TO := fun σ H Q => t σ H fun x H1 => ∃ i, x = .int i ∧ Q (some i) H1
section
variable {X : Cx} {e : Expr} {te : TE} {lo hi : Option Expr} {tl th : TO} {pos p2 : Pos}
theorem po_none : PO X none tNoPart := by
  intro pins s σ H Q I h
  rw [evalPart_none]
  exact wpAny_pure ⟨none, H, I, .none, h⟩
theorem po_some (h : PE X e te) : PO X (some e) (tPart te) := by
  intro pins s σ H Q I hw
  rw [evalPart_some]
  refine thn (h pins s σ H _ I hw) fun u s1 zz215 => el5 zz215 fun x H1 I1 r1 q1 => ?_
  obtain ⟨i, rfl, q⟩ := q1
  obtain ⟨t, rfl⟩ := r1
  exact ⟨some i, H1, I1, .int i t, q⟩
def SlR (X : Cx) (r : V → Option Int → Option Int → Hp → VK → Prop) : Prop :=
  ∀ (pins : List (Addr × Obj)) (s : Shared) (σ : St) (H : Hp) (x : V) (v vl vu : Value) (lo hi : Option Int) (sl : Addr) (Q : VK), Inv X pins σ H s → RelV x v → s.heap.IsSliceOf sl vl vu .none → IsPart vl lo → IsPart vu hi → r x lo hi H Q →
    ∃ T id, typeLookup (.type T) "__getitem__" = pure (some (.builtin id)) ∧ s.TypeIs v T ∧ wpAny (model X.prog X.w) X.A (getItem v (.ref sl)) (EP X pins σ Q) X.xe s
def tSl (r : V → Option Int → Option Int → Hp → VK → Prop) (te : TE) (tl th : TO) : TE := fun σ H Q => te σ H fun x H1 => tl σ H1 fun l H2 => th σ H2 fun u H3 => r x l u H3 Q
theorem pe_slice {r : V → Option Int → Option Int → Hp → VK → Prop} (hr : SlR X r) (he : PE X e te) (hl : PO X lo tl) (hu : PO X hi th) : PE X (.Subscript e (.Slice lo hi none p2) pos) (tSl r te tl th) := by
  intro pins s σ H Q I h
  refine Subscript_ (thn (he pins s σ H _ I h) fun v s1 zz216 => el5 zz216 fun x H1 I1 r1 q1 => ?_)
  refine wpAny_Slice (thn (hl pins s1 σ H1 _ I1 q1) fun vl s2 zz217 => el5 zz217 fun l H2 I2 pl q2 => thn (hu pins s2 σ H2 _ I2 q2) fun vu s3 zz218 => el5 zz218 fun u H3 I3 pu q3 => ?_)
  rw [evalPart_none]
  refine wpAny_pure ?_
  have I4 : Inv X pins σ H3 { s3 with heap := s3.heap.push { cls := .type "slice", data := .fields #[vl, vu, .none] } } := I3.kept (t' := s3.toks) fun b ob q => Heap.get?_push_of_some _ q
  obtain ⟨T, id, hT, ht, hg⟩ := hr pins { s3 with heap := s3.heap.push { cls := .type "slice", data := .fields #[vl, vu, .none] } } σ H3 x v vl vu l u s3.heap.objs.size Q I4 r1 (Heap.IsSliceOf.new ..) pl pu q3
  show wpAny (model X.prog X.w) X.A (subscriptTail e (.Slice lo hi none p2) v (.ref s3.heap.objs.size)) (EP X pins σ Q) X.xe { s3 with heap := s3.heap.push { cls := .type "slice", data := .fields #[vl, vu, .none] } }
  exact tail_any (ops := [.ref s3.heap.objs.size, v]) ht hT hg (by with_unfolding_all rfl)
def cutV (xs : List V) (lo hi : Option Int) : List V := (xs.drop (HT.sIx xs.length 0 lo)).take (HT.sIx xs.length xs.length hi - HT.sIx xs.length 0 lo)
theorem cutV_length (xs : List V) (lo hi : Option Int) : (cutV xs lo hi).length ≤ xs.length := by
  unfold cutV
  rw [List.length_take, List.length_drop]
  lia
end
end L2
namespace L2
open PySem PySem.Spec PyProof.Rows
def ixN (n : Nat) (i : Int) : Option Nat := if 0 ≤ i then (if i < n then some i.toNat else none) else if -(n : Int) ≤ i then some (i + n).toNat else none
def atI {α : Type} (xs : List α) (i : Int) : Option α := (ixN xs.length i).bind fun j => xs[j]?
theorem ixN_seq {n : Nat} {i : Int} {j : Nat} (h : ixN n i = some j) : seqIndex? i n = some j ∧ j < n ∧ -(n : Int) ≤ i ∧ i < n := by
  unfold ixN at h
  by_cases h0 : 0 ≤ i
  · rw [if_pos h0] at h
    by_cases h1 : i < n
    · rw [if_pos h1] at h
      have e : i.toNat = j := Option.some.inj h
      exact ⟨by rw [seqIndex_of h0 h1, e], by lia, by lia, h1⟩
    · rw [if_neg h1] at h; cases h
  · rw [if_neg h0] at h
    by_cases h1 : -(n : Int) ≤ i
    · rw [if_pos h1] at h
      have e : (i + n).toNat = j := Option.some.inj h
      exact ⟨by rw [seqIndex_neg (by lia) h1, e], by lia, h1, by lia⟩
    · rw [if_neg h1] at h; cases h
theorem atI_get {α : Type} {xs : List α} {i : Int} {v : α} (h : atI xs i = some v) : ∃ j, seqIndex? i xs.length = some j ∧ xs[j]? = some v ∧ j < xs.length ∧ -(xs.length : Int) ≤ i ∧ i < xs.length := by
  unfold atI at h
  cases e : ixN xs.length i with
  | none => rw [e] at h; cases h
  | some j =>
    rw [e] at h
    obtain ⟨h1, h2, h3, h4⟩ := ixN_seq e
    exact ⟨j, h1, h, h2, h3, h4⟩
theorem atI_nat {α : Type} {xs : List α} {j : Nat} {v : α} (h : xs[j]? = some v) : atI xs (j : Int) = some v := by
  have hj : j < xs.length := (List.getElem?_eq_some_iff.mp h).1
  have e : ixN xs.length (j : Int) = some j := by
    unfold ixN
    rw [if_pos (by lia), if_pos (by lia)]; simp
  unfold atI; rw [e]; exact h
def PlainIx (b : Expr) : Prop := ∀ o i, subscripted b false o i = operate [o, i] (getItem o i)
def IxR (X : Cx) (r : R2) : Prop :=
  ∀ (value slice : Expr) (pins : List (Addr × Obj)) (s : Shared) (σ : St) (H : Hp) (x y : V) (v u : Value) (Q : VK), Inv X pins σ H s → RelV x v → RelV y u → r x y H Q →
    subscripted slice false v u = operate [v, u] (getItem v u) → wpAny (model X.prog X.w) X.A (subscriptTail value slice v u) (EP X pins σ Q) X.xe s
def MtR (X : Cx) (id : String) (r : V → List V → Hp → VK → Prop) : Prop :=
  ∀ (pins : List (Addr × Obj)) (s : Shared) (σ : St) (H : Hp) (x : V) (xs : List V) (v : Value) (us : List Value) (Q : VK), Inv X pins σ H s → RelV x v → Vals xs us → r x xs H Q →
    wpAny (model X.prog X.w) X.A (call (.builtin id) (v :: us)) (EP X pins σ Q) X.xe s
section
variable {X : Cx} {a b : Expr} {ta tb : TE} {pos : Pos}
theorem IxR.or {r r' : R2} (h : IxR X r) (h' : IxR X r') : IxR X (fun x y H Q => r x y H Q ∨ r' x y H Q) := by
  intro value slice pins s σ H x y v u Q I rx ry q hs
  rcases q with q | q
  · exact h value slice pins s σ H x y v u Q I rx ry q hs
  · exact h' value slice pins s σ H x y v u Q I rx ry q hs
theorem pe_ix {r : R2} (hr : IxR X r) (ha : PE X a ta) (hb : PE X b tb) (hs : PlainIx b) : PE X (.Subscript a b pos) (tOp r ta tb) := by
  intro pins s σ H Q I h
  exact Subscript_ (binT ha hb I h fun v u s2 x y H2 I2 rx ry q => hr a b pins s2 σ H2 x y v u Q I2 rx ry q (hs _ _))
def rIxL (K : PySem.W.Frag) : R2 := fun x y H Q => ∃ p xs i v, x = .ref p ∧ y = .int i ∧ SqL K H p xs ∧ atI xs i = some v ∧ Q v H
def rIxT (K : PySem.W.Frag) : R2 := fun x y H Q => ∃ p xs i v, x = .ref p ∧ y = .int i ∧ SqT K H p xs ∧ atI xs i = some v ∧ Q v H
def rIxS : R2 := fun x y H Q => ∃ z i c, x = .str z ∧ y = .int i ∧ z.length ≤ sizeLine ∧ atI z.cps.toList i = some c ∧ Q (.str ⟨#[c]⟩) H
theorem ix_list : IxR X (rIxL X.K) := by
  intro value slice pins s σ H x y v u Q I rx ry h hs
  obtain ⟨p, xs, i, z, rfl, rfl, hq, he, q⟩ := h
  cases rx
  obtain ⟨t, rfl⟩ := ry
  obtain ⟨its, r, pl, hz⟩ := I.list hq
  obtain ⟨j, h1, h2, h3, h4, h5⟩ := atI_get he
  obtain ⟨w, ew, rw'⟩ := r.get h2
  have hl := r.length
  have hn := line63
  have fin : EP X pins σ Q w s := ⟨z, H, I, rw', q⟩
  by_cases h0 : 0 ≤ i
  · have hj : i.toNat = j := by
      rw [seqIndex_of h0 h5] at h1
      exact Option.some.inj h1
    exact item_listR pl.isList h0 (by lia) (by rw [hj]; simpa using ew) fin hs
  · have hj : (i + (its.toArray.size : Int)).toNat = j := by
      rw [seqIndex_neg (by lia) h4] at h1
      rw [List.size_toArray, ← hl]
      exact Option.some.inj h1
    exact subscriptTail_builtinR (x := w) pl.isList.typeIs slot_list_getitem.lookup
      (wpAny_getItem_list_neg (Q := fun r s' => r = w ∧ EP X pins σ Q r s') pl.isList (by lia) (by rw [List.size_toArray] <;> lia) (by lia) (by rw [hj]; simpa using ew) ⟨rfl, fin⟩) hs
theorem ix_tup : IxR X (rIxT X.K) := by
  intro value slice pins s σ H x y v u Q I rx ry h hs
  obtain ⟨p, xs, i, z, rfl, rfl, hq, he, q⟩ := h
  cases rx
  obtain ⟨t, rfl⟩ := ry
  obtain ⟨its, r, pl, hz⟩ := I.tuple hq
  obtain ⟨j, h1, h2, h3, h4, h5⟩ := atI_get he
  obtain ⟨w, ew, rw'⟩ := r.get h2
  have hl := r.length
  have hn := line63
  have fin : EP X pins σ Q w s := ⟨z, H, I, rw', q⟩
  exact subscriptTail_builtinR (x := w) pl.typeIs slot_tuple_getitem.lookup
    (getItem_tuple (j := j) (Q := fun r s' => r = w ∧ EP X pins σ Q r s') pl (by lia) (by lia) (by rw [List.size_toArray, ← hl]; exact h1) (by simpa using ew) ⟨rfl, fin⟩) hs
theorem ix_str : IxR X rIxS := by
  intro value slice pins s σ H x y v u Q I rx ry h hs
  obtain ⟨z, i, c, rfl, rfl, hz, he, q⟩ := h
  obtain ⟨t, rfl⟩ := rx
  obtain ⟨t', rfl⟩ := ry
  obtain ⟨j, h1, h2, h3, h4, h5⟩ := atI_get he
  have hl : z.cps.toList.length = z.length := by simp [Str.length]
  rw [hl] at h1 h4 h5
  have hn := line63
  exact tail_any (typeIs_str s z t) slot_str_getitem.lookup (getItem_str (c := c) (by
    have e1 : decide (i < -(2 ^ 63 : Int)) = false := decide_eq_false (by lia)
    have e2 : decide (i ≥ 2 ^ 63) = false := decide_eq_false (by lia)
    rw [e1, e2, Bool.or_false]) (by rw [h1]; simpa using h2) ⟨.str ⟨#[c]⟩, H, I.tok _, ⟨_, rfl⟩, q⟩) hs
def rIx (K : PySem.W.Frag) : R2 := fun x y H Q => rIxL K x y H Q ∨ rIxT K x y H Q ∨ rIxS x y H Q
theorem ix_seq : IxR X (rIx X.K) := ix_list.or (ix_tup.or ix_str)
theorem mapSeq_set (its : List Value) (n j : Nat) (u : Value) : Obj.mapSeq (·.setIfInBounds j u) { cls := .type "list", data := .seq its.toArray n } = { cls := .type "list", data := .seq (its.set j u).toArray n } := by
  simp [Obj.mapSeq]
theorem Inv.lst {pins : List (Addr × Obj)} {σ : St} {H : Hp} {s : Shared} {p : Addr} {xs : List V} (I : Inv X pins σ H s) (h : H p = some (.lst xs)) :
    ∃ (its : List Value) (n : Nat), Vals xs its ∧ s.heap.get? p = some { cls := .type "list", data := .seq its.toArray n } ∧ xs.length ≤ sizeLine := by
  obtain ⟨z, its, n, r, e⟩ := I.hok p _ h
  exact ⟨its, n, r, e, z⟩
theorem Inv.lstUpd {pins : List (Addr × Obj)} {σ : St} {H : Hp} {s : Shared} {p : Addr} {xs ys : List V} {its its' : List Value} {n n' : Nat} {f : Obj → Obj} (I : Inv X pins σ H s) (h : H p = some (.lst xs))
    (ho : s.heap.get? p = some { cls := .type "list", data := .seq its.toArray n }) (hf : f { cls := .type "list", data := .seq its.toArray n } = { cls := .type "list", data := .seq its'.toArray n' }) (r : Vals ys its') (hz : ys.length ≤ sizeLine) (t : Nat) :
    Inv X pins σ (upd H p (.lst ys)) { s with heap := s.heap.update p f, toks := t } := by
  have e : (s.heap.update p f).get? p = some { cls := .type "list", data := .seq its'.toArray n' } := by
    rw [Heap.get?_update_self f ho (by rw [hf] <;> rfl), hf]
  refine I.write (x := p) (e := p) (by rw [h]; trivial) (.inl rfl) (fun b u hb q => (Heap.get?_update_other _ _ (Ne.symm hb)).trans q) ⟨_, e⟩ ?_
  exact ⟨hz, its', n', r, e⟩
def rSetL : V → V → V → Hp → (Hp → Prop) → Prop := fun o i v H Q => ∃ p xs k j, o = .ref p ∧ i = .int k ∧ H p = some (.lst xs) ∧ ixN xs.length k = some j ∧ Q (upd H p (.lst (xs.set j v)))
theorem set_list : PSet X rSetL := by
  intro pins s σ H o i v ov iv u Q I ro ri rv h
  obtain ⟨p, xs, k, j, rfl, rfl, hp, hj, q⟩ := h
  cases ro
  obtain ⟨t, rfl⟩ := ri
  obtain ⟨its, n, r, ho, hz⟩ := I.lst hp
  obtain ⟨h1, h2, h3, h4⟩ := ixN_seq hj
  have hl := r.length
  have hn := line63
  have I' : Inv X pins σ (upd H p (.lst (xs.set j v))) { s with heap := s.heap.update p (Obj.mapSeq (·.setIfInBounds j u)) } :=
    I.lstUpd hp ho (mapSeq_set its n j u) (r.set rv j) (by rw [List.length_set]; exact hz) s.toks
  by_cases h0 : 0 ≤ k
  · have hk : k.toNat = j := by
      rw [seqIndex_of h0 h4] at h1
      exact Option.some.inj h1
    exact PySem.W.ki_setAt ho h0 (by lia) (by rw [List.size_toArray, ← hl]; exact h4) (by rw [hk]; exact ⟨_, I', q⟩)
  · have hk : (k + (its.toArray.size : Int)).toNat = j := by
      rw [seqIndex_neg (by lia) h3] at h1
      rw [List.size_toArray, ← hl]
      exact Option.some.inj h1
    exact PySem.W.ki_setBack ho (by lia) (by rw [List.size_toArray, ← hl]; exact h3) (by lia) (by rw [hk]; exact ⟨_, I', q⟩)
theorem slice_bounds (lo hi : Option Int) (n : Nat) : (sliceBounds lo hi none n).1 = ((HT.sIx n 0 lo : Nat) : Int) ∧ (sliceBounds lo hi none n).2.1 = ((HT.sIx n n hi : Nat) : Int) ∧ (sliceBounds lo hi none n).2.2 = 1 := by
  refine ⟨?_, ?_, rfl⟩
  · cases lo with
    | none => simp [sliceBounds, HT.sIx]
    | some i =>
      simp only [sliceBounds, HT.sIx, Option.getD_none, show (1 : Int) > 0 by decide, if_true]
      by_cases h : i < 0
      · simp only [h, if_true] <;> lia
      · simp only [h, if_false] <;> lia
  · cases hi with
    | none => simp [sliceBounds, HT.sIx]
    | some i =>
      simp only [sliceBounds, HT.sIx, Option.getD_none, show (1 : Int) > 0 by decide, if_true]
      by_cases h : i < 0
      · simp only [h, if_true] <;> lia
      · simp only [h, if_false] <;> lia
theorem slicePick_cut (its : List Value) (lo hi : Option Int) : slicePick its.toArray lo hi none = ((its.drop (HT.sIx its.length 0 lo)).take (HT.sIx its.length its.length hi - HT.sIx its.length 0 lo)).toArray := by
  obtain ⟨h1, h2, h3⟩ := slice_bounds lo hi its.toArray.size
  unfold slicePick
  rw [h1, h2, h3]
  simp only [sliceRange_one, pick_run, List.size_toArray] <;> rfl
def rSlL (K : PySem.W.Frag) : V → Option Int → Option Int → Hp → VK → Prop := fun x lo hi H Q => ∃ a xs, x = .ref a ∧ SqL K H a xs ∧ ∀ p, H p = none → Q (.ref p) (upd H p (.lst (cutV xs lo hi)))
theorem sl_list : SlR X (rSlL X.K) := by
  intro pins s σ H x v vl vu lo hi sl Q I rx hs pl pu h
  obtain ⟨a, xs, rfl, hx, q⟩ := h
  cases rx
  obtain ⟨its, r, ht, hz⟩ := I.list hx
  have hlen := r.length
  refine ⟨"list", _, slot_list_getitem.lookup, ht.isList.typeIs, ?_⟩
  refine wpAny_getItem_list_slice ht.isList hs pl pu .none (by simp) ?_ (by rw [List.size_toArray] <;> lia)
  rw [slicePick_cut, ← hlen]
  refine ⟨.ref s.heap.objs.size, _, I.laid (t' := s.toks) (o := .lst (cutV xs lo hi)) (fun b ob q => Heap.get?_push_of_some _ q) (Nat.le_refl _) ?_, rfl, q _ (I.hok.fresh (Nat.le_refl _))⟩
  exact ⟨Nat.le_trans (cutV_length xs lo hi) hz, _, 0, (r.drop (HT.sIx xs.length 0 lo)).take (HT.sIx xs.length xs.length hi - HT.sIx xs.length 0 lo), Heap.get?_push_size _ rfl⟩
def eqV : V → V → Bool
  | .non, .non => true
  | .bl a, .bl b => a == b
  | .bl a, .int b => (if a then 1 else 0) == b
  | .int a, .bl b => a == (if b then 1 else 0)
  | .int a, .int b => a == b
  | .str a, .str b => a == b
  | _, _ => false
def inV (x : V) (xs : List V) : Bool := xs.any fun y => eqV y x
theorem call_len_seq : CallR X (.builtin "len") (fun xs H Q => ∃ p ys, xs = [.ref p] ∧ (SqL X.K H p ys ∨ SqT X.K H p ys) ∧ Q (.int ys.length) H) := by
  intro pins s σ H xs us Q I r h
  obtain ⟨p, ys, rfl, hq, q⟩ := h
  obtain ⟨u, rfl, rx⟩ := vals1 r
  cases rx
  have hn := line63
  rcases hq with hq | hq
  · obtain ⟨its, r', pl, hz⟩ := I.list hq
    have hlen := r'.length
    exact Calls.call_len_list pl.isList (by simp only [List.size_toArray] <;> lia) ⟨.int ys.length, H, I.tok _, ⟨s.toks + 1, by rw [List.size_toArray, hlen]⟩, q⟩
  · obtain ⟨its, r', pl, hz⟩ := I.tuple hq
    have hlen := r'.length
    exact len_tuple pl (by simp only [List.size_toArray] <;> lia) ⟨.int ys.length, H, I.tok _, ⟨s.toks + 1, by rw [List.size_toArray, hlen]⟩, q⟩
theorem call_list_of : CallR X (.type "list") (fun xs H Q => ∃ p ys, xs = [.ref p] ∧ (SqL X.K H p ys ∨ SqT X.K H p ys) ∧ ∀ l, H l = none → Q (.ref l) (upd H l (.lst ys))) := by
  intro pins s σ H xs us Q I r h
  obtain ⟨p, ys, rfl, hq, q⟩ := h
  obtain ⟨u, rfl, rx⟩ := vals1 r
  cases rx
  have fin : ∀ (its : List Value), Vals ys its → ys.length ≤ sizeLine → ∀ (h' : Heap) (c' : Nat), (∀ b o', s.heap.get? b = some o' → h'.get? b = some o') →
      h'.get? s.heap.objs.size = some { cls := .type "list", dict := none, data := .seq its.toArray c', slots := #[] } → EP X pins σ Q (.ref s.heap.objs.size) { s with heap := h' } := fun its r' hz h' c' kp e =>
    ⟨.ref s.heap.objs.size, _, I.laid (t' := s.toks) kp (Nat.le_refl _) (show ObjOk X.prog X.w _ h' _ (.lst ys) from ⟨hz, its, c', r', e⟩), rfl, q _ (I.hok.fresh (Nat.le_refl _))⟩
  rcases hq with hq | hq
  · obtain ⟨its, r', pl, hz⟩ := I.list hq
    have hlen := r'.length
    obtain ⟨o, ho, hc, n, hd⟩ := pl.isList
    exact call_list_seq p (.inl rfl) ho hc hd (fun h' c' kp e => fin its r' hz h' c' kp e) (by simp only [List.size_toArray] <;> lia)
  · obtain ⟨its, r', pl, hz⟩ := I.tuple hq
    have hlen := r'.length
    obtain ⟨o, ho, hc, n, hd⟩ := pl
    exact call_list_seq p (.inr rfl) ho hc hd (fun h' c' kp e => fin its r' hz h' c' kp e) (by simp only [List.size_toArray] <;> lia)
theorem call_tuple_of : CallR X (.type "tuple") (fun xs H Q => ∃ p ys, xs = [.ref p] ∧ ((SqL X.K H p ys ∧ ∀ l, H l = none → Q (.ref l) (upd H l (.tup ys))) ∨ (SqT X.K H p ys ∧ Q (.ref p) H))) := by
  intro pins s σ H xs us Q I r h
  obtain ⟨p, ys, rfl, h⟩ := h
  obtain ⟨u, rfl, rx⟩ := vals1 r
  cases rx
  rcases h with ⟨hq, q⟩ | ⟨hq, q⟩
  · obtain ⟨its, r', pl, hz⟩ := I.list hq
    have hlen := r'.length
    refine call_tuple_list pl.isList (fun h' kp => ?_) (by simp only [List.size_toArray] <;> lia)
    have I1 : Inv X pins σ H { s with heap := h' } := I.kept (t' := s.toks) kp
    have I2 : Inv X pins σ (upd H h'.objs.size (.tup ys)) { s with heap := h'.push { cls := .type "tuple", data := .seq its.toArray } } :=
      I1.laid (t' := s.toks) (fun b o e => Heap.get?_push_of_some _ e) (Nat.le_refl _) (show ObjOk X.prog X.w _ _ _ (.tup ys) from ⟨hz, its, r', IsTup.new _ _⟩)
    exact ⟨.ref h'.objs.size, _, I2, rfl, q _ (I1.hok.fresh (Nat.le_refl _))⟩
  · obtain ⟨its, r', pl, hz⟩ := I.tuple hq
    exact call_tuple_same pl ⟨.ref p, H, I, rfl, q⟩
def tyV (K : PySem.W.Frag) (T : String) (x : V) (H : Hp) : Prop := match x with
  | .str _ => T = "str"
  | .int _ => T = "int"
  | .ref p => (T = "list" ∧ ∃ xs, SqL K H p xs) ∨ (T = "tuple" ∧ ∃ o, K.lookup p = some o ∧ o.cls = .type "tuple" ∧ o.dict = none) ∨
      (T = "dict" ∧ ((∃ kvs, H p = some (.dK kvs)) ∨ ∃ kvs, H p = some (.dT kvs))) ∨ (T = "set" ∧ ∃ S n, H p = some (.set S n))
  | _ => False
theorem tyV_is {pins : List (Addr × Obj)} {σ : St} {H : Hp} {s : Shared} {T : String} {x : V} {v : Value} (I : Inv X pins σ H s) (r : RelV x v) (ty : tyV X.K T x H) :
    s.TypeIs v T ∧ ∀ a, v = .ref a → ∃ ob, s.heap.get? a = some ob ∧ ob.dict = none := by
  cases x with
  | str z =>
    obtain ⟨t, rfl⟩ := r
    cases (show T = "str" from ty)
    exact ⟨typeIs_str s z t, fun _ e => nomatch e⟩
  | int i =>
    obtain ⟨t, rfl⟩ := r
    cases (show T = "int" from ty)
    exact ⟨typeIs_int s i t, fun _ e => nomatch e⟩
  | ref p =>
    cases r
    rcases ty with ⟨rfl, xs, hq⟩ | ⟨rfl, o, hk, hc, hd⟩ | ⟨rfl, hk⟩ | ⟨rfl, S, n, hk⟩
    · obtain ⟨its, _, pl, _⟩ := I.list hq
      refine ⟨pl.isList.typeIs, fun a e => ?_⟩
      cases e
      obtain ⟨o, n, e, c, hd, _⟩ := pl
      exact ⟨o, e, hd⟩
    · refine ⟨⟨o, I.kIn p o hk, hc⟩, fun a e => ?_⟩
      cases e
      exact ⟨o, I.kIn _ o hk, hd⟩
    · have z : ∃ o, s.heap.get? p = some o ∧ o.ExactDict := by
        rcases hk with ⟨kvs, hk⟩ | ⟨kvs, hk⟩
        · obtain ⟨_, _, _, _, o, _, _, e, ex, _⟩ := I.hok p _ hk
          exact ⟨o, e, ex⟩
        · obtain ⟨_, _, _, _, o, _, _, e, ex, _⟩ := I.hok p _ hk
          exact ⟨o, e, ex⟩
      obtain ⟨o, e, ex⟩ := z
      refine ⟨⟨o, e, ex.1⟩, fun a e2 => ?_⟩
      cases e2
      exact ⟨o, e, ex.2.1⟩
    · obtain ⟨o, _, _, _, e, ex, _⟩ := I.hok p _ hk
      refine ⟨⟨o, e, ex.1⟩, fun a e2 => ?_⟩
      cases e2
      exact ⟨o, e, ex.2.1⟩
  | _ => exact False.elim ty
def tBM0 (K : PySem.W.Frag) (T : String) (r : V → List V → Hp → VK → Prop) (to : TE) : TE := fun σ H Q => to σ H fun x H1 => tyV K T x H1 ∧ r x [] H1 Q
def tBM (K : PySem.W.Frag) (T : String) (r : V → List V → Hp → VK → Prop) (to : TE) (t : TA) : TE := fun σ H Q => to σ H fun x H1 => tyV K T x H1 ∧ t σ H1 fun xs H2 => r x xs H2 Q
variable {o e : Expr} {es : List Expr} {to : TE} {t : TA} {name : Str} {apos cpos : Pos} {T id : String} {r : V → List V → Hp → VK → Prop}
theorem pe_bm0 (pa : PlainAttrs T) (slot : Slot T name id) (hty : typeOf (.builtin id) = pure (.type "method_descriptor")) (hm : MtR X id r) (ho : PE X o to)
    (hbase : attributeBase o name X.env (eval o X.env) = eval o X.env := by rfl) (hline : (apos.endLine == cpos.line) = true := by rfl) : PE X (.Call (.Attribute o name apos) [] [] cpos) (tBM0 X.K T r to) := by
  intro pins s σ H Q I h
  refine wpAny_Call_method0_late hbase hline (thn (ho pins s σ H _ I h) fun v s1 zz219 => zz219.elim fun x zz220 => zz220.elim fun H1 zz221 => zz221.elim fun I1 zz222 => zz222.elim fun r1 zz223 => zz223.elim fun ty q1 => ?_)
  obtain ⟨h1, h2⟩ := tyV_is I1 r1 ty
  exact ⟨T, id, pa, slot, hty, h1, h2, Calls.callWith_builtin rfl (PySem.evalArgs_none (hm pins s1 σ H1 x [] v [] Q I1 r1 .nil q1))⟩
theorem pe_bm (pa : PlainAttrs T) (slot : Slot T name id) (hty : typeOf (.builtin id) = pure (.type "method_descriptor")) (hm : MtR X id r) (ho : PE X o to) (ha : PA X (e :: es) t)
    (hbase : attributeBase o name X.env (eval o X.env) = eval o X.env := by rfl)
    (hfew : ((backTo cpos (starEach (e :: es) X.env)).all (fun x => !x.1) && (backToKw cpos (keywordEach [] X.env)).all (fun x => x.1.isSome)
      && decide ((e :: es).length + ([] : List Keyword).length + (if ([] : List Keyword).isEmpty then 0 else 1) < 30)) = true := by rfl)
    (hline : (apos.endLine == cpos.line) = true := by rfl) (hs : starEach (e :: es) X.env = (false, eval e X.env) :: starEach es X.env := by rfl) (hplain : (backTo cpos (starEach es X.env)).any (·.1) = false := by rfl) :
    PE X (.Call (.Attribute o name apos) (e :: es) [] cpos) (tBM X.K T r to t) := by
  intro pins s σ H Q I h
  refine wpAny_Call_method_late hbase hfew hline rfl (thn (ho pins s σ H _ I h) fun v s1 zz224 => zz224.elim fun x zz225 => zz225.elim fun H1 zz226 => zz226.elim fun I1 zz227 => zz227.elim fun r1 zz228 => zz228.elim fun ty q1 => ?_)
  obtain ⟨h1, h2⟩ := tyV_is I1 r1 ty
  refine ⟨T, id, pa, slot, hty, h1, h2, ?_⟩
  have hA := ha cpos pins s1 σ H1 _ I1 q1
  rw [hs] at hA ⊢
  refine Calls.callWith_builtin (by show (false || (backTo cpos (starEach es X.env)).any (·.1)) = false; rw [hplain] <;> rfl) (Calls.evalArgs_plain ?_)
  exact thn hA fun us s2 zz229 => el5 zz229 fun vs H2 I2 r2 q2 => hm pins s2 σ H2 x vs v us Q I2 r1 r2 q2
end
end L2
namespace L2
open PySem PySem.Spec PyProof.Rows
def MtM (X : Cx) (id : String) (r : V → List V → Hp → VK → Prop) : Prop :=
  ∀ (pins : List (Addr × Obj)) (s : Shared) (σ : St) (H : Hp) (x : V) (xs : List V) (v : Value) (us : List Value) (Q : VK), Inv X pins σ H s → RelV x v → Vals xs us → r x xs H Q →
    wpAny (model X.prog X.w) X.A (call (.builtin id) (v :: us)) (EP X pins σ Q) X.xe s
theorem Vals.one {x : V} {us : List Value} (h : Vals [x] us) : ∃ u, us = [u] ∧ RelV x u := by
  cases h with
  | cons r t => cases t; exact ⟨_, rfl, r⟩
theorem Vals.two {x y : V} {us : List Value} (h : Vals [x, y] us) : ∃ u v, us = [u, v] ∧ RelV x u ∧ RelV y v := by
  cases h with
  | cons r t =>
    obtain ⟨v, rfl, q⟩ := Vals.one t
    exact ⟨_, _, rfl, r, q⟩
theorem Vals.zero : ∀ {us : List Value}, Vals [] us → us = []
  | _, .nil => rfl
theorem Vals.rep {xs : List V} {us : List Value} (h : Vals xs us) : ∀ k : Nat, Vals (List.replicate k xs).flatten (List.replicate k us).flatten
  | 0 => .nil
  | k + 1 => by
    rw [List.replicate_succ, List.replicate_succ, List.flatten_cons, List.flatten_cons]
    exact Vals.append h (Vals.rep h k)
theorem foldl_rep (its : List Value) : ∀ (k : Nat) (acc : List Value),
    List.foldl (fun x1 x2 => x1 ++ x2) acc.toArray (List.replicate k its.toArray) = (acc ++ (List.replicate k its).flatten).toArray
  | 0, acc => by simp
  | k + 1, acc => by
    have e : acc.toArray ++ its.toArray = (acc ++ its).toArray := by simp
    have e2 : (acc ++ its) ++ (List.replicate k its).flatten = acc ++ (List.replicate (k + 1) its).flatten := by
      rw [List.replicate_succ, List.flatten_cons, List.append_assoc]
    rw [← e2, ← foldl_rep its k (acc ++ its), ← e, List.replicate_succ, List.foldl_cons]
section
variable {X : Cx} {pins : List (Addr × Obj)} {σ : St} {H : Hp} {s : Shared} {l b : Addr} {xs ys zs : List V}
theorem Inv.lset {its its' : List Value} {n : Nat} {f : Array Value → Array Value} {t' : Nat} (I : Inv X pins σ H s) (hH : H l = some (.lst xs))
    (e : s.heap.get? l = some { cls := .type "list", data := .seq its.toArray n }) (hf : f its.toArray = its'.toArray) (hv : Vals ys its') (hz : ys.length ≤ sizeLine) :
    Inv X pins σ (upd H l (.lst ys)) { s with heap := s.heap.update l (Obj.mapSeq f), toks := t' } := by
  have q := PySem.IsL.update e f
  rw [hf] at q
  refine I.write (x := l) (e := l) (by rw [hH]; exact trivial) (.inl rfl) (fun b' u hb hu => (Heap.get?_update_other s.heap (Obj.mapSeq f) (Ne.symm hb)).trans hu) ⟨_, q⟩ ?_
  exact ⟨hz, its', _, hv, q⟩
theorem Inv.lnew {its : List Value} {t' : Nat} (I : Inv X pins σ H s) (hv : Vals ys its) (hz : ys.length ≤ sizeLine) :
    Inv X pins σ (upd H s.heap.objs.size (.lst ys)) { s with heap := s.heap.push { cls := .type "list", data := .seq its.toArray }, toks := t' } :=
  I.laid (fun _ _ q => Heap.get?_push_of_some _ q) (Nat.le_refl _) ⟨hz, its, 0, hv, Heap.get?_push_size _ rfl⟩
theorem Inv.fresh (I : Inv X pins σ H s) : H s.heap.objs.size = none := I.hok.fresh (Nat.le_refl _)
theorem Inv.lstM (I : Inv X pins σ H s) (hH : H l = some (.lst xs)) : xs.length ≤ sizeLine ∧ ∃ (its : List Value) (n : Nat), Vals xs its ∧ xs.length = its.length ∧ s.heap.get? l = some { cls := .type "list", data := .seq its.toArray n } := by
  obtain ⟨z, its, n, r, e⟩ := I.hok l _ hH
  exact ⟨z, its, n, r, r.length, e⟩
theorem notLongL {n : Nat} (h : n ≤ sizeLine) : Builtin.List.listTooLong n = false := by
  unfold Builtin.List.listTooLong
  exact decide_eq_false (by lia)
end
section
variable {X : Cx}
def rAppend : V → List V → Hp → VK → Prop := fun x vs H Q => ∃ l xs y, x = .ref l ∧ vs = [y] ∧ H l = some (.lst xs) ∧ xs.length < sizeLine ∧ Q .non (upd H l (.lst (xs ++ [y])))
theorem mt_append : MtM X "list.append" rAppend := by
  intro pins s σ H x vs v us Q I rx rv h
  obtain ⟨l, xs, y, rfl, rfl, hH, hz, q⟩ := h
  cases rx
  obtain ⟨u, rfl, ru⟩ := rv.one
  obtain ⟨z, its, n, r, hl, e⟩ := I.lstM hH
  refine call_meets F.slot_list_append ⟨_, e, rfl⟩ F.entry_list_append (F.args_list_append_2 _ _) (PySem.list_append l its.toArray n u (by rw [List.size_toArray]; lia)) ⟨e, ?_⟩
  refine ⟨.non, _, I.lset (its' := its ++ [u]) hH e (by simp) (r.append (.cons ru .nil)) ?_, rfl, q⟩
  rw [List.length_append, List.length_singleton]
  lia
def rClear : V → List V → Hp → VK → Prop := fun x vs H Q => ∃ l xs, x = .ref l ∧ vs = [] ∧ H l = some (.lst xs) ∧ Q .non (upd H l (.lst []))
theorem mt_clear : MtM X "list.clear" rClear := by
  intro pins s σ H x vs v us Q I rx rv h
  obtain ⟨l, xs, rfl, rfl, hH, q⟩ := h
  cases rx
  have hus := rv.zero
  subst hus
  obtain ⟨z, its, n, r, hl, e⟩ := I.lstM hH
  refine call_meets F.slot_list_clear ⟨_, e, rfl⟩ F.entry_list_clear (F.args_list_clear_1 _) (AutoSeq1.list_clear_list_0 l its.toArray n (by rw [List.size_toArray]; lia)) ⟨e, ?_⟩
  exact ⟨.non, _, I.lset (its' := []) (ys := []) hH e rfl .nil (Nat.zero_le _), rfl, q⟩
def rCat : R2 := fun x y H Q => ∃ l b xs zs, x = .ref l ∧ y = .ref b ∧ H l = some (.lst xs) ∧ H b = some (.lst zs) ∧ xs.length + zs.length ≤ sizeLine ∧ ∀ p, H p = none → Q (.ref p) (upd H p (.lst (xs ++ zs)))
theorem op_cat : OpR X (binaryOp .Add) rCat := by
  intro pins s σ H x y v u Q I rx ry h
  obtain ⟨l, b, xs, zs, rfl, rfl, hH, hB, hz, q⟩ := h
  cases rx
  cases ry
  obtain ⟨z, its, n, r, hl, e⟩ := I.lstM hH
  obtain ⟨z2, its2, n2, r2, hl2, e2⟩ := I.lstM hB
  refine PySem.P.add_list e e2 ?_ (by rw [List.size_toArray, List.size_toArray]; lia)
  have ea : its.toArray ++ its2.toArray = (its ++ its2).toArray := by simp
  rw [ea]
  exact ⟨.ref _, _, I.lnew (t' := s.toks) (r.append r2) (by rw [List.length_append]; lia), rfl, q _ I.fresh⟩
def rRep : R2 := fun x y H Q => ∃ l k xs, x = .ref l ∧ y = .int k ∧ H l = some (.lst xs) ∧ -(2 ^ 63) ≤ k ∧ k < 2 ^ 63 ∧ xs.length * k.toNat ≤ sizeLine ∧
  ∀ p, H p = none → Q (.ref p) (upd H p (.lst (List.replicate k.toNat xs).flatten))
theorem len_rep {α : Type} (xs : List α) (k : Nat) : (List.replicate k xs).flatten.length = k * xs.length := by
  induction k with
  | zero => simp
  | succ k ih => rw [List.replicate_succ, List.flatten_cons, List.length_append, ih, Nat.succ_mul, Nat.add_comm]
theorem op_rep : OpR X (binaryOp .Mult) rRep := by
  intro pins s σ H x y v u Q I rx ry h
  obtain ⟨l, k, xs, rfl, rfl, hH, h1, h2, hz, q⟩ := h
  cases rx
  obtain ⟨t, rfl⟩ := ry
  obtain ⟨z, its, n, r, hl, e⟩ := I.lstM hH
  have hlen : its.toArray.size * k.toNat ≤ sizeLine := by rw [List.size_toArray, ← hl]; exact hz
  have hcap : ¬ its.toArray.size * k.toNat > (2 ^ 63 - 1) / 8 := by
    have : (sizeLine : Nat) ≤ (2 ^ 63 - 1) / 8 := by decide
    lia
  have hfit : ¬ (!Builtin.List.listFitsIndex k) = true := by
    rw [fitsIndex_both h1 h2]
    exact Bool.false_ne_true
  have hlong : ¬ Builtin.List.listTooLong (its.toArray.size * k.toNat) = true := by
    rw [notLongL hlen]
    exact Bool.false_ne_true
  have hnew : List.foldl (fun x1 x2 => x1 ++ x2) #[] (List.replicate (if its.toArray.isEmpty = true then 0 else k.toNat) its.toArray) = (List.replicate k.toNat its).flatten.toArray := by
    have f0 : ∀ m : Nat, List.foldl (fun x1 x2 => x1 ++ x2) #[] (List.replicate m its.toArray) = (List.replicate m its).flatten.toArray := fun m => by
      have := foldl_rep its m []
      rw [List.nil_append] at this
      exact this
    rw [f0]
    cases its with
    | nil => simp
    | cons a r' => rw [if_neg (by simp)]
  refine wpAny_binaryOp_repeat_ref (T := "list") (U := "int") (by decide) ⟨_, e, rfl⟩ (fun s' => typeIs_int s' k t) noFill_list_mul F.fills_int_mul F.slot_int_rmul repeat_list F.slot_int_index.lookup
    (call_meets F.slot_int_rmul (typeIs_int s k t) F.entry_int_rmul (F.args_int_rmul_2 _ _) (int___rmul___int_list k t l its.toArray n)
      ⟨e, rfl, ⟨_, e, rfl⟩, call_meets F.slot_list_mul ⟨_, e, rfl⟩ F.entry_list_mul (F.args_list_mul_2 _ _) (AutoListH.list___mul___list_int_3 l its.toArray n k t hfit hcap hlong) ⟨e, ?_⟩⟩)
  rw [hnew]
  exact ⟨.ref _, _, I.lnew (t' := s.toks) (r.rep k.toNat) (by rw [len_rep, Nat.mul_comm]; exact hz), rfl, q _ I.fresh⟩
end
section
variable {prog : Program} {w : World} {A : Around} {E : Value → Shared → Prop} {s : Shared}
set_option maxRecDepth 100000 in
end
section
variable {X : Cx}
end
end L2
namespace Att
open PySem PySem.W PySem.Calls PyProof.Rows
theorem ints_of_wellAll {P : Params} {h : Heap} : ∀ (ns : List Int) (vs : List Value), WellAll P h vs (ns.map WData.int) → IntsAre vs ns := by
  intro ns
  induction ns with
  | nil =>
    intro vs w
    rw [List.map_nil] at w
    cases w
    exact .nil
  | cons n ns ih =>
    intro vs w
    rw [List.map_cons] at w
    cases w with
    | cons a b =>
      cases a
      exact .cons _ _ (ih _ b)
theorem script_of {l : OpenLaw} {n : Nat} (hn : l.most = some n) {P : Params} {h : Heap} {args : List WData} {vals : List Value}
    (hpre : l.row.toRowW.claim.pre args = true) (hwl : WellAll P h vals args) :
    ∃ a vs ns, vals = [Value.ref a] ∧ args = [WData.list (ns.map WData.int)] ∧ h.get? a = some { cls := .type "list", data := .seq vs.toArray } ∧ IntsAre vs ns ∧ ns.length ≤ n := by
  have hsh : WShape.hasAll [] args [.list .int] = true := (pre_splitW hpre).1
  have hc : l.pre.holds [] { args := args } = true := (pre_splitW hpre).2
  obtain ⟨d, r, rfl, h1, h2⟩ := hasAllW_cons hsh
  obtain rfl := hasAllW_nil h2
  obtain ⟨xs, rfl, h3⟩ := hasW_list h1
  obtain ⟨ns, rfl⟩ := items_int h3
  have hlen : ns.length ≤ n := by
    unfold OpenLaw.pre at hc
    have h4 : (WTm.not (.lt (.lit (.int (n : Int))) (.len (.arg 0)))).holds [] { args := [.list (ns.map .int)] } = true := by
      have h4 := (holds_andW hc).1
      rw [hn] at h4
      exact h4
    have h5 := condW_of h4 (w_not (w_lt w_lit (w_len_list (w_arg rfl))))
    rw [List.length_map] at h5
    refine Nat.le_of_not_lt fun q => ?_
    have q' : (n : Int) < ((ns.length : Nat) : Int) := by lia
    first
      | (rw [decide_eq_true q'] at h5; exact absurd h5 (by decide))
      | (simp at h5; lia)
  cases hwl with
  | cons w1 w2 =>
    cases w2
    cases w1 with
    | list ho hall => exact ⟨_, _, ns, rfl, rfl, ho, ints_of_wellAll ns _ hall, hlen⟩
theorem post_true (l : OpenLaw) (args : List WData) : l.row.toRowW.claim.post args (.bool true) args = true :=
  postW_of (r := l.row.toRowW) (X := (true == true))
    (show WShape.has [] (.bool true) .bool = true by first | rfl | decide | simp [WShape.has, WShape.arms, WShape.armsAll])
    (show (WTm.eq .res (.lit (.bool true))).value [] { args := args, res := some (.bool true), after := args } = some (.bool (true == true)) from w_eq_bool (w_res rfl) w_lit) rfl
theorem attach_call {l : OpenLaw} {n : Nat} {q : Program} {loose : List Str} {XP : (Str → Option Value) → Heap → Prop} {YP : World → Heap → Prop} {d : DefRec}
    (hn : l.most = some n) (hdf : d.params.defaults = [])
    (call : ∀ (w : World) (s₀ s₁ : Shared) (mg mb : Str → Option Value) (fa : Addr) (o : Obj) (pm cd doc : Value) (a : Addr) (vs : List Value) (ns : List Int),
      Ground q loose [] XP w s₀ mg mb s₁.heap → YP w s₁.heap →
      s₁.heap.get? fa = some o → o.data = .func (docDef d.name d.params d.body d.scope pm cd doc) → s₁.heap.CodeRec cd d.name → mg d.name = some (.ref fa) →
      s₁.heap.get? a = some { cls := .type "list", data := .seq vs.toArray } → IntsAre vs ns → ns.length ≤ n → s₁.gens = #[] →
      codeAny (model l.prog w) callerA (.call (.ref fa) ⟨[.ref a], []⟩) (fun r s' => r = .ok (.ret (.bool true)) ∧ OldK s₁.heap s'.heap ∧ s'.os = s₁.os ∧ AllBare s'.gens) s₁) :
    WalkO q loose XP YP l.row.toRowW d [] (fun f vs => PySem.call f vs) := by
  intro w s₀ s₁ mg mb G Y fa o pm cd doc dV kV ho hd hcd hD hmg hg args vals as hpre hlay hrd hwl hlo
  obtain rfl : dV = .none := Dflts.none hD hdf
  obtain rfl : kV = .none := Dflts.noKw hD
  obtain ⟨a, vs, ns, rfl, rfl, hobj, hints, hlen⟩ := script_of hn hpre hwl
  refine enter_call (codeAny_mono (call w s₀ s₁ mg mb fa o pm cd doc a vs ns G Y ho (fd_plain hd) hcd hmg hobj hints hlen hg) fun r s' hq => ?_)
  obtain ⟨rfl, h2, h3, h4⟩ := hq
  exact ⟨.inl ⟨.bool true, .bool true, [], rfl, fun _ => rfl, .bool true, post_true l _, fun _ => ⟨List.Pairwise.nil, fun _ hm => (nomatch hm)⟩⟩, h2, h3, h4⟩
section
variable {prog : Program} {w : World} {A : Around} {E : Value → Shared → Prop} {s : Shared} {K : Frag}
def ledger (h : Heap) (L d : Addr) : List (Addr × Obj) := (List.range h.objs.size).filterMap fun a => if a = L ∨ a = d then none else (h.get? a).map fun o => (a, o)
end
end Att
namespace L2
open PySem PySem.Spec PyProof.Rows
theorem vals_ints : ∀ {vs : List Value} {ns : List Int}, IntsAre vs ns → Vals (ns.map V.int) vs
  | _, _, .nil => .nil
  | _, _, .cons n t h => .cons ⟨t, rfl⟩ (vals_ints h)
def Only (H : Hp) : Prop := ∀ b, H b = none ∨ ∃ o xs, H b = some (.frz o (.lst xs))
theorem law_call {P : Program} {w : World} {K : PySem.W.Frag} {mg mb : Str → Option Value} {CX : CXT} {k : Nat} {fa a : Addr} {fd : FuncData} {x : Str} {sp : Sp} {s₁ : Shared} {vs : List Value} {ns : List Int}
    (KX : K.In s₁.heap) (hns : s₁.heap.Ns mainGlobals mg) (hb : s₁.heap.Ns builtinsNs mb) (hbb : ∀ x : Str, x ≠ "__name__" → mb x = bootBuiltins x) (hlim : s₁.heap.NoLimit) (hg : s₁.gens = #[])
    (ha : s₁.heap.get? a = some { cls := .type "list", data := .seq vs.toArray }) (hi : IntsAre vs ns) (hl : ns.length ≤ sizeLine) (hr : Room k callerA)
    (F : ∀ base : Heap, K.In base → base.Ns mainGlobals mg → FnOk P w K mg base CX k fa fd [x] sp) (hbind : ∀ (s : Shared) (u : Value), BindsTo s fd ⟨[u], []⟩ [(x, u)])
    (hsp : ∀ H : Hp, Only H → SqL K H a (ns.map V.int) → sp [.ref a] H (fun v _ => v = .bl true) fun _ _ _ => False)
    (hCX : ∀ H e s', CX [] H s₁ (fun _ _ _ => False) e s' → False) :
    codeAny (model P w) callerA (.call (.ref fa) ⟨[.ref a], []⟩) (fun r s' => r = .ok (.ret (.bool true)) ∧ OldK s₁.heap s'.heap ∧ s'.os = s₁.os ∧ AllBare s'.gens) s₁ := by
  have rv := vals_ints hi
  have lenV := hi.length
  have core : ∀ H : Hp, Only H → SqL K H a (ns.map V.int) → HOk P w H s₁.heap → (∀ b, H b ≠ none → b = a) → (H a ≠ none → K.lookup a = none) →
      codeAny (model P w) callerA (.call (.ref fa) ⟨[.ref a], []⟩) (fun r s' => r = .ok (.ret (.bool true)) ∧ OldK s₁.heap s'.heap ∧ s'.os = s₁.os ∧ AllBare s'.gens) s₁ := by
    intro H hO hS hok hA hK
    have base_of : ∀ {b : Addr} {o : Obj}, s₁.heap.get? b = some o → H b = none → (hidT s₁.heap H).get? b = some o := fun e n => hidT_get e n
    have noA : ∀ {b : Addr} {o : Obj} {es : Array DictEntry} {ep : Nat}, s₁.heap.get? b = some o → o.data = .dict es ep → H b = none := fun {b o es ep} e d => by
      cases q : H b with
      | none => rfl
      | some u =>
        have e' : b = a := hA b (by rw [q]; simp)
        subst e'
        rw [ha] at e; cases e
        have d' : Data.seq vs.toArray _ = Data.dict es ep := d
        cases d'
    have nsK : ∀ {b : Addr} {m : Str → Option Value}, s₁.heap.Ns b m → (hidT s₁.heap H).Ns b m := fun {b m} ⟨o, es, ep, e, d, r⟩ => ⟨o, es, ep, base_of e (noA e d), d, r⟩
    have hKb : K.In (hidT s₁.heap H) := fun b o e => base_of (KX b o e) (by
      cases q : H b with
      | none => rfl
      | some u =>
        have e' : b = a := hA b (by rw [q]; simp)
        subst e'
        rw [hK (by rw [q]; simp)] at e; cases e)
    have hM : Mod K mg (hidT s₁.heap H) := ⟨hKb, nsK hns, ⟨mb, nsK hb, hbb⟩, let ⟨mc, h1, h2⟩ := hlim; ⟨mc, nsK h1, h2⟩⟩
    have e0 : Env0 P w K mg (hidT s₁.heap H) callerA [] s₁ H := ⟨rfl, hM, fun b o e => of_hidT e, Nat.le_of_eq (hidT_size _ _), trivial, fun b hb => absurd (show b ∈ ([] : List Addr) from hb) (by simp), hok, .of_eq hg⟩
    refine codeAny_mono ((F _ hKb (nsK hns)).run callerA [] s₁ H ⟨[.ref a], []⟩ [.ref a] [.ref a] _ _ hr e0 (hbind s₁ (.ref a)) (.cons rfl .nil) (hsp H hO hS)) fun r s' h => ?_
    cases r with
    | error e => exact (hCX H e s' h).elim
    | ok fl =>
      cases fl with
      | next => exact False.elim h
      | brk => exact False.elim h
      | cont => exact False.elim h
      | ret u =>
        obtain ⟨v, H', os, bare, un, hok', r', q⟩ := h
        have q' : v = .bl true := q
        subst q'
        obtain rfl : u = Value.bool true := r'
        refine ⟨rfl, OldK.of_keep fun b o e => ?_, os, bare⟩
        cases q : H b with
        | none => exact un.keep b o e q (by intro z; exact absurd (show b ∈ ([] : List Addr) from z) (by simp)) (by simp)
        | some u =>
          rcases hO b with z | ⟨ob, xs, z⟩
          · rw [q] at z; cases z
          · have z2 := un.frzs b ob _ z
            obtain ⟨e1, _⟩ := hok b _ z
            obtain ⟨e2, _⟩ := hok' b _ z2
            rw [e] at e1; cases e1
            exact e2
  cases hk : K.lookup a with
  | some o =>
    have e := KX a o hk
    rw [ha] at e
    cases e
    refine core (fun _ => none) (fun _ => .inl rfl) (.inr ⟨_, vs.toArray, _, hk, rfl, rfl, rfl, by rw [List.size_toArray, lenV]; exact hl, by simpa using rv⟩) (fun b u z => by have z' : (none : Option HO) = some u := z; cases z') (fun b z => absurd rfl z) fun z => absurd rfl z
  | none =>
    refine core (fun b => if b = a then some (.frz { cls := .type "list", data := .seq vs.toArray } (.lst (ns.map V.int))) else none) (fun b => ?_) (.inl (.inr ⟨{ cls := .type "list", data := .seq vs.toArray }, if_pos rfl⟩)) (fun b u z => ?_) (fun b z => ?_) fun _ => hk
    · by_cases hb : b = a
      · exact .inr ⟨_, _, if_pos hb⟩
      · exact .inl (if_neg hb)
    · by_cases hb : b = a
      · have z' := (if_pos hb).symm.trans z
        cases z'
        subst hb
        exact ⟨ha, by rw [List.length_map]; exact hl, vs, _, rv, ha⟩
      · have z' := (if_neg hb).symm.trans z
        cases z'
    · by_cases hb : b = a
      · exact hb
      · exact absurd (if_neg hb) z
end L2
namespace L2
open PySem PySem.Spec PyProof.Rows
theorem walk_of {l : PySem.W.OpenLaw} {n k : Nat} {q : Program} {loose : List Str} {XP : (Str → Option Value) → Heap → Prop} {YP : World → Heap → Prop} {d : DefRec} {K : Params → PySem.W.Frag} {CX : World → CXT} {sp : World → Sp} {x : Str}
    (hn : l.most = some n) (hn2 : n ≤ sizeLine) (hdf : d.params.defaults = []) (hr : Room k callerA)
    (hY : ∀ (w : World) (h : Heap), YP w h → (K w.params).In h)
    (F : ∀ (w : World) (mg : Str → Option Value) (fa : Addr) (h : Heap), (K w.params).In h → h.Ns mainGlobals mg → mg d.name = some (.ref fa) →
      ∃ fd : FuncData, (∀ (s : Shared) (u : Value), BindsTo s fd ⟨[u], []⟩ [(x, u)]) ∧
        ∀ base : Heap, (K w.params).In base → base.Ns mainGlobals mg → FnOk l.prog w (K w.params) mg base (CX w) k fa fd [x] (sp w))
    (hsp : ∀ (w : World) (H : Hp) (a : Addr) (ns : List Int), ns.length ≤ n → Only H → SqL (K w.params) H a (ns.map V.int) → sp w [.ref a] H (fun v _ => v = .bl true) fun _ _ _ => False)
    (hCX : ∀ (w : World) (H : Hp) (s : Shared) (e : Value) (s' : Shared), CX w [] H s (fun _ _ _ => False) e s' → False) :
    PySem.W.WalkO q loose XP YP l.row.toRowW d [] (fun f vs => PySem.call f vs) := by
  refine Att.attach_call hn hdf fun w s₀ s₁ mg mb fa o pm cd doc a vs ns G Y ho hd hcd hmg hobj hints hlen hg => ?_
  have KX := hY w _ Y
  obtain ⟨fd, hb, hF⟩ := F w mg fa _ KX G.T.g hmg
  exact law_call KX G.T.g G.T.b G.T.builtins G.T.nolimit hg hobj hints (Nat.le_trans hlen hn2) hr hF hb (fun H hO hS => hsp w H a ns hlen hO hS) fun H e s' => hCX w H s₁ e s'
end L2
namespace L2
open PySem PySem.Spec PyProof.Rows
def defArgs (s : Stmt) : Arguments := match s with
  | .FunctionDef _ a _ _ _ _ _ _ _ _ => a
  | _ => { posonlyargs := [], args := [], vararg := none, kwonlyargs := [], kw_defaults := [], kwarg := none, defaults := [] }
def defBody (s : Stmt) : List Stmt := match s with
  | .FunctionDef _ _ b _ _ _ _ _ _ _ => b
  | _ => []
def defScope (s : Stmt) : Scope := match s with
  | .FunctionDef _ _ _ _ _ _ sc _ _ _ => sc
  | _ => { kind := .function, names := [], isGenerator := false, isCoroutine := false }
abbrev CX0 : CXT := fun _ _ _ _ _ _ => False
abbrev E0 : XK := fun _ _ _ => False
theorem pass0 {X : Cx} : Passes CX0 X E0 := fun _ _ _ _ _ _ _ h => h.elim
structure Fun (K : PySem.W.Frag) (x qual : Str) (st : Stmt) (f : Addr) (fd : FuncData) : Prop where
  ex : ∃ (oc : Value) (od : Option Addr) (kV doc pm : Value) (an : Option Addr) (cdv ct : Value) (osl : Array (Option Value)),
    fd = PySem.W.fnOf x qual (defArgs st) (defBody st) (defScope st) .none kV doc pm an cdv ct ∧ K.lookup f = some ⟨oc, od, .func fd, osl⟩ ∧ PySem.W.codeIn K cdv qual = true
  kp : PySem.W.keepIn K (.ref f) = true
section
variable {P : Program} {w : World} {K : PySem.W.Frag} {mg : Str → Option Value} {base : Heap}
theorem Fun.ok {x qual : Str} {st : Stmt} {f : Addr} {fd : FuncData} {N ps : List Str} {k : Nat} {sp : Sp} (F : Fun K x qual st f fd) (S : FnScope N ps (defScope st)) (len : ∀ vs H Q E, sp vs H Q E → vs.length = ps.length)
    (hbody : ∀ (cdv : Value) (A : Around) (outer : List Env) (s : Shared) (H : Hp) (vs : List V) (Q : VK) (E : XK), Room k (A.deeper (envOfC qual (defScope st) s.heap.objs.size f cdv)) → sp vs H Q E →
      ∃ t, PSs (cxOf CX0 P w K mg base N qual (defScope st) f cdv A outer s H E).nox (defBody st) t ∧ t { nx := fun _ H' => Q .non H', rt := Q } (start N vs) H) : FnOk P w K mg base CX0 (k + 1) f fd ps sp := by
  obtain ⟨oc, od, kV, doc, pm, an, cdv, ct, osl, rfl, lk, hcd⟩ := F.ex
  refine fn_of lk hcd S len fun A outer s H vs Q E hr hsp => ?_
  obtain ⟨t, h, q⟩ := hbody cdv A outer s H vs Q E hr hsp
  exact ⟨t, h.nox, q⟩
theorem Fun.binds {x qual : Str} {st : Stmt} {f : Addr} {fd : FuncData} {ps : List Str} (F : Fun K x qual st f fd)
    (h : ∀ (kV doc pm : Value) (an : Option Addr) (cdv ct : Value) (us : List Value), us.length = ps.length → bindArgs (PySem.W.fnOf x qual (defArgs st) (defBody st) (defScope st) .none kV doc pm an cdv ct) ⟨us, []⟩ = pure (ps.zip us)) : Binds K fd ps [] := by
  obtain ⟨oc, od, kV, doc, pm, an, cdv, ct, osl, rfl, lk, hcd⟩ := F.ex
  exact .all (h kV doc pm an cdv ct)
theorem fun_mk {x qual : Str} {st : Stmt} {f : Addr} {oc : Value} {od an : Option Addr} {osl : Array (Option Value)} {kV doc pm cdv ct : Value} (l : K.lookup f = some ⟨oc, od, .func (PySem.W.fnOf x qual (defArgs st) (defBody st) (defScope st) .none kV doc pm an cdv ct), osl⟩)
    (c : PySem.W.codeIn K cdv qual = true) (k : PySem.W.keepIn K (.ref f) = true) : Fun K x qual st f (PySem.W.fnOf x qual (defArgs st) (defBody st) (defScope st) .none kV doc pm an cdv ct) := ⟨⟨oc, od, kV, doc, pm, an, cdv, ct, osl, rfl, l, c⟩, k⟩
end
theorem small1000 {n : Nat} (h : n ≤ 1000) : n < sizeLine := Nat.lt_of_le_of_lt h (by decide)
section
variable {X : Cx}
theorem pv (i : Nat) {x : Str} {pos : Pos} (hN : X.N[i]? = some x := by rfl) (hv : Vis X.env.scope x := by first | exact Or.inl rfl | exact Or.inr (Or.inl rfl) | exact Or.inr (Or.inr rfl)) (hd : (x == ("__debug__" : Str)) = false := by decide)
    (hcd : (x == ("__classdict__" : Str)) = false := by decide) : PE X (.Name x pos) (tVar i) := pe_var hN hv hd hcd
end
theorem iteF {A B : Prop} (h : B) : if false = true then A else B := by
  rw [if_neg Bool.false_ne_true]
  exact h
theorem iteT {A B : Prop} (h : A) : if true = true then A else B := by
  rw [if_pos rfl]
  exact h
theorem ite2 {c A B : Prop} [Decidable c] (h1 : c → A) (h2 : ¬ c → B) : if c then A else B := by
  by_cases h : c
  · rw [if_pos h]
    exact h1 h
  · rw [if_neg h]
    exact h2 h
def Same (H H' : Hp) : Prop := ∀ b o, H b = some o → H' b = some o
theorem Same.refl (H : Hp) : Same H H := fun _ _ h => h
end L2
set_option maxHeartbeats 4000000
namespace L2
open PySem PySem.Spec PyProof.Rows
section
variable {X : Cx} {pins : List (Addr × Obj)} {σ : St} {H : Hp} {s : Shared}
structure Own (X : Cx) (pins : List (Addr × Obj)) (H : Hp) (C : Addr) : Prop where
  no : H C = none
  ne : C ≠ X.env.locals
  ab : X.s₀.heap.objs.size ≤ C
  ce : ∀ x c, X.env.cells.lookup x = some c → c ≠ C
  pi : ∀ p ∈ X.pn ++ pins, p.1 ≠ C
end
end L2
namespace L2
open PySem PySem.Spec PyProof.Rows
section
variable {prog : Program} {w : World} {A : Around} {R : Result → Shared → Prop} {s : Shared}
end
section
variable {X : Cx} {pins : List (Addr × Obj)} {σ : St} {H : Hp} {s : Shared}
end
end L2
namespace L2
open PySem PySem.Spec PyProof.Rows
end L2
namespace L2
open PySem PySem.Spec PyProof.Rows
section
variable {X : Cx}
def CDivB (_ j : Int) : Prop := 0 < j ∧ j < 100000000000000000000000000000000000000000000000000000000000000
theorem op_fdivB : OpR X (binaryOp .FloorDiv) (rI CDivB fun i j => .int (i / j)) := opI fun i j _ _ _ _ _ hc q => by
  have h1 : (0 : Int) < j := hc.1
  have h2 : j < 2 ^ 250 := Int.lt_trans hc.2 (by decide)
  refine floordiv_int (by lia) (by rw [Int.fdiv_eq_ediv_of_nonneg i (by lia)]; exact q) (.inl (PyProof.noPylong_of_log2 ?_))
  have h3 : j.natAbs < 2 ^ 250 := by
    have : ((j.natAbs : Nat) : Int) < ((2 ^ 250 : Nat) : Int) := by
      rw [Int.natAbs_of_nonneg (Int.le_of_lt h1)]
      exact h2
    exact Int.ofNat_lt.mp this
  have h4 : j.natAbs ≠ 0 := by lia
  exact Nat.lt_trans ((Nat.log2_lt h4).mpr h3) (by decide)
theorem call_isinst : CallR X (.builtin "isinstance") (fun xs H Q => ∃ x cv c t b, xs = [x, cv] ∧ RelV cv c ∧ TyOf X.K H x t ∧ PySem.W.kitOne X.K t c = some b ∧ Q (.bl b) H) := by
  intro pins s σ H xs us Q I r h
  obtain ⟨x, cv, c, t, b, rfl, rc, ty, k, q⟩ := h
  obtain ⟨u, w', rfl, r1, r2⟩ := vals2 r
  have e : w' = c := by
    cases cv with
    | non => exact r2.trans rc.symm
    | bl y => exact r2.trans rc.symm
    | ref y => exact r2.trans rc.symm
    | ty y => exact r2.trans rc.symm
    | int y =>
      obtain ⟨t1, rfl⟩ := rc
      exfalso
      unfold PySem.W.kitOne PySem.W.kitCls at k
      cases ty <;> simp at k
    | str y =>
      obtain ⟨t1, rfl⟩ := rc
      exfalso
      unfold PySem.W.kitOne PySem.W.kitCls at k
      cases ty <;> simp at k
    | byt y =>
      obtain ⟨t1, rfl⟩ := rc
      exfalso
      unfold PySem.W.kitOne PySem.W.kitCls at k
      cases ty <;> simp at k
    | flt y =>
      obtain ⟨t1, rfl⟩ := rc
      exfalso
      unfold PySem.W.kitOne PySem.W.kitCls at k
      cases ty <;> simp at k
  subst e
  exact isinst_ok I r1 ty k fun tk => ⟨.bl b, H, I.tok tk, rfl, q⟩
end
mutual
inductive DatV (K : PySem.W.Frag) (H : Hp) : V → PyData → Prop
  | non : DatV K H .non .none
  | bl (b) : DatV K H (.bl b) (.bool b)
  | int (i) : DatV K H (.int i) (.int i)
  | str (x) : DatV K H (.str x) (.str x)
  | lst {a xs ds} : SqL K H a xs → DatVs K H xs ds → DatV K H (.ref a) (.list ds)
  | tup {a xs ds} : SqT K H a xs → DatVs K H xs ds → DatV K H (.ref a) (.tuple ds)
inductive DatVs (K : PySem.W.Frag) (H : Hp) : List V → List PyData → Prop
  | nil : DatVs K H [] []
  | cons {x xs d ds} : DatV K H x d → DatVs K H xs ds → DatVs K H (x :: xs) (d :: ds)
end
section
variable {X : Cx} {pins : List (Addr × Obj)} {σ : St} {H : Hp} {s : Shared}
mutual
theorem DatV.reads (I : Inv X pins σ H s) : ∀ {x : V} {d : PyData} {u : Value}, DatV X.K H x d → RelV x u → ∃ as, Reads s.heap u d as
  | _, _, _, .non, r => by cases r; exact ⟨_, .none⟩
  | _, _, _, .bl b, r => by cases r; exact ⟨_, .bool b⟩
  | _, _, _, .int i, r => by obtain ⟨t, rfl⟩ := r; exact ⟨_, .int i t⟩
  | _, _, _, .str x, r => by obtain ⟨t, rfl⟩ := r; exact ⟨_, .str x t⟩
  | _, _, _, .lst hq hs, r => by
    cases r
    obtain ⟨its, rv, pl, hz⟩ := I.list hq
    obtain ⟨as, ra⟩ := DatVs.reads I hs rv
    obtain ⟨o, e, c, n, d⟩ := pl.isList
    exact ⟨_, .list e c d (by simpa using ra)⟩
  | _, _, _, .tup hq hs, r => by
    cases r
    obtain ⟨its, rv, pl, hz⟩ := I.tuple hq
    obtain ⟨as, ra⟩ := DatVs.reads I hs rv
    obtain ⟨o, e, c, n, d⟩ := pl
    exact ⟨_, .tuple e c d (by simpa using ra)⟩
theorem DatVs.reads (I : Inv X pins σ H s) : ∀ {xs : List V} {ds : List PyData} {us : List Value}, DatVs X.K H xs ds → Vals xs us → ∃ as, ReadsAll s.heap us ds as
  | _, _, _, .nil, .nil => ⟨_, .nil⟩
  | _, _, _, .cons h t, .cons r rs => by
    obtain ⟨as, ra⟩ := DatV.reads I h r
    obtain ⟨bs, rb⟩ := DatVs.reads I t rs
    exact ⟨_, .cons ra rb⟩
end
end
section
variable {X : Cx}
def rEqD (K : PySem.W.Frag) (neg : Bool) : R2 := fun x y H Q => ∃ da db, DatV K H x da ∧ DatV K H y db ∧ da.canLay0 = true ∧ db.canLay0 = true ∧ min da.depth db.depth ≤ 64 ∧ Q (.bl (if neg then !PyData.eqv da db else PyData.eqv da db)) H
theorem op_eqD (hu : X.A.units + 64 < cLine) : OpR X (compareOp .Eq) (rEqD X.K false) := by
  intro pins s σ H x y v u Q I rx ry h
  obtain ⟨da, db, d1, d2, c1, c2, hd, q⟩ := h
  obtain ⟨as, ra⟩ := d1.reads I rx
  obtain ⟨bs, rb⟩ := d2.reads I ry
  exact SeqAt.compareEq_reads ra rb c1 c2 (by lia) ⟨.bl _, H, I, rfl, q⟩
theorem op_neD (hu : X.A.units + 64 < cLine) : OpR X (compareOp .NotEq) (rEqD X.K true) := by
  intro pins s σ H x y v u Q I rx ry h
  obtain ⟨da, db, d1, d2, c1, c2, hd, q⟩ := h
  obtain ⟨as, ra⟩ := d1.reads I rx
  obtain ⟨bs, rb⟩ := d2.reads I ry
  exact SeqAt.compareNe_reads ra rb c1 c2 (by lia) ⟨.bl _, H, I, rfl, q⟩
end
end L2
namespace L2
open PySem PySem.Spec PyProof.Rows
section
variable {X : Cx}
theorem get_list : PGet X (fun o i H Q => ∃ p xs j v, o = .ref p ∧ i = .int j ∧ 0 ≤ j ∧ SqL X.K H p xs ∧ atI xs j = some v ∧ Q v H) := by
  intro pins s σ H o i ov iv Q I r1 r2 h
  obtain ⟨p, xs, j, v, rfl, rfl, h0, hq, he, q⟩ := h
  cases r1
  obtain ⟨t, rfl⟩ := r2
  obtain ⟨its, r, pl, hz⟩ := I.list hq
  obtain ⟨k, h1, h2, h3, h4, h5⟩ := atI_get he
  obtain ⟨w, ew, rw'⟩ := r.get h2
  have hl := r.length
  have hn := line63
  have hj : j.toNat = k := by
    rw [seqIndex_of h0 h5] at h1
    exact Option.some.inj h1
  exact wpAny_getItem_list pl.isList h0 (by lia) (by rw [hj]; simpa using ew) ⟨v, H, I, rw', q⟩
theorem ps_mid {st : Stmt} {t : TS} (h : PS X st t) : PS X st (fun D σ H => ∃ M : St → Hp → Prop, t { D with nx := M } σ H ∧ ∀ σ' H', M σ' H' → D.nx σ' H') := by
  intro pins s σ H D I q
  obtain ⟨M, q1, q2⟩ := q
  refine thn (h pins s σ H _ I q1) fun f s' z => ?_
  cases f with
  | next => obtain ⟨σ', H', I', m⟩ := z; exact ⟨σ', H', I', q2 _ _ m⟩
  | brk => exact z
  | cont => exact z
  | ret v => exact z
end
end L2
namespace L2
open PySem PySem.Spec PyProof.Rows
theorem bt_list : bootBuiltins "list" = some (.type "list") := by decide +kernel
theorem bt_abs : bootBuiltins "abs" = some (.builtin "abs") := by decide +kernel
theorem bt_isinstance : bootBuiltins "isinstance" = some (.builtin "isinstance") := by decide +kernel
theorem bt_int : bootBuiltins "int" = some (.type "int") := by decide +kernel
theorem bt_bool : bootBuiltins "bool" = some (.type "bool") := by decide +kernel
theorem bt_tuple : bootBuiltins "tuple" = some (.type "tuple") := by decide +kernel
theorem bt_len : bootBuiltins "len" = some (.builtin "len") := by decide +kernel
theorem bt_enumerate : bootBuiltins "enumerate" = some (.type "enumerate") := by decide +kernel
end L2
namespace L2
open PySem PySem.Spec PyProof.Rows
section
variable {es : List Expr} {env : Env}
theorem se_Constant {c j p} : starEach (.Constant c j p :: es) env = (false, eval (.Constant c j p) env) :: starEach es env := by rfl
theorem se_Name {c p} : starEach (.Name c p :: es) env = (false, eval (.Name c p) env) :: starEach es env := by rfl
theorem se_BinOp {a o b p} : starEach (.BinOp a o b p :: es) env = (false, eval (.BinOp a o b p) env) :: starEach es env := by rfl
theorem se_UnaryOp {o b p} : starEach (.UnaryOp o b p :: es) env = (false, eval (.UnaryOp o b p) env) :: starEach es env := by rfl
theorem se_Call {a o b p} : starEach (.Call a o b p :: es) env = (false, eval (.Call a o b p) env) :: starEach es env := by rfl
theorem se_Subscript {a o p} : starEach (.Subscript a o p :: es) env = (false, eval (.Subscript a o p) env) :: starEach es env := by rfl
theorem se_Attribute {a o p} : starEach (.Attribute a o p :: es) env = (false, eval (.Attribute a o p) env) :: starEach es env := by rfl
theorem se_List {a p} : starEach (.List a p :: es) env = (false, eval (.List a p) env) :: starEach es env := by rfl
theorem se_Tuple {a k p} : starEach (.Tuple a k p :: es) env = (false, eval (.Tuple a k p) env) :: starEach es env := by rfl
theorem se_Dict {a k p} : starEach (.Dict a k p :: es) env = (false, eval (.Dict a k p) env) :: starEach es env := by rfl
theorem np_nil {pos : Pos} : (backTo pos (starEach [] env)).any (·.1) = false := by rfl
theorem np_cons {pos : Pos} {e : Expr} (hs : starEach (e :: es) env = (false, eval e env) :: starEach es env) (h : (backTo pos (starEach es env)).any (·.1) = false) : (backTo pos (starEach (e :: es) env)).any (·.1) = false := by
  rw [hs]
  exact h
end
end L2
namespace L2
open PySem PySem.Spec PyProof.Rows
section
variable {X : Cx} {pos : Pos}
end
end L2
namespace L2
open PySem PySem.Spec PyProof.Rows
section
variable {X : Cx}
def rInsert : V → List V → Hp → VK → Prop := fun x vs H Q => ∃ l xs i y, x = .ref l ∧ vs = [.int ((i : Nat) : Int), y] ∧ H l = some (.lst xs) ∧ i ≤ xs.length ∧ xs.length < 100000 ∧ Q .non (upd H l (.lst (xs.take i ++ [y] ++ xs.drop i)))
theorem mt_insert : MtM X "list.insert" rInsert := by
  intro pins s σ H x vs v us Q I rx rv h
  obtain ⟨l, xs, i, y, rfl, rfl, hH, hi, hz, q⟩ := h
  cases rx
  obtain ⟨u, w, rfl, ⟨t, rfl⟩, rw'⟩ := rv.two
  obtain ⟨z, its, n, r, hl, e⟩ := I.lstM hH
  have hs := sizeLine_eq
  have hfit : ¬ (!Builtin.List.listFitsIndex (i : Int)) = true := by
    have : Builtin.List.listFitsIndex (i : Int) = true := by
      unfold Builtin.List.listFitsIndex
      rw [Bool.and_eq_true]
      exact ⟨decide_eq_true (by lia), decide_eq_true (by lia)⟩
    rw [this]
    decide
  have hsz : its.toArray.size ≤ sizeLine := by
    rw [List.size_toArray, ← hl]
    exact z
  generalize hj : ((i : Nat) : Int) = j at hfit ⊢
  have M := AutoSeq1.list_insert_list_int_val_1 l its.toArray n j t w hfit hsz
  refine call_meets F.slot_list_insert ⟨_, e, rfl⟩ F.entry_list_insert (F.args_list_insert_3 _ _ _) M ⟨e, ?_⟩
  subst hj
  have hk : (if (i : Int) < 0 then ((i : Int) + ((its.toArray.size : Nat) : Int)).toNat else min (i : Int).toNat its.toArray.size) = i := by
    rw [if_neg (by lia), Int.toNat_natCast, List.size_toArray]
    lia
  refine ⟨.non, _, I.lset (f := fun xs => have k := if (i : Int) < 0 then ((i : Int) + ((xs.size : Nat) : Int)).toNat else min (i : Int).toNat xs.size; (xs.extract 0 k).push w ++ xs.extract k) (its' := its.take i ++ [w] ++ its.drop i) hH e ?_ (((r.take i).append (.cons rw' .nil)).append (r.drop i)) ?_, rfl, q⟩
  · dsimp only
    rw [hk]
    apply Array.toList_inj.mp
    simp [List.extract_eq_drop_take]
    rw [List.take_of_length_le (by rw [List.length_drop]; lia)]
  · simp
    lia
end
end L2
namespace L2
open PySem PySem.Spec PyProof.Rows
section
variable {X : Cx}
end
end L2
namespace L2
open PySem PySem.Spec PyProof.Rows
section
variable {X : Cx}
end
end L2
namespace L2
open PySem PySem.Spec PyProof.Rows
section
variable {X : Cx} {pins : List (Addr × Obj)} {σ : St} {H : Hp} {s : Shared} {h' : Heap}
theorem Inv.turned2 {t' : Nat} {e it : Addr} (I : Inv X pins σ H s) (k : ∀ b o, b ≠ e → b ≠ it → s.heap.get? b = some o → h'.get? b = some o) (fe : FpOk X pins H e) (fi : FpOk X pins H it) : Inv X pins σ H { s with heap := h', toks := t' } := by
  obtain ⟨e0, e1, e2, e3, e4, e5⟩ := fe
  obtain ⟨f0, f1, f2, f3, f4, f5⟩ := fi
  have nit : ∀ b u, H b = some u → b ≠ it := fun b u e z => by rw [z, f0] at e; cases e
  have nie : ∀ b u, H b = some u → b ≠ e := fun b u q z => by rw [z, e0] at q; cases q
  have kc : ∀ b o, b ∉ [e, it] → s.heap.get? b = some o → h'.get? b = some o := fun b o hc q => k b o (fun z => hc (by simp [z])) (fun z => hc (by simp [z])) q
  refine I.step (g' := s.gens) (d' := s.drawn) (ch := [e, it]) (fun b hb => ?_) (fun b o _ _ hc e _ => kc b o hc e) (fun b o _ _ hc e _ => ⟨o.slots, kc b o hc e⟩) (fun _ _ _ _ n => n)
    (fun b o hc e => ⟨o, kc b o hc e⟩) (fun _ _ e => e) (fun _ _ _ e => e) (fun b ps e => ⟨#[], by rw [e]; simp⟩) (fun m hm => ?_) (fun b u q => ?_) I.bare
  · rcases List.mem_cons.mp hb with z | z
    · subst z; exact ⟨e3, e1, e4, e5⟩
    · have z' : b = it := by simpa using z
      subst z'
      exact ⟨f3, f1, f4, f5⟩
  · obtain ⟨o, es, ep, ho, r⟩ := hm
    exact ⟨o, es, ep, k _ o (Ne.symm e1) (Ne.symm f1) ho, r⟩
  · refine (I.hok b u q).stay (fun c v hc z => k c v ?_ ?_ z) (fun _ z => z) fun _ _ z => z
    · rcases hc with z | z
      · rw [z]; exact nie b u q
      · exact nie c _ z
    · rcases hc with z | z
      · rw [z]; exact nit b u q
      · exact nit c _ z
end
def Ite (K : PySem.W.Frag) (a : Addr) : It :=
  ⟨fun i H => ∃ xs x, SqL K H a xs ∧ xs[i]? = some x, fun i H x H' => ∃ p v, x = .ref p ∧ H p = none ∧ H' = upd H p (.tup [.int ((i : Nat) : Int), v]) ∧ ∀ xs, SqL K H a xs → xs[i]? = some v, fun i H => ∃ xs, SqL K H a xs ∧ xs.length ≤ i⟩
theorem turn_enum {P : Program} {w : World} {K : PySem.W.Frag} {elts : List Expr} {x1} {tpos : Pos} (a e it : Addr) (hne : e ≠ it) : Turn P w K (.Tuple elts x1 tpos) (Ite K a) [e, it] e (fun i h => (∃ old, IsEnum h e it ((i : Nat) : Int) old) ∧ h.IsListIter it a i) where
  mem := by simp
  obj := fun i h st b hb => by
    obtain ⟨⟨old, h1⟩, h2⟩ := st
    rcases List.mem_cons.mp hb with z | z
    · subst z
      exact ⟨_, h1, fun v z => by
        have z' : Data.fields _ = Data.cell v := z
        cases z'⟩
    · have z' : b = it := by simpa using z
      subst z'
      obtain ⟨o, e, c, d⟩ := h2
      exact ⟨o, e, fun v z => by rw [d] at z; cases z⟩
  keep := fun i h h' st k => by
    obtain ⟨⟨old, h1⟩, h2⟩ := st
    exact ⟨⟨old, k e (by simp) _ h1⟩, h2.at fun o q => k it (by simp) o q⟩
  item := by
    intro X hP hw hK hc i pins s σ H E I hf st hg
    subst hP hw hK
    obtain ⟨⟨old, st1⟩, st2⟩ := st
    obtain ⟨xs, x, hq, hx⟩ := hg
    obtain ⟨its, rv, p, hz⟩ := I.list hq
    obtain ⟨u, hu, ru⟩ := rv.get hx
    have fe := hf e (by simp)
    have fi := hf it (by simp)
    have le : e < s.heap.objs.size := Heap.lt_size st1
    have li : it < s.heap.objs.size := by obtain ⟨_, q, _⟩ := id st2; exact Heap.lt_size q
    refine wpAny_pyNext_enum_item st1 st2 p.isList (x := u) (by simpa using hu) hne fun h' ho hit' hT hsz hk => ?_
    refine ⟨_, rfl, wpAny_letOwnedTupleGo_enum ho fun h2 he2 hs2 => ?_⟩
    replace hs2 : Heap.SameBut e h' h2 := hs2
    have hn : H s.heap.objs.size = none := I.hok.fresh (Nat.le_refl _)
    have I1 : Inv X pins σ (upd H s.heap.objs.size (.tup [.int ((i : Nat) : Int), x])) { s with heap := s.heap.push { cls := .type "tuple", data := .seq #[.int i s.toks, u] }, toks := s.toks } :=
      I.laid (fun b o q => Heap.get?_push_of_some _ q) (Nat.le_refl _) ⟨by show 2 ≤ sizeLine; decide, [.int i s.toks, u], .cons ⟨_, rfl⟩ (.cons ru .nil), ⟨_, Heap.get?_push_size _ rfl, rfl, _, rfl⟩⟩
    have ge : ∀ b, b < s.heap.objs.size → FpOk X pins H b → FpOk X pins (upd H s.heap.objs.size (.tup [.int ((i : Nat) : Int), x])) b := fun b hb f => ⟨by rw [upd_ne (Nat.ne_of_lt hb)]; exact f.1, f.2⟩
    have I2 := I1.turned2 (h' := h2) (t' := s.toks + 1) (e := e) (it := it) (fun b o n1 n2 q => by
      rw [hs2.2 b n1]
      rcases Heap.get?_push_cases q with ⟨z, z2⟩ | q
      · subst z z2
        exact hT
      · exact hk b o n1 n2 q) (ge e le fe) (ge it li fi)
    refine ⟨.ref s.heap.objs.size, _, I2, rfl, ⟨_, x, rfl, hn, rfl, fun ys hy => by rw [I.list_inj hy hq]; exact hx⟩, ⟨⟨u, he2⟩, hit'.at fun o q => (hs2.2 it hne.symm).trans q⟩, fun b hb => ?_⟩
    rcases List.mem_cons.mp hb with z | z
    · subst z; exact (ge b le fe).1
    · have z' : b = it := by simpa using z
      subst z'
      exact (ge b li fi).1
  done := by
    intro X hP hw hK hc i pins s σ H E I hf st hg
    subst hP hw hK
    obtain ⟨⟨old, st1⟩, st2⟩ := st
    obtain ⟨xs, hq, hx⟩ := hg
    obtain ⟨its, rv, p, hz⟩ := I.list hq
    have hl := rv.length
    exact wpAny_pyNext_enum_end (I.ok.hd hc) st1 st2 p.isList (by simp; lia) fun h' eb => ⟨rfl, I.turned2 (t' := s.toks) (fun b o n1 n2 q => eb b o n2 q) (hf e (by simp)) (hf it (by simp))⟩
  self := fun _ _ _ _ _ st h => by
    obtain ⟨⟨old, st1⟩, _⟩ := st
    exact wpAny_pyIter_enum st1 h
section
variable {X : Cx}
def iEnum (K : PySem.W.Frag) (ta : TA) : TI := fun σ H R => ta σ H fun vs H1 => ∃ a, vs = [.ref a] ∧ (∃ xs, SqL K H1 a xs) ∧ R (Ite K a) H1
theorem pi_enum {elts : List Expr} {x1} {tpos : Pos} {a : Expr} {ta : TA} {p pos : Pos} (hg : Gl X "enumerate") (hm : X.mg "enumerate" = none) (ha : PA X [a] ta) (hs : starEach [a] X.env = [(false, eval a X.env)] := by rfl) : PI X (.Tuple elts x1 tpos) (.Call (.Name "enumerate" p) [a] [] pos) (iEnum X.K ta) := by
  intro pins s σ H R I h
  refine Call_ (ld_blt I hg hm bt_enumerate (PyProof.Rows.callWith_type1 (thn (ha pos pins s σ H _ I h) fun us s1 zz244 => el5 zz244 fun vs H1 I1 r1 q1 => ?_) hs rfl))
  obtain ⟨a', e, ⟨xs, hq⟩, q⟩ := q1
  subst e
  obtain ⟨u, rfl, rx⟩ := vals1 r1
  cases rx
  obtain ⟨its, rv, pl, hz⟩ := I1.list hq
  refine call_enumerate_list pl.isList fun h' he hit hsz hk => ?_
  refine wpAny_pyIter_enum (s := { s1 with heap := h' }) he ?_
  have I2 : Inv X pins σ H1 { s1 with heap := h' } := I1.kept (t' := s1.toks) hk
  refine ⟨_, [s1.heap.objs.size + 1, s1.heap.objs.size], _, _, H1, rfl, I2, turn_enum a' _ _ (Nat.ne_of_gt (Nat.lt_succ_self _)), ⟨⟨.none, he⟩, hit⟩, fun b hb => ?_, q⟩
  rcases List.mem_cons.mp hb with z | z
  · subst z; exact I1.fpOk (Nat.le_succ _) (I1.hok.fresh (Nat.le_succ _))
  · have z' : b = s1.heap.objs.size := by simpa using z
    subst z'
    exact I1.fpOk (Nat.le_refl _) (I1.hok.fresh (Nat.le_refl _))
theorem ps_no {st : Stmt} : PS X st (fun _ _ _ => False) := fun _ _ _ _ _ _ h => h.elim
end
end L2
namespace L2
open PySem PySem.Spec PyProof.Rows
section
variable {X : Cx} {pins : List (Addr × Obj)} {σ : St} {H : Hp} {s : Shared}
end
end L2
namespace L2
open PySem PySem.Spec PyProof.Rows
section
variable {X : Cx} {pins : List (Addr × Obj)} {σ : St} {H : Hp} {s : Shared}
end
end L2
namespace L2
open PySem PySem.Spec PyProof.Rows
section
variable {X : Cx}
end
end L2
namespace L2
open PySem PySem.Spec PyProof.Rows
inductive TyOf2 (K : PySem.W.Frag) (H : Hp) : V → Value → Prop where
  | o {x : V} {t : Value} : TyOf K H x t → TyOf2 K H x t
  | f {a : Addr} {o : Obj} {kvs : List (List Key × V)} : H a = some (.frz o (.dT kvs)) → TyOf2 K H (.ref a) (.type "dict")
section
variable {X : Cx}
theorem call_isinst2 : CallR X (.builtin "isinstance") (fun xs H Q => ∃ x cv c t b, xs = [x, cv] ∧ RelV cv c ∧ TyOf2 X.K H x t ∧ PySem.W.kitOne X.K t c = some b ∧ Q (.bl b) H) := by
  intro pins s σ H xs us Q I r h
  obtain ⟨x, cv, c, t, b, rfl, rc, ty, k, q⟩ := h
  obtain ⟨u, w', rfl, r1, r2⟩ := vals2 r
  have e : w' = c := by
    cases cv with
    | non => exact r2.trans rc.symm
    | bl y => exact r2.trans rc.symm
    | ref y => exact r2.trans rc.symm
    | ty y => exact r2.trans rc.symm
    | int y =>
      obtain ⟨t1, rfl⟩ := rc
      exfalso
      unfold PySem.W.kitOne PySem.W.kitCls at k
      cases ty with
      | o ty => cases ty <;> simp at k
      | f e => simp at k
    | str y =>
      obtain ⟨t1, rfl⟩ := rc
      exfalso
      unfold PySem.W.kitOne PySem.W.kitCls at k
      cases ty with
      | o ty => cases ty <;> simp at k
      | f e => simp at k
    | byt y =>
      obtain ⟨t1, rfl⟩ := rc
      exfalso
      unfold PySem.W.kitOne PySem.W.kitCls at k
      cases ty with
      | o ty => cases ty <;> simp at k
      | f e => simp at k
    | flt y =>
      obtain ⟨t1, rfl⟩ := rc
      exfalso
      unfold PySem.W.kitOne PySem.W.kitCls at k
      cases ty with
      | o ty => cases ty <;> simp at k
      | f e => simp at k
  subst e
  cases ty with
  | o ty => exact isinst_ok I r1 ty k fun tk => ⟨.bl b, H, I.tok tk, rfl, q⟩
  | @f a o kvs ea =>
    cases (show u = Value.ref a from r1)
    obtain ⟨_, _, _, xs, _, o', es, ep, h1, h2, _⟩ := (show ObjOk X.prog X.w H s.heap a (.frz o (.dT kvs)) from I.hok a _ ea)
    exact PySem.W.kia_one PySem.W.kitx_dict I.kIn ⟨o', h1, h2.1⟩ k (fun z => nomatch z) fun tk => ⟨.bl b, H, I.tok tk, rfl, q⟩
end
end L2
namespace L2
open PySem PySem.Spec PyProof.Rows
section
variable {X : Cx}
end
end L2
namespace L2
open PySem PySem.Spec PyProof.Rows
section
variable {prog : Program} {w : World} {A : Around} {E : Value → Shared → Prop} {s : Shared}
end
section
variable {X : Cx}
end
end L2
namespace L2
open PySem PySem.Spec PyProof.Rows
section
variable {X : Cx} {pins : List (Addr × Obj)} {σ : St} {H : Hp} {s : Shared}
end
end L2
namespace L2
open PySem PySem.Spec PyProof.Rows
section
variable {prog : Program} {w : World} {A : Around} {E : Value → Shared → Prop} {s : Shared}
end
section
variable {prog : Program} {w : World} {A : Around} {R : Result → Shared → Prop} {I : Addr} {fp wr : List Addr} {n : Nat} {P : Nat → Value → Prop} {St : Nat → Heap → Prop}
end
section
variable {X : Cx}
end
end L2
namespace L2
open PySem PySem.Spec PyProof.Rows
section
variable {X : Cx} {pins : List (Addr × Obj)} {σ : St} {H : Hp} {s : Shared} {h' : Heap}
end
section
variable {X : Cx}
end
end L2
namespace L2
open PySem PySem.Spec PyProof.Rows
section
variable {X : Cx} {tg : Expr}
end
end L2
namespace L2
open PySem PySem.Spec PyProof.Rows
section
variable {prog : Program} {w : World} {A : Around} {R : Result → Shared → Prop} {I : Addr} {fp wr : List Addr} {n : Nat} {P : Nat → Value → Prop} {St : Nat → Heap → Prop}
end
section
variable {X : Cx}
end
end L2
namespace L2
open PySem PySem.Spec PyProof.Rows
section
variable {prog : Program} {w : World} {A : Around} {R : Result → Shared → Prop} {I : Addr} {fp wr : List Addr} {n : Nat} {P : Nat → Value → Prop} {St : Nat → Heap → Prop}
end
section
variable {X : Cx}
end
end L2
namespace My
open PySem L2
def Hd (H : Hp) (a l : Addr) : Prop := ∃ (ns : List Int) (p b c u v : Int), H l = some (.lst (ns.map V.int)) ∧ 0 ≤ p ∧ H a = some (.lst [.ref l, .int p, .int b, .int c, .int u, .int v])
def Kp (a : Addr) (H H' : Hp) : Prop := ∀ b o, H b = some o → b ≠ a → H' b = some o
theorem Kp.refl (a : Addr) (H : Hp) : Kp a H H := fun _ _ e _ => e
theorem Kp.trans {a : Addr} {H H1 H2 : Hp} (x : Kp a H H1) (y : Kp a H1 H2) : Kp a H H2 := fun b o e n => y b o (x b o e n) n
theorem ne_hand {H : Hp} {a l : Addr} {ns : List Int} {xs : List V} (hl : H l = some (.lst (ns.map V.int))) (ha : H a = some (.lst (.ref l :: xs))) : l ≠ a := ne_of hl ha (by
  intro e
  injection e with e
  cases ns with
  | nil => cases e
  | cons n r => injection e with e1; cases e1)
theorem Hd.at1 {H : Hp} {a l : Addr} (h : Hd H a l) : ∃ o, H a = some o := let ⟨_, _, _, _, _, _, _, _, e⟩ := h; ⟨_, e⟩
theorem Hd.at2 {H : Hp} {a l : Addr} (h : Hd H a l) : ∃ o, H l = some o := let ⟨_, _, _, _, _, _, e, _⟩ := h; ⟨_, e⟩
theorem Hd.ne {H : Hp} {a l p : Addr} (h : Hd H a l) (hp : H p = none) : p ≠ a ∧ p ≠ l := by
  obtain ⟨o, e⟩ := h.at1
  obtain ⟨o', e'⟩ := h.at2
  exact ⟨(ne_of_none e hp).symm, (ne_of_none e' hp).symm⟩
theorem Hd.wr {H : Hp} {a l p : Addr} {o : HO} (h : Hd H a l) (n1 : p ≠ a) (n2 : p ≠ l) : Hd (upd H p o) a l := by
  obtain ⟨ns, q, b, c, u, v, h1, h2, h3⟩ := h
  exact ⟨ns, q, b, c, u, v, by rw [upd_ne n2.symm]; exact h1, h2, by rw [upd_ne n1.symm]; exact h3⟩
theorem Hd.lay {H : Hp} {a l p : Addr} {o : HO} (h : Hd H a l) (hp : H p = none) : Hd (upd H p o) a l := h.wr (h.ne hp).1 (h.ne hp).2
theorem _root_.L2.Same.lay {p : Addr} {H H1 : Hp} {o : HO} (x : Same H H1) (h : H1 p = none) : Same H (upd H1 p o) := fun b u e => by
  have e1 := x b u e
  rw [upd_ne (ne_of_none e1 h)]; exact e1
theorem atI_ints {ns : List Int} {p : Int} (h0 : 0 ≤ p) (h1 : p < (ns.length : Int)) : ∃ z, atI (ns.map V.int) p = some (.int z) := by
  obtain ⟨n, rfl⟩ := Int.eq_ofNat_of_zero_le h0
  have hp : n < ns.length := by lia
  exact ⟨ns[n], atI_nat (by rw [List.getElem?_map, List.getElem?_eq_getElem hp]; rfl)⟩
def spHand (K : PySem.W.Frag) : Sp := fun vs H Q _ => ∃ (a : Addr) (ns : List Int), vs = [.ref a] ∧ SqL K H a (ns.map V.int) ∧ ∀ (p l : Addr) (H' : Hp), H p = none → H l = none → Hd H' p l → Same H H' → Q (.ref p) H'
def spNext : Sp := fun vs H Q _ => ∃ a l, vs = [.ref a] ∧ Hd H a l ∧ ∀ (r : Int) (H' : Hp), Hd H' a l → Kp a H H' → Q (.int r) H'
def spTake : Sp := fun vs H Q _ => ∃ a l, vs = [.ref a] ∧ Hd H a l ∧ ∀ (H' : Hp), Hd H' a l → Kp a H H' → Q .non H'
def spDraw : Sp := fun vs H Q _ => ∃ a l m, vs = [.ref a, .int m] ∧ Hd H a l ∧ 0 < m ∧ m < 100000000000000000000000000000000000000000000000000000000000000 ∧ ∀ (r : Int) (H' : Hp), 0 ≤ r → r < m → Hd H' a l → Kp a H H' → Q (.int r) H'
end My
namespace My
open PySem L2
def dEn (ks : List (List Int)) : List (List Key × V) := ks.map fun k => (k.map Sum.inl, V.bl true)
def dEm (ks : List (List Int × Int)) : List (List Key × V) := ks.map fun p => (p.1.map Sum.inl, V.int p.2)
def keyT (k : List Int) : PyData := .tuple (k.map PyData.int)
inductive DiU : HO → List (PyData × PyData) → Prop
  | t : DiU (.dT []) []
  | k (i j : Int) : DiU (.dK [(Sum.inl i, V.int j)]) [(.int i, .int j)]
  | f (o : Obj) (ks : List (List Int)) : DiU (.frz o (.dT (dEn ks))) ((.none, .none) :: ks.map fun k => (keyT k, .bool true))
mutual
inductive ThV (F : Addr → Prop) (H : Hp) : V → PyData → Prop
  | non : ThV F H .non .none
  | bl (b) : ThV F H (.bl b) (.bool b)
  | int (i) : ThV F H (.int i) (.int i)
  | str (x) : ThV F H (.str x) (.str x)
  | lst {a xs ds} : F a → H a = some (.lst xs) → ThVs F H xs ds → ThV F H (.ref a) (.list ds)
  | tup {a xs ds} : F a → H a = some (.tup xs) → ThVs F H xs ds → ThV F H (.ref a) (.tuple ds)
  | dic {a u kvs} : F a → H a = some u → DiU u kvs → ThV F H (.ref a) (.dict kvs)
inductive ThVs (F : Addr → Prop) (H : Hp) : List V → List PyData → Prop
  | nil : ThVs F H [] []
  | cons {x xs d ds} : ThV F H x d → ThVs F H xs ds → ThVs F H (x :: xs) (d :: ds)
end
mutual
theorem ThV.mv {F G : Addr → Prop} {H H' : Hp} (f : ∀ b o, F b → H b = some o → G b ∧ H' b = some o) : ∀ {v : V} {d : PyData}, ThV F H v d → ThV G H' v d
  | _, _, .non => .non
  | _, _, .bl b => .bl b
  | _, _, .int i => .int i
  | _, _, .str x => .str x
  | _, _, .lst n e t => .lst (f _ _ n e).1 (f _ _ n e).2 (ThVs.mv f t)
  | _, _, .tup n e t => .tup (f _ _ n e).1 (f _ _ n e).2 (ThVs.mv f t)
  | _, _, .dic n e t => .dic (f _ _ n e).1 (f _ _ n e).2 t
theorem ThVs.mv {F G : Addr → Prop} {H H' : Hp} (f : ∀ b o, F b → H b = some o → G b ∧ H' b = some o) : ∀ {vs : List V} {ds : List PyData}, ThVs F H vs ds → ThVs G H' vs ds
  | _, _, .nil => .nil
  | _, _, .cons x t => .cons (ThV.mv f x) (ThVs.mv f t)
end
theorem ThVs.same {F : Addr → Prop} {H H' : Hp} {v : List V} {d : List PyData} (t : ThVs F H v d) (s : Same H H') : ThVs F H' v d := t.mv fun b o z e => ⟨z, s b o e⟩
theorem ThVs.append {F : Addr → Prop} {H : Hp} {xs : List V} {ds : List PyData} {ys : List V} {es : List PyData} (t : ThVs F H xs ds) (y : ThVs F H ys es) : ThVs F H (xs ++ ys) (ds ++ es) := by
  induction xs generalizing ds with
  | nil => cases t; exact y
  | cons v xs ih =>
    cases t with
    | cons x t => exact .cons x (ih t)
theorem ThVs.len {F : Addr → Prop} {H : Hp} {xs : List V} {ds : List PyData} (t : ThVs F H xs ds) : xs.length = ds.length := by
  induction xs generalizing ds with
  | nil => cases t; rfl
  | cons v xs ih =>
    cases t with
    | cons x t => rw [List.length_cons, List.length_cons, ih t]
theorem ThVs.get {F : Addr → Prop} {H : Hp} : ∀ {xs : List V} {ds : List PyData} {i : Nat} {v : V}, ThVs F H xs ds → xs[i]? = some v → ∃ d, ds[i]? = some d ∧ ThV F H v d
  | _, _, _, _, .nil, e => by simp at e
  | _, _, 0, v, .cons (d := d) x _, e => by
    have e' := Option.some.inj e
    subst e'
    exact ⟨d, rfl, x⟩
  | _, _, i + 1, v, .cons _ t, e => ThVs.get (i := i) t e
theorem ThVs.at {F : Addr → Prop} {H : Hp} : ∀ {xs : List V} {ds : List PyData} {i : Nat} {d : PyData}, ThVs F H xs ds → ds[i]? = some d → ∃ v, xs[i]? = some v ∧ ThV F H v d
  | _, _, _, _, .nil, e => by simp at e
  | _, _, 0, d, .cons (x := v) x _, e => by
    have e' := Option.some.inj e
    subst e'
    exact ⟨v, rfl, x⟩
  | _, _, i + 1, v, .cons _ t, e => ThVs.at (i := i) t e
mutual
theorem ThV.dat {K : PySem.W.Frag} {F : Addr → Prop} {H : Hp} : ∀ {v : V} {d : PyData}, ThV F H v d → d.canLay0 = true → DatV K H v d
  | _, _, .non, _ => .non
  | _, _, .bl b, _ => .bl b
  | _, _, .int i, _ => .int i
  | _, _, .str x, _ => .str x
  | _, _, .lst _ e t, h => .lst (SqL.of e) (ThVs.dat t (by rw [PyData.canLay0] at h; exact h))
  | _, _, .tup _ e t, h => .tup (SqT.of e) (ThVs.dat t (by rw [PyData.canLay0] at h; exact h))
  | _, _, .dic _ _ _, h => by rw [PyData.canLay0] at h; cases h
theorem ThVs.dat {K : PySem.W.Frag} {F : Addr → Prop} {H : Hp} : ∀ {vs : List V} {ds : List PyData}, ThVs F H vs ds → PyData.canLayAll0 ds = true → DatVs K H vs ds
  | _, _, .nil, _ => .nil
  | _, _, .cons x t, h => by
    rw [PyData.canLayAll0, Bool.and_eq_true] at h
    exact .cons (ThV.dat x h.1) (ThVs.dat t h.2)
end
end My
namespace My
open PySem L2
structure DC where
  F : Addr → Prop
  hand : Option (Addr × Addr)
  H0 : Hp
def Kq (h : Option (Addr × Addr)) (H H' : Hp) : Prop := ∀ b o, H b = some o → (∀ q, h = some q → b ≠ q.1) → H' b = some o
def Hq (h : Option (Addr × Addr)) (H : Hp) : Prop := ∀ q, h = some q → Hd H q.1 q.2
section
variable {h : Option (Addr × Addr)} {H H1 H2 H' : Hp} {p : Addr} {o : HO}
theorem Kq.refl : Kq h H H := fun _ _ e _ => e
theorem Kq.trans (a : Kq h H H1) (b : Kq h H1 H2) : Kq h H H2 := fun c o e n => b c o (a c o e n) n
theorem Kq.same (s : Same H H') : Kq h H H' := fun b o e _ => s b o e
theorem Kq.fr {b : Addr} (k : Kq h H H') (q : Hq h H') (e : H' b = none) : H b = none := by
  cases z : H b with
  | none => rfl
  | some o =>
    by_cases c : ∀ p, h = some p → b ≠ p.1
    · rw [k b o z c] at e; cases e
    · refine absurd (fun p hp hb => ?_) c
      obtain ⟨o', e'⟩ := (q p hp).at1
      rw [hb, e'] at e; cases e
theorem Kq.lay (hp : H p = none) : Kq h H (upd H p o) := Kq.same ((Same.refl H).lay hp)
theorem Hq.lay (q : Hq h H) (hp : H p = none) : Hq h (upd H p o) := fun z hz => (q z hz).lay hp
end
inductive Rws (G F : Addr → Prop) (H : Hp) : List Addr → List (List PyData) → Prop
  | nil : Rws G F H [] []
  | cons {b vs as ds dss} : G b → H b = some (.lst vs) → ThVs F H vs ds → Rws G F H as dss → Rws G F H (b :: as) (ds :: dss)
theorem Rws.mv {G F G' F' : Addr → Prop} {H H' : Hp} {as : List Addr} {dss : List (List PyData)} (t : Rws G F H as dss) (f : ∀ b o, F b → H b = some o → F' b ∧ H' b = some o) (g : ∀ b o, G b → H b = some o → G' b ∧ H' b = some o) : Rws G' F' H' as dss := by
  induction t with
  | nil => exact .nil
  | cons x e y _ ih => exact .cons (g _ _ x e).1 (g _ _ x e).2 (y.mv f) ih
theorem Rws.mvl {G F G' F' : Addr → Prop} {H H' : Hp} {as : List Addr} {dss : List (List PyData)} (t : Rws G F H as dss) (f : ∀ b o, F b → H b = some o → F' b ∧ H' b = some o) (g : ∀ b ys, G b → H b = some (.lst ys) → G' b ∧ H' b = some (.lst ys)) : Rws G' F' H' as dss := by
  induction t with
  | nil => exact .nil
  | cons x e y _ ih => exact .cons (g _ _ x e).1 (g _ _ x e).2 (y.mv f) ih
def DiAt (H : Hp) (a : Addr) (ks : List (List Int)) : Bool → Prop
  | false => H a = some (.dT (dEn ks))
  | true => ∃ o, H a = some (.frz o (.dT (dEn ks)))
theorem DiAt.mv {H H' : Hp} {a : Addr} {ks : List (List Int)} {f : Bool} (h : DiAt H a ks f) (k : ∀ o, H a = some o → H' a = some o) : DiAt H' a ks f := by
  cases f with
  | false => exact k _ h
  | true => obtain ⟨o, h⟩ := h; exact ⟨o, k _ h⟩
theorem DiAt.ne {H : Hp} {a : Addr} {ks : List (List Int)} {f : Bool} (h : DiAt H a ks f) : H a ≠ none := by
  cases f with
  | false => exact fun q => by rw [show H a = _ from h] at q; cases q
  | true => obtain ⟨o, h⟩ := h; exact fun q => by rw [h] at q; cases q
def DmAt (H : Hp) (a : Addr) (ks : List (List Int × Int)) : Bool → Prop
  | false => H a = some (.dT (dEm ks))
  | true => ∃ o, H a = some (.frz o (.dT (dEm ks)))
theorem DmAt.mv {H H' : Hp} {a : Addr} {ks : List (List Int × Int)} {f : Bool} (h : DmAt H a ks f) (k : ∀ o, H a = some o → H' a = some o) : DmAt H' a ks f := by
  cases f with
  | false => exact k _ h
  | true => obtain ⟨o, h⟩ := h; exact ⟨o, k _ h⟩
theorem DmAt.ne {H : Hp} {a : Addr} {ks : List (List Int × Int)} {f : Bool} (h : DmAt H a ks f) : H a ≠ none := by
  cases f with
  | false => exact fun q => by rw [show H a = _ from h] at q; cases q
  | true => obtain ⟨o, h⟩ := h; exact fun q => by rw [h] at q; cases q
inductive Sl where
  | no
  | sh (d : PyData)
  | ow (ds : List PyData)
  | bo (ds : List PyData)
  | hd
  | o2 (dss : List (List PyData))
  | b2 (dss : List (List PyData))
  | di (f : Bool) (ks : List (List Int))
  | dm (f : Bool) (kvs : List (List Int × Int))
  | bd (d : PyData)
  | ot (d : PyData)
abbrev Z (col : Addr → Nat) : Addr → Prop := fun b => col b = 0
abbrev Le (C : DC) : Addr → Prop := fun b => C.H0 b ≠ none ∧ ∀ q, C.hand = some q → b ≠ q.1
abbrev Ow (C : DC) (col : Addr → Nat) (H : Hp) (i : Nat) : Addr → Prop := fun b => (col b = 2 * i + 3 ∧ C.H0 b = none) ∨ (col b = 0 ∧ ∃ xs, H b = some (.tup xs))
def SlR (C : DC) (col : Addr → Nat) (H : Hp) (i : Nat) (o : Option V) : Sl → Prop
  | .no => True
  | .sh d => ∃ v, o = some v ∧ ThV (Z col) H v d
  | .ow ds => ∃ a vs, o = some (.ref a) ∧ col a = 2 * i + 3 ∧ C.H0 a = none ∧ H a = some (.lst vs) ∧ ThVs (Z col) H vs ds
  | .bo ds => ∃ a vs, o = some (.ref a) ∧ col a ≤ 1 ∧ (∀ q, C.hand = some q → a ≠ q.1) ∧ H a = some (.lst vs) ∧ ThVs (Z col) H vs ds
  | .hd => ∃ q, C.hand = some q ∧ o = some (.ref q.1)
  | .o2 dss => ∃ a as, o = some (.ref a) ∧ (col a = 2 * i + 3 ∧ C.H0 a = none) ∧ H a = some (.lst (as.map V.ref)) ∧ (a :: as).Nodup ∧ Rws (fun b => col b = 2 * i + 3 ∧ C.H0 b = none) (Z col) H as dss
  | .b2 dss => ∃ a as, o = some (.ref a) ∧ (col a ≤ 1 ∧ ∀ q, C.hand = some q → a ≠ q.1) ∧ H a = some (.lst (as.map V.ref)) ∧ Rws (fun b => col b ≤ 1 ∧ ∀ q, C.hand = some q → b ≠ q.1) (Z col) H as dss
  | .di f ks => ∃ a, o = some (.ref a) ∧ col a = 2 * i + 3 ∧ C.H0 a = none ∧ DiAt H a ks f
  | .dm f ks => ∃ a, o = some (.ref a) ∧ col a = 2 * i + 3 ∧ C.H0 a = none ∧ DmAt H a ks f
  | .bd d => ∃ v, o = some v ∧ ThV (Le C) C.H0 v d
  | .ot d => ∃ v, o = some v ∧ ThV (Ow C col H i) H v d
inductive Pe where
  | v (v : V) (d : PyData)
  | n (a : Addr) (o : HO)
  | s (vs : List V) (ds : List PyData)
  | o (c : Nat) (as : List Addr) (dss : List (List PyData))
  | w (v : V) (d : PyData)
def PeR (C : DC) (col : Addr → Nat) (H : Hp) : Pe → Prop
  | .v v d => ThV (Z col) H v d
  | .n a o => col a ≤ 1 ∧ (∀ q, C.hand = some q → a ≠ q.1) ∧ H a = some o
  | .s vs ds => ThVs (Z col) H vs ds
  | .o c as dss => as.Nodup ∧ Rws (fun b => col b = 2 * c + 2 ∧ C.H0 b = none) (Z col) H as dss
  | .w v d => ThV (Le C) C.H0 v d
structure RelC (C : DC) (col : Addr → Nat) (ρ : List Sl) (σ : St) (P : List Pe) (H : Hp) : Prop where
  fresh : ∀ b, H b = none → col b = 0
  inF : ∀ b, col b = 0 → C.F b
  hnd : ∀ q, C.hand = some q → col q.1 = 1
  sl : ∀ i s, ρ[i]? = some s → SlR C col H i (σ[i]?).join s
  pd : ∀ p ∈ P, PeR C col H p
  kq : Kq C.hand C.H0 H
  hq : Hq C.hand H
  hq0 : Hq C.hand C.H0
  nf : (∀ b, C.H0 b = none → C.F b) ∧ ∀ b xs, C.H0 b = some (.tup xs) → C.F b
  len : ρ.length = σ.length
def Rel (C : DC) (ρ : List Sl) (σ : St) (P : List Pe) (H : Hp) : Prop := ∃ col, RelC C col ρ σ P H
section
variable {C : DC} {col col' : Addr → Nat} {ρ : List Sl} {σ : St} {P P' : List Pe} {H H' : Hp} {v : V} {d : PyData} {o : HO} {p : Addr}
theorem RelC.notH (r : RelC C col ρ σ P H) {b : Addr} (hb : col b ≠ 1) : ∀ q, C.hand = some q → b ≠ q.1 := fun q hq e => hb (e ▸ r.hnd q hq)
theorem RelC.mv (r : RelC C col ρ σ P H) (k : Kq C.hand H H') (q : Hq C.hand H') : RelC C col ρ σ P H' := by
  have mv0 : ∀ b o, Z col b → H b = some o → Z col b ∧ H' b = some o := fun b o z e => ⟨z, k b o e (r.notH (by rw [show col b = 0 from z]; decide))⟩
  refine ⟨fun b e => r.fresh b (k.fr q e), r.inF, r.hnd, fun i s e => ?_, fun p hp => ?_, r.kq.trans k, q, r.hq0, r.nf, r.len⟩
  · have h := r.sl i s e
    cases s with
    | no => trivial
    | sh d => obtain ⟨v, e1, t⟩ := h; exact ⟨v, e1, t.mv mv0⟩
    | ow ds => obtain ⟨a, vs, e1, c, n, e2, t⟩ := h; exact ⟨a, vs, e1, c, n, k a _ e2 (r.notH (by lia)), t.mv mv0⟩
    | bo ds => obtain ⟨a, vs, e1, c, n, e2, t⟩ := h; exact ⟨a, vs, e1, c, n, k a _ e2 n, t.mv mv0⟩
    | hd => exact h
    | o2 dss => obtain ⟨a, as, e1, c, e2, nd, t⟩ := h; exact ⟨a, as, e1, c, k a _ e2 (r.notH (by lia)), nd, t.mv mv0 fun b o g e => ⟨g, k b o e (r.notH (by have := g.1; lia))⟩⟩
    | b2 dss => obtain ⟨a, as, e1, c, e2, t⟩ := h; exact ⟨a, as, e1, c, k a _ e2 c.2, t.mv mv0 fun b o g e => ⟨g, k b o e g.2⟩⟩
    | di f ks => obtain ⟨a, e1, c, n, e2⟩ := h; exact ⟨a, e1, c, n, e2.mv fun o e => k a o e (r.notH (by lia))⟩
    | dm f ks => obtain ⟨a, e1, c, n, e2⟩ := h; exact ⟨a, e1, c, n, e2.mv fun o e => k a o e (r.notH (by lia))⟩
    | bd d => exact h
    | ot d =>
      obtain ⟨v, e1, t⟩ := h
      refine ⟨v, e1, t.mv fun b o g e => ?_⟩
      have e' : H' b = some o := k b o e (r.notH (by rcases g with g | g <;> (have := g.1; lia)))
      exact ⟨g.imp id fun ⟨c, xs, z⟩ => ⟨c, xs, by rw [e] at z; rw [e']; exact z⟩, e'⟩
  · have h := r.pd p hp
    cases p with
    | v v d => exact ThV.mv mv0 h
    | n a o => exact ⟨h.1, h.2.1, k a o h.2.2 h.2.1⟩
    | s vs ds => exact ThVs.mv mv0 h
    | o c as dss => exact ⟨h.1, h.2.mv mv0 fun b o g e => ⟨g, k b o e (r.notH (by have := g.1; lia))⟩⟩
    | w v d => exact h
theorem RelC.lay (r : RelC C col ρ σ P H) (hp : H p = none) : RelC C col ρ σ P (upd H p o) := r.mv (Kq.lay hp) (r.hq.lay hp)
theorem RelC.add (r : RelC C col ρ σ P H) {x : Pe} (t : PeR C col H x) : RelC C col ρ σ (x :: P) H :=
  { r with pd := fun p hp => (List.mem_cons.mp hp).elim (fun e => e ▸ t) (r.pd p) }
theorem RelC.push (r : RelC C col ρ σ P H) (t : ThV (Z col) H v d) : RelC C col ρ σ (.v v d :: P) H := r.add t
theorem RelC.sub (r : RelC C col ρ σ P H) (h : ∀ p ∈ P', p ∈ P) : RelC C col ρ σ P' H := { r with pd := fun p hp => r.pd p (h p hp) }
theorem Rel.sub (r : Rel C ρ σ P H) (h : ∀ p ∈ P', p ∈ P) : Rel C ρ σ P' H := let ⟨c, r⟩ := r; ⟨c, r.sub h⟩
theorem Rel.pop {x : Pe} (r : Rel C ρ σ (x :: P) H) : Rel C ρ σ P H := r.sub fun _ h => List.mem_cons_of_mem _ h
theorem RelC.tup {vs : List V} {ds : List PyData} (r : RelC C col ρ σ P H) (t : ThVs (Z col) H vs ds) (hp : H p = none) : RelC C col ρ σ (.v (.ref p) (.tuple ds) :: P) (upd H p (.tup vs)) :=
  (r.lay hp).push (.tup (r.fresh p hp) upd_same (t.same ((Same.refl H).lay hp)))
theorem RelC.lst {vs : List V} {ds : List PyData} (r : RelC C col ρ σ P H) (t : ThVs (Z col) H vs ds) (hp : H p = none) : RelC C col ρ σ (.v (.ref p) (.list ds) :: P) (upd H p (.lst vs)) :=
  (r.lay hp).push (.lst (r.fresh p hp) upd_same (t.same ((Same.refl H).lay hp)))
theorem RelC.recol (r : RelC C col ρ σ P H) {ρ' : List Sl} {σ' : St} (hl : ρ'.length = σ'.length) (f : ∀ b, H b = none → col' b = 0) (i : ∀ b, col' b = 0 → C.F b) (n : ∀ q, C.hand = some q → col' q.1 = 1) (z : ∀ b, col b = 0 → H b ≠ none → col' b = 0)
    (lo : ∀ b, col b ≤ 1 → H b ≠ none → col' b ≤ 1) (c2 : ∀ b c, col b = 2 * c + 2 → col' b = 2 * c + 2) (s : ∀ i s, ρ'[i]? = some s → SlR C col' H i (σ'[i]?).join s) : RelC C col' ρ' σ' P H := by
  have mv0 : ∀ b o, Z col b → H b = some o → Z col' b ∧ H b = some o := fun b o zz e => ⟨z b zz (by rw [e]; exact fun q => nomatch q), e⟩
  refine ⟨f, i, n, s, fun p hp => ?_, r.kq, r.hq, r.hq0, r.nf, hl⟩
  have h := r.pd p hp
  cases p with
  | v v d => exact ThV.mv mv0 h
  | n a o => exact ⟨lo a h.1 (by rw [h.2.2]; exact fun q => nomatch q), h.2⟩
  | s vs ds => exact ThVs.mv mv0 h
  | o c as dss => exact ⟨h.1, h.2.mv mv0 fun b o g e => ⟨⟨c2 b c g.1, g.2⟩, e⟩⟩
  | w v d => exact h
theorem RelC.freeze {i : Nat} {ds : List PyData} (r : RelC C col ρ σ P H) (e : ρ[i]? = some (.ow ds)) :
    ∃ a, (σ[i]?).join = some (.ref a) ∧ Rel C (ρ.set i (.sh (.list ds))) σ (.v (.ref a) (.list ds) :: P) H := by
  obtain ⟨a, vs, e1, c, n, e2, t⟩ := r.sl i _ e
  let col' : Addr → Nat := fun b => if b = a then 0 else col b
  have ca : col' a = 0 := if_pos rfl
  have cn : ∀ b, b ≠ a → col' b = col b := fun b hb => if_neg hb
  have z : ∀ b, col b = 0 → col' b = 0 := fun b hb => by
    by_cases q : b = a
    · rw [q]; exact ca
    · rw [cn b q]; exact hb
  have mv0 : ∀ b o, Z col b → H b = some o → Z col' b ∧ H b = some o := fun b o zz e => ⟨z b zz, e⟩
  have T : ThV (Z col') H (.ref a) (.list ds) := .lst ca e2 (t.mv mv0)
  have R : RelC C col' (ρ.set i (.sh (.list ds))) σ P H := by
    refine r.recol (by rw [List.length_set]; exact r.len) (fun b hb => z b (r.fresh b hb)) (fun b hb => ?_) (fun q hq => ?_) (fun b hb _ => z b hb) (fun b hb _ => ?_) (fun b c2 hb => by rw [cn b (fun q => by rw [q] at hb; lia)]; exact hb) fun j s es => ?_
    · by_cases q : b = a
      · rw [q]; exact r.nf.1 a n
      · rw [cn b q] at hb; exact r.inF b hb
    · rw [cn _ fun q' => by have := r.hnd q hq; rw [q'] at this; lia]; exact r.hnd q hq
    · by_cases q : b = a
      · rw [q, ca]; lia
      · rw [cn b q]; exact hb
    · by_cases hj : j = i
      · subst hj
        rw [List.getElem?_set] at es
        simp only [if_true] at es
        split at es
        · cases es; exact ⟨_, e1, T⟩
        · cases es
      · rw [List.getElem?_set_ne (Ne.symm hj)] at es
        have h := r.sl j s es
        cases s with
        | no => trivial
        | sh d => obtain ⟨v, e1, t⟩ := h; exact ⟨v, e1, t.mv mv0⟩
        | ow ds => obtain ⟨a', vs', e1', c', n', e2', t'⟩ := h; exact ⟨a', vs', e1', by rw [cn a' (fun q => by rw [q] at c'; lia)]; exact c', n', e2', t'.mv mv0⟩
        | bo ds => obtain ⟨a', vs', e1', c', n', e2', t'⟩ := h; exact ⟨a', vs', e1', by by_cases q : a' = a; { rw [q, ca]; lia }; { rw [cn a' q]; exact c' }, n', e2', t'.mv mv0⟩
        | hd => exact h
        | o2 dss => obtain ⟨a', as', e1', c', e2', nd', t'⟩ := h; exact ⟨a', as', e1', ⟨by rw [cn a' (fun q => by rw [q] at c'; lia)]; exact c'.1, c'.2⟩, e2', nd', t'.mv mv0 fun b o g e => ⟨⟨by rw [cn b (fun q => by have := g.1; rw [q] at this; lia)]; exact g.1, g.2⟩, e⟩⟩
        | b2 dss => obtain ⟨a', as', e1', c', e2', t'⟩ := h; exact ⟨a', as', e1', ⟨by by_cases q : a' = a; { rw [q, ca]; lia }; { rw [cn a' q]; exact c'.1 }, c'.2⟩, e2', t'.mv mv0 fun b o g e => ⟨⟨by by_cases q : b = a; { rw [q, ca]; lia }; { rw [cn b q]; exact g.1 }, g.2⟩, e⟩⟩
        | di f ks => obtain ⟨a', e1', c', n', e2'⟩ := h; exact ⟨a', e1', by rw [cn a' (fun q => by rw [q] at c'; lia)]; exact c', n', e2'⟩
        | dm f ks => obtain ⟨a', e1', c', n', e2'⟩ := h; exact ⟨a', e1', by rw [cn a' (fun q => by rw [q] at c'; lia)]; exact c', n', e2'⟩
        | bd d => exact h
        | ot d => obtain ⟨v, e1', t'⟩ := h; exact ⟨v, e1', t'.mv fun b o g e => ⟨g.imp (fun g => ⟨by rw [cn b (fun q => by rw [q] at g; have := g.1; lia)]; exact g.1, g.2⟩) fun g => ⟨z b g.1, g.2⟩, e⟩⟩
  exact ⟨a, e1, col', R.push T⟩
theorem RelC.store {i : Nat} (r : RelC C col ρ σ P H) (t : ThV (Z col) H v d) : RelC C col (ρ.set i (.sh d)) (σ.set i (some v)) P H := by
  refine { r with sl := fun j s es => ?_, len := by rw [List.length_set, List.length_set]; exact r.len }
  by_cases hj : j = i
  · subst hj
    rw [List.getElem?_set] at es
    simp only [if_true] at es
    split at es
    · rename_i hl
      cases es
      refine ⟨v, ?_, t⟩
      rw [List.getElem?_set, if_pos rfl, if_pos (by rw [← r.len]; exact hl)]; rfl
    · cases es
  · rw [List.getElem?_set_ne (Ne.symm hj)] at es
    rw [List.getElem?_set_ne (Ne.symm hj)]
    exact r.sl j s es
theorem RelC.own {i : Nat} {vs : List V} {ds : List PyData} (r : RelC C col ρ σ P H) (t : ThVs (Z col) H vs ds) (hp : H p = none) : Rel C (ρ.set i (.ow ds)) (σ.set i (some (.ref p))) P (upd H p (.lst vs)) := by
  let col' : Addr → Nat := fun b => if b = p then 2 * i + 3 else col b
  have ca : col' p = 2 * i + 3 := if_pos rfl
  have cn : ∀ b, b ≠ p → col' b = col b := fun b hb => if_neg hb
  have ne : ∀ b, H b ≠ none → b ≠ p := fun b hb q => hb (q ▸ hp)
  have mv0 : ∀ b o, Z col b → H b = some o → Z col' b ∧ upd H p (.lst vs) b = some o := fun b o zz e => by
    have q := ne b (by rw [e]; exact fun q => nomatch q)
    exact ⟨(cn b q).trans zz, by rw [upd_ne q]; exact e⟩
  have r1 := r.lay (o := .lst vs) hp
  have c0 : C.H0 p = none := r.kq.fr r.hq hp
  refine ⟨col', fun b hb => ?_, fun b hb => ?_, fun q hq => ?_, fun j s es => ?_, fun x hx => ?_, r1.kq, r1.hq, r.hq0, r.nf, by rw [List.length_set, List.length_set]; exact r.len⟩
  · have q : b ≠ p := fun q => by rw [q, upd_same] at hb; cases hb
    rw [cn b q]; exact r1.fresh b hb
  · have q : b ≠ p := fun q => by rw [q, ca] at hb; cases hb
    rw [cn b q] at hb; exact r.inF b hb
  · obtain ⟨o', e'⟩ := (r.hq q hq).at1
    rw [cn _ (ne _ (by rw [e']; exact fun q => nomatch q))]; exact r.hnd q hq
  · by_cases hj : j = i
    · subst hj
      rw [List.getElem?_set] at es
      simp only [if_true] at es
      split at es
      · rename_i hl
        cases es
        exact ⟨p, vs, by rw [List.getElem?_set, if_pos rfl, if_pos (by rw [← r.len]; exact hl)]; rfl, ca, c0, upd_same, t.mv mv0⟩
      · cases es
    · rw [List.getElem?_set_ne (Ne.symm hj)] at es
      rw [List.getElem?_set_ne (Ne.symm hj)]
      have h := r.sl j s es
      cases s with
      | no => trivial
      | sh d => obtain ⟨v, e1, t⟩ := h; exact ⟨v, e1, t.mv mv0⟩
      | ow ds =>
        obtain ⟨a', vs', e1', c', n', e2', t'⟩ := h
        have q := ne a' (by rw [e2']; exact fun q => nomatch q)
        exact ⟨a', vs', e1', by rw [cn a' q]; exact c', n', by rw [upd_ne q]; exact e2', t'.mv mv0⟩
      | bo ds =>
        obtain ⟨a', vs', e1', c', n', e2', t'⟩ := h
        have q := ne a' (by rw [e2']; exact fun q => nomatch q)
        exact ⟨a', vs', e1', by rw [cn a' q]; exact c', n', by rw [upd_ne q]; exact e2', t'.mv mv0⟩
      | hd => exact h
      | o2 dss =>
        obtain ⟨a', as', e1', c', e2', nd', t'⟩ := h
        have q := ne a' (by rw [e2']; exact fun q => nomatch q)
        exact ⟨a', as', e1', ⟨by rw [cn a' q]; exact c'.1, c'.2⟩, by rw [upd_ne q]; exact e2', nd', t'.mv mv0 fun b o g e => by
          have q := ne b (by rw [e]; exact fun q => nomatch q)
          exact ⟨⟨by rw [cn b q]; exact g.1, g.2⟩, by rw [upd_ne q]; exact e⟩⟩
      | b2 dss =>
        obtain ⟨a', as', e1', c', e2', t'⟩ := h
        have q := ne a' (by rw [e2']; exact fun q => nomatch q)
        exact ⟨a', as', e1', ⟨by rw [cn a' q]; exact c'.1, c'.2⟩, by rw [upd_ne q]; exact e2', t'.mv mv0 fun b o g e => by
          have q := ne b (by rw [e]; exact fun q => nomatch q)
          exact ⟨⟨by rw [cn b q]; exact g.1, g.2⟩, by rw [upd_ne q]; exact e⟩⟩
      | di f ks =>
        obtain ⟨a', e1', c', n', e2'⟩ := h
        have q := ne a' e2'.ne
        exact ⟨a', e1', by rw [cn a' q]; exact c', n', e2'.mv fun o e => by rw [upd_ne q]; exact e⟩
      | dm f ks =>
        obtain ⟨a', e1', c', n', e2'⟩ := h
        have q := ne a' e2'.ne
        exact ⟨a', e1', by rw [cn a' q]; exact c', n', e2'.mv fun o e => by rw [upd_ne q]; exact e⟩
      | bd d => exact h
      | ot d =>
        obtain ⟨v, e1', t'⟩ := h
        exact ⟨v, e1', t'.mv fun b o g e => by
          have q := ne b (by rw [e]; exact fun q => nomatch q)
          exact ⟨g.imp (fun g => ⟨by rw [cn b q]; exact g.1, g.2⟩) fun g => ⟨by rw [cn b q]; exact g.1, by rw [upd_ne q]; exact g.2⟩, by rw [upd_ne q]; exact e⟩⟩
  · have h := r.pd x hx
    cases x with
    | v v d => exact ThV.mv mv0 h
    | n a o =>
      have q := ne a (by rw [h.2.2]; exact fun q => nomatch q)
      exact ⟨by rw [cn a q]; exact h.1, h.2.1, by rw [upd_ne q]; exact h.2.2⟩
    | s vs ds => exact ThVs.mv mv0 h
    | o c as dss => exact ⟨h.1, h.2.mv mv0 fun b o g e => by
        have q := ne b (by rw [e]; exact fun q => nomatch q)
        exact ⟨⟨by rw [cn b q]; exact g.1, g.2⟩, by rw [upd_ne q]; exact e⟩⟩
    | w v d => exact h
theorem RelC.write {i : Nat} {a : Addr} {ws : List V} {ds es : List PyData} (r : RelC C col ρ σ P H) (e : ρ[i]? = some (.ow ds)) (ea : (σ[i]?).join = some (.ref a)) (t : ThVs (Z col) H ws es) :
    RelC C col (ρ.set i (.ow es)) σ P (upd H a (.lst ws)) := by
  obtain ⟨a', vs', e1, c, n, e2, _⟩ := r.sl i _ e
  rw [e1] at ea
  cases ea
  have ne : ∀ b, col b ≠ 2 * i + 3 → b ≠ a := fun b hb q => hb (q ▸ c)
  have mv0 : ∀ b o, Z col b → H b = some o → Z col b ∧ upd H a (.lst ws) b = some o := fun b o zz e => ⟨zz, by rw [upd_ne (ne b (by rw [show col b = 0 from zz]; lia))]; exact e⟩
  refine ⟨fun b hb => ?_, r.inF, r.hnd, fun j s es' => ?_, fun x hx => ?_, fun b o e q => ?_, fun q hq => ?_, r.hq0, r.nf, by rw [List.length_set]; exact r.len⟩
  · by_cases q : b = a
    · rw [q, upd_same] at hb; cases hb
    · rw [upd_ne q] at hb; exact r.fresh b hb
  · by_cases hj : j = i
    · subst hj
      rw [List.getElem?_set] at es'
      simp only [if_true] at es'
      split at es'
      · cases es'
        exact ⟨a, ws, e1, c, n, upd_same, t.mv mv0⟩
      · cases es'
    · rw [List.getElem?_set_ne (Ne.symm hj)] at es'
      have h := r.sl j s es'
      cases s with
      | no => trivial
      | sh d => obtain ⟨v, e1, t⟩ := h; exact ⟨v, e1, t.mv mv0⟩
      | ow ds =>
        obtain ⟨a', vs', e1', c', n', e2', t'⟩ := h
        exact ⟨a', vs', e1', c', n', by rw [upd_ne (ne a' (by lia))]; exact e2', t'.mv mv0⟩
      | bo ds =>
        obtain ⟨a', vs', e1', c', n', e2', t'⟩ := h
        exact ⟨a', vs', e1', c', n', by rw [upd_ne (ne a' (by lia))]; exact e2', t'.mv mv0⟩
      | hd => exact h
      | o2 dss =>
        obtain ⟨a', as', e1', c', e2', nd', t'⟩ := h
        exact ⟨a', as', e1', c', by rw [upd_ne (ne a' (by lia))]; exact e2', nd', t'.mv mv0 fun b o g e => ⟨g, by rw [upd_ne (ne b (by have := g.1; lia))]; exact e⟩⟩
      | b2 dss =>
        obtain ⟨a', as', e1', c', e2', t'⟩ := h
        exact ⟨a', as', e1', c', by rw [upd_ne (ne a' (by have := c'.1; lia))]; exact e2', t'.mv mv0 fun b o g e => ⟨g, by rw [upd_ne (ne b (by have := g.1; lia))]; exact e⟩⟩
      | di f ks =>
        obtain ⟨a', e1', c', n', e2'⟩ := h
        exact ⟨a', e1', c', n', e2'.mv fun o e => by rw [upd_ne (ne a' (by lia))]; exact e⟩
      | dm f ks =>
        obtain ⟨a', e1', c', n', e2'⟩ := h
        exact ⟨a', e1', c', n', e2'.mv fun o e => by rw [upd_ne (ne a' (by lia))]; exact e⟩
      | bd d => exact h
      | ot d =>
        obtain ⟨v, e1', t'⟩ := h
        exact ⟨v, e1', t'.mv fun b o g e => by
          have q := ne b (by rcases g with g | g <;> (have := g.1; lia))
          exact ⟨g.imp id fun g => ⟨g.1, by rw [upd_ne q]; exact g.2⟩, by rw [upd_ne q]; exact e⟩⟩
  · have h := r.pd x hx
    cases x with
    | v v d => exact ThV.mv mv0 h
    | n b o => exact ⟨h.1, h.2.1, by rw [upd_ne (ne b (by have := h.1; lia))]; exact h.2.2⟩
    | s vs ds => exact ThVs.mv mv0 h
    | o c as dss => exact ⟨h.1, h.2.mv mv0 fun b o g e => ⟨g, by rw [upd_ne (ne b (by have := g.1; lia))]; exact e⟩⟩
    | w v d => exact h
  · have z := r.kq b o e q
    have q' : b ≠ a := fun q' => by rw [q', n] at e; cases e
    rw [upd_ne q']; exact z
  · obtain ⟨o1, h1⟩ := (r.hq0 q hq).at1
    obtain ⟨o2, h2⟩ := (r.hq0 q hq).at2
    exact (r.hq q hq).wr (fun z => by rw [← z, n] at h1; cases h1) (fun z => by rw [← z, n] at h2; cases h2)
end
open Classical in
theorem RelC.norm {C : DC} {col : Addr → Nat} {ρ : List Sl} {σ : St} {P : List Pe} {H : Hp} (r : RelC C col ρ σ P H) : ∃ col', RelC C col' ρ σ P H ∧ ∀ b xs, H b = some (.tup xs) → col' b = 0 := by
  let col' : Addr → Nat := fun b => if ∃ xs, H b = some (.tup xs) then 0 else col b
  have ct : ∀ b xs, H b = some (.tup xs) → col' b = 0 := fun b xs e => if_pos ⟨xs, e⟩
  have cn : ∀ b, (∀ xs, H b ≠ some (.tup xs)) → col' b = col b := fun b h => if_neg fun ⟨xs, e⟩ => h xs e
  have hl : ∀ b ys, H b = some (.lst ys) → col' b = col b := fun b ys e => cn b fun xs z => by rw [e] at z; cases z
  have hd : ∀ q, C.hand = some q → ∀ xs, H q.1 ≠ some (.tup xs) := fun q hq xs z => by
    obtain ⟨_, _, _, _, _, _, _, _, e⟩ := r.hq q hq
    rw [e] at z; cases z
  have z0 : ∀ b, col b = 0 → col' b = 0 := fun b hb => by
    by_cases h : ∃ xs, H b = some (.tup xs)
    · exact if_pos h
    · exact (if_neg h).trans hb
  have lo : ∀ b, col b ≤ 1 → col' b ≤ 1 := fun b hb => by
    by_cases h : ∃ xs, H b = some (.tup xs)
    · rw [show col' b = 0 from if_pos h]; lia
    · rw [show col' b = col b from if_neg h]; exact hb
  have mv0 : ∀ b o, Z col b → H b = some o → Z col' b ∧ H b = some o := fun b o zz e => ⟨z0 b zz, e⟩
  refine ⟨col', ⟨fun b e => z0 b (r.fresh b e), fun b hb => ?_, fun q hq => (cn _ (hd q hq)).trans (r.hnd q hq), fun i s e => ?_, fun p hp => ?_, r.kq, r.hq, r.hq0, r.nf, r.len⟩, ct⟩
  · by_cases h : ∃ xs, H b = some (.tup xs)
    · obtain ⟨xs, h⟩ := h
      cases q : C.H0 b with
      | none => exact r.nf.1 b q
      | some o =>
        have := r.kq b o q fun p hp e => hd p hp xs (e ▸ h)
        rw [this] at h
        cases h
        exact r.nf.2 b xs q
    · rw [show col' b = col b from if_neg h] at hb; exact r.inF b hb
  · have h := r.sl i s e
    cases s with
    | no => trivial
    | sh d => obtain ⟨v, e1, t⟩ := h; exact ⟨v, e1, t.mv mv0⟩
    | ow ds => obtain ⟨a, vs, e1, c, n, e2, t⟩ := h; exact ⟨a, vs, e1, (hl a _ e2).trans c, n, e2, t.mv mv0⟩
    | bo ds => obtain ⟨a, vs, e1, c, n, e2, t⟩ := h; exact ⟨a, vs, e1, lo a c, n, e2, t.mv mv0⟩
    | hd => exact h
    | o2 dss => obtain ⟨a, as, e1, c, e2, nd, t⟩ := h; exact ⟨a, as, e1, ⟨(hl a _ e2).trans c.1, c.2⟩, e2, nd, t.mvl mv0 fun b ys g e => ⟨⟨(hl b _ e).trans g.1, g.2⟩, e⟩⟩
    | b2 dss => obtain ⟨a, as, e1, c, e2, t⟩ := h; exact ⟨a, as, e1, ⟨lo a c.1, c.2⟩, e2, t.mvl mv0 fun b ys g e => ⟨⟨lo b g.1, g.2⟩, e⟩⟩
    | di f ks =>
      obtain ⟨a, e1, c, n, e2⟩ := h
      refine ⟨a, e1, (cn a fun xs z => ?_).trans c, n, e2⟩
      cases f with
      | false => rw [show H a = _ from e2] at z; cases z
      | true => obtain ⟨o, e2⟩ := e2; rw [e2] at z; cases z
    | dm f ks =>
      obtain ⟨a, e1, c, n, e2⟩ := h
      refine ⟨a, e1, (cn a fun xs z => ?_).trans c, n, e2⟩
      cases f with
      | false => rw [show H a = _ from e2] at z; cases z
      | true => obtain ⟨o, e2⟩ := e2; rw [e2] at z; cases z
    | bd d => exact h
    | ot d =>
      obtain ⟨v, e1, t⟩ := h
      refine ⟨v, e1, t.mv fun b o g e => ⟨?_, e⟩⟩
      by_cases q : ∃ xs, H b = some (.tup xs)
      · obtain ⟨xs, q⟩ := q
        exact .inr ⟨ct b xs q, xs, q⟩
      · rcases g with g | g
        · exact .inl ⟨(if_neg q).trans g.1, g.2⟩
        · exact absurd g.2 q
  · have h := r.pd p hp
    cases p with
    | v v d => exact ThV.mv mv0 h
    | n a o => exact ⟨lo a h.1, h.2⟩
    | s vs ds => exact ThVs.mv mv0 h
    | o c as dss => exact ⟨h.1, h.2.mvl mv0 fun b ys g e => ⟨⟨(hl b _ e).trans g.1, g.2⟩, e⟩⟩
    | w v d => exact h
inductive Pds (P : List Pe) : List V → List PyData → Prop
  | nil : Pds P [] []
  | cons {v d vs ds} : Pe.v v d ∈ P → Pds P vs ds → Pds P (v :: vs) (d :: ds)
theorem Pds.th {C : DC} {col : Addr → Nat} {ρ : List Sl} {σ : St} {P : List Pe} {H : Hp} (r : RelC C col ρ σ P H) : ∀ {vs : List V} {ds : List PyData}, Pds P vs ds → ThVs (Z col) H vs ds
  | _, _, .nil => .nil
  | _, _, .cons h t => .cons (r.pd _ h) (Pds.th r t)
end My
namespace My
open PySem L2
abbrev DE := List Sl → (PyData → List Sl → Prop) → Prop
abbrev DT := List Sl → (Bool → List Sl → Prop) → Prop
abbrev DF := List Sl → (List PyData → List Sl → Prop) → Prop
def eOf (C : DC) (t : DE) : TE := fun σ H Q => ∃ ρ P Qd, Rel C ρ σ P H ∧ t ρ Qd ∧ ∀ v d ρ' H', Rel C ρ' σ (.v v d :: P) H' → Qd d ρ' → Q v H'
def cOf (C : DC) (t : DT) : TT := fun σ H Q => ∃ ρ P Qd, Rel C ρ σ P H ∧ t ρ Qd ∧ ∀ b ρ' H', Rel C ρ' σ P H' → Qd b ρ' → Q b H'
def fOf (C : DC) (t : DF) : TE := fun σ H Q => ∃ ρ P Qd, Rel C ρ σ P H ∧ t ρ Qd ∧ ∀ p vs ds ρ' H1, (∃ col, RelC C col ρ' σ P H1 ∧ ThVs (Z col) H1 vs ds) → H1 p = none → Qd ds ρ' → Q (.ref p) (upd H1 p (.lst vs))
def vOf (C : DC) (t : DF) : TA := fun σ H Q => ∃ ρ P Qd, Rel C ρ σ P H ∧ t ρ Qd ∧ ∀ vs ds ρ' P' H', Rel C ρ' σ P' H' → (∀ p ∈ P, p ∈ P') → Pds P' vs ds → Qd ds ρ' → Q vs H'
def bnd {α : Type} (o : Option α) (Q : α → Prop) : Prop := match o with
  | some a => Q a
  | none => False
theorem bnd_of {α : Type} {o : Option α} {Q : α → Prop} (h : bnd o Q) : ∃ a, o = some a ∧ Q a := by
  cases o with
  | none => exact h.elim
  | some a => exact ⟨a, rfl, h⟩
section
variable {X : Cx} {C : DC}
theorem PE.wk {e : Expr} {t t' : TE} (h : PE X e t) (f : ∀ σ H Q, t' σ H Q → t σ H Q) : PE X e t' := fun pins s σ H Q I q => h pins s σ H Q I (f σ H Q q)
theorem PT.wk {e : Expr} {t t' : TT} (h : PT X e t) (f : ∀ σ H Q, t' σ H Q → t σ H Q) : PT X e t' := fun pins s σ H Q I q => h pins s σ H Q I (f σ H Q q)
theorem PW.wk {e : Expr} {t t' : TT} (h : PW X e t) (f : ∀ σ H Q, t' σ H Q → t σ H Q) : PW X e t' := fun wh pins s σ H Q I q => h wh pins s σ H Q I (f σ H Q q)
theorem PA.wk {es : List Expr} {t t' : TA} (h : PA X es t) (f : ∀ σ H Q, t' σ H Q → t σ H Q) : PA X es t' := fun pos pins s σ H Q I q => h pos pins s σ H Q I (f σ H Q q)
def dC (d : PyData)  (ρ : List Sl) (Q : PyData → List Sl → Prop) : Prop := Q d ρ
theorem pd_c {e : Expr} {v : V} {d : PyData} (h : PE X e (tC v)) (t : ∀ F H, ThV F H v d) : PE X e (eOf C (dC d)) := PE.wk h fun _ _ _ zz1 => el3 zz1 fun _ _ _ zz2 ht k => zz2.elim fun col r => k _ _ _ _ ⟨col, r.push (t _ _)⟩ ht
theorem pd_int {i j pos} : PE X (.Constant (.int i) j pos) (eOf C (dC (.int i))) := pd_c pe_int fun _ _ => .int i
theorem pd_bl {b j pos} : PE X (.Constant (.bool b) j pos) (eOf C (dC (.bool b))) := pd_c pe_bl fun _ _ => .bl b
theorem pd_non {j pos} : PE X (.Constant .none j pos) (eOf C (dC .none)) := pd_c pe_non fun _ _ => .non
theorem pd_str {x j pos} : PE X (.Constant (.str x) j pos) (eOf C (dC (.str x))) := pd_c pe_str fun _ _ => .str x
theorem pd_gi {e : Expr} {i : Int} (h : PE X e (tC (.int i))) : PE X e (eOf C (dC (.int i))) := pd_c h fun _ _ => .int i
theorem join_some {α : Type} {o : Option (Option α)} {v : α} (h : o.join = some v) : o = some (some v) := by
  cases o with
  | none => cases h
  | some q => exact congrArg some h
def dVar (i : Nat)  (ρ : List Sl) (Q : PyData → List Sl → Prop) : Prop := match ρ[i]? with
  | some (.sh d) => Q d ρ
  | some (.ow ds) => Q (.list ds) (ρ.set i (.sh (.list ds)))
  | _ => False
theorem pd_var {e : Expr} {i : Nat} (h : PE X e (tVar i)) : PE X e (eOf C (dVar i)) := PE.wk h fun σ H Q zz3 => el3 zz3 fun ρ P Qd zz4 ht k => zz4.elim fun col r => by
  unfold dVar at ht
  split at ht
  · rename_i d e
    obtain ⟨v, e1, t⟩ := r.sl i _ e
    exact ⟨v, join_some e1, k _ _ _ _ ⟨col, r.push t⟩ ht⟩
  · rename_i ds e
    obtain ⟨a, e1, R⟩ := r.freeze e
    exact ⟨_, join_some e1, k _ _ _ _ R ht⟩
  · exact ht.elim
def slotD (ρ : List Sl) (i : Nat) : Option PyData := match ρ[i]? with
  | some (.sh d) => some d
  | some (.ow ds) => some (.list ds)
  | some (.bo ds) => some (.list ds)
  | _ => none
inductive Red (col : Addr → Nat) (H : Hp) : V → PyData → Prop
  | th {v d} : ThV (Z col) H v d → Red col H v d
  | ls {a vs ds} : H a = some (.lst vs) → ThVs (Z col) H vs ds → Red col H (.ref a) (.list ds)
theorem RelC.slot {col : Addr → Nat} {ρ : List Sl} {σ : St} {P : List Pe} {H : Hp} (r : RelC C col ρ σ P H) {i : Nat} {d : PyData} (h : slotD ρ i = some d) : ∃ v, σ[i]? = some (some v) ∧ Red col H v d := by
  unfold slotD at h
  split at h
  · rename_i d' e
    cases h
    obtain ⟨v, e1, t⟩ := r.sl i _ e
    exact ⟨v, join_some e1, .th t⟩
  · rename_i ds e
    cases h
    obtain ⟨a, vs, e1, _, _, e2, t⟩ := r.sl i _ e
    exact ⟨_, join_some e1, .ls e2 t⟩
  · rename_i ds e
    cases h
    obtain ⟨a, vs, e1, _, _, e2, t⟩ := r.sl i _ e
    exact ⟨_, join_some e1, .ls e2 t⟩
  · cases h
theorem Red.lst {col : Addr → Nat} {H : Hp} {v : V} {ds : List PyData} (h : Red col H v (.list ds)) : ∃ a vs, v = .ref a ∧ H a = some (.lst vs) ∧ ThVs (Z col) H vs ds := by
  cases h with
  | th t => cases t with
    | lst _ e t => exact ⟨_, _, rfl, e, t⟩
  | ls e t => exact ⟨_, _, rfl, e, t⟩
theorem Red.tup {col : Addr → Nat} {H : Hp} {v : V} {ds : List PyData} (h : Red col H v (.tuple ds)) : ∃ a vs, v = .ref a ∧ H a = some (.tup vs) ∧ ThVs (Z col) H vs ds := by
  cases h with
  | th t => cases t with
    | tup _ e t => exact ⟨_, _, rfl, e, t⟩
abbrev G2 := PyData → PyData → (PyData → Prop) → Prop
def OpOk (C : DC) (r : R2) (g : G2) : Prop :=
  ∀ {ρ : List Sl} {σ : St} {P : List Pe} {H : Hp} {v w : V} {a b : PyData} {Qd : PyData → Prop} {Q : VK}, Rel C ρ σ (.v w b :: .v v a :: P) H → g a b Qd → (∀ u d H', Rel C ρ σ (.v u d :: P) H' → Qd d → Q u H') → r v w H Q
def dOp (g : G2) (ta tb : DE)  (ρ : List Sl) (Q : PyData → List Sl → Prop) : Prop := ta ρ fun a ρ1 => tb ρ1 fun b ρ2 => g a b fun d => Q d ρ2
theorem dOp_rd {r : R2} {g : G2} {ta tb : DE} (hg : OpOk C r g) {σ : St} {H : Hp} {Q : VK} (h : eOf C (dOp g ta tb) σ H Q) : tOp r (eOf C ta) (eOf C tb) σ H Q := by
  obtain ⟨ρ, P, Qd, R, ht, k⟩ := h
  exact ⟨ρ, P, _, R, ht, fun v a ρ1 H1 R1 h1 => ⟨ρ1, _, _, R1, h1, fun w b ρ2 H2 R2 h2 => hg R2 h2 fun u d H' R' q => k u d ρ2 H' R' q⟩⟩
variable {a b : Expr} {ta tb : DE} {pos : Pos}
theorem pd_op {op : Operator} {r : R2} {g : G2} (ho : OpR X (binaryOp op) r) (hg : OpOk C r g) (ha : PE X a (eOf C ta)) (hb : PE X b (eOf C tb)) : PE X (.BinOp a op b pos) (eOf C (dOp g ta tb)) := PE.wk (pe_op ho ha hb) fun _ _ _ h => dOp_rd hg h
theorem pd_cmp {op : CmpOp} {r : R2} {g : G2} (ho : OpR X (compareOp op) r) (hg : OpOk C r g) (ha : PE X a (eOf C ta)) (hb : PE X b (eOf C tb)) (hm : behindInMarks op b = false) : PE X (.Compare a [op] [b] pos) (eOf C (dOp g ta tb)) := PE.wk (pe_cmpR ho ha hb hm) fun _ _ _ h => dOp_rd hg h
def dT (t : DE)  (ρ : List Sl) (Q : Bool → List Sl → Prop) : Prop := t ρ fun d ρ' => match d with
  | .bool b => Q b ρ'
  | _ => False
theorem dT_rd {t : DE} {σ : St} {H : Hp} {Q : Bool → Hp → Prop} (h : cOf C (dT t) σ H Q) : eOf C t σ H fun x H' => ∃ k, x = .bl k ∧ Q k H' := by
  obtain ⟨ρ, P, Qd, R, ht, k⟩ := h
  refine ⟨ρ, P, _, R, ht, fun v d ρ' H' R' q => ?_⟩
  split at q
  · obtain ⟨col, r⟩ := R'
    have t := r.pd _ List.mem_cons_self
    cases (show ThV (Z col) H' v (.bool _) from t)
    exact ⟨_, rfl, k _ _ _ (Rel.pop ⟨col, r⟩) q⟩
  · exact q.elim
theorem pdt_val {e : Expr} {t : DE} (h : PE X e (eOf C t)) (he : ∀ whole, isTrue e X.env whole = (do let v ← whole; standAt e.pos; holding [v] (truthy v)) := by intro _; rfl) : PT X e (cOf C (dT t)) := PT.wk (pt_val h he) fun _ _ _ h => dT_rd h
theorem pdt_cmp {op : CmpOp} {r : R2} {g : G2} (ho : OpR X (compareOp op) r) (hg : OpOk C r g) (ha : PE X a (eOf C ta)) (hb : PE X b (eOf C tb)) (hm : behindInMarks op b = false) : PT X (.Compare a [op] [b] pos) (cOf C (dT (dOp g ta tb))) :=
  PT.wk (pt_cmpR ho ha hb hm) fun σ H Q h => dOp_rd hg (dT_rd h)
def dNot (t : DT)  (ρ : List Sl) (Q : Bool → List Sl → Prop) : Prop := t ρ fun b ρ' => Q (!b) ρ'
theorem pdt_not {t : DT} (h : PT X a (cOf C t)) : PT X (.UnaryOp .Not a pos) (cOf C (dNot t)) := PT.wk (pt_not h) fun _ _ _ zz5 => el3 zz5 fun ρ P _ R ht k => ⟨ρ, P, _, R, ht, fun b ρ' H' R' q => k _ _ _ R' q⟩
def dAnd (t u : DT)  (ρ : List Sl) (Q : Bool → List Sl → Prop) : Prop := t ρ fun b ρ' => if b = true then u ρ' Q else Q false ρ'
def dOr (t u : DT)  (ρ : List Sl) (Q : Bool → List Sl → Prop) : Prop := t ρ fun b ρ' => if b = true then Q true ρ' else u ρ' Q
variable {t u : DT} {rest : List Expr}
theorem pwd_and1 (h : PT X a (cOf C t)) : PW X (.BoolOp .And [a] pos) (cOf C t) := pw_and1 h
theorem pwd_or1 (h : PT X a (cOf C t)) : PW X (.BoolOp .Or [a] pos) (cOf C t) := pw_or1 h
theorem pwd_and (ha : PT X a (cOf C t)) (hb : PW X (.BoolOp .And (b :: rest) pos) (cOf C u)) : PW X (.BoolOp .And (a :: b :: rest) pos) (cOf C (dAnd t u)) := PW.wk (pw_and ha hb) fun _ _ _ zz6 => el3 zz6 fun ρ P Qd R ht k =>
  ⟨ρ, P, _, R, ht, fun b ρ' H' R' q => by
    cases b with
    | true => exact ⟨ρ', P, Qd, R', by simpa using q, k⟩
    | false => exact k _ _ _ R' (by simpa using q)⟩
theorem pwd_or (ha : PT X a (cOf C t)) (hb : PW X (.BoolOp .Or (b :: rest) pos) (cOf C u)) : PW X (.BoolOp .Or (a :: b :: rest) pos) (cOf C (dOr t u)) := PW.wk (pw_or ha hb) fun _ _ _ zz7 => el3 zz7 fun ρ P Qd R ht k =>
  ⟨ρ, P, _, R, ht, fun b ρ' H' R' q => by
    cases b with
    | true => exact k _ _ _ R' (by simpa using q)
    | false => exact ⟨ρ', P, Qd, R', by simpa using q, k⟩⟩
def dBV (t : DE) (f : Bool → List Sl → Prop)  (ρ : List Sl) : Prop := t ρ fun d ρ' => match d with
  | .bool b => f b ρ'
  | _ => False
def dAndV (ta tb : DE)  (ρ : List Sl) (Q : PyData → List Sl → Prop) : Prop := dBV ta (fun b ρ' => if b = true then tb ρ' Q else Q (.bool false) ρ') ρ
def dOrV (ta tb : DE)  (ρ : List Sl) (Q : PyData → List Sl → Prop) : Prop := dBV ta (fun b ρ' => if b = true then Q (.bool true) ρ' else tb ρ' Q) ρ
def dNotV (ta : DE)  (ρ : List Sl) (Q : PyData → List Sl → Prop) : Prop := dBV ta (fun b ρ' => Q (.bool (!b)) ρ') ρ
theorem dBV_rd {f : Bool → List Sl → Prop} {ρ : List Sl} {σ : St} {P : List Pe} {H : Hp} {Q : VK} (R : Rel C ρ σ P H) (ht : dBV ta f ρ) (k : ∀ c ρ' H', Rel C ρ' σ P H' → f c ρ' → Q (.bl c) H') : eOf C ta σ H Q := by
  refine ⟨ρ, P, _, R, ht, fun v d ρ' H' R' q => ?_⟩
  split at q
  · obtain ⟨col, r⟩ := R'
    have t := r.pd _ List.mem_cons_self
    cases (show ThV (Z col) H' v (.bool _) from t)
    exact k _ _ _ (Rel.pop ⟨col, r⟩) q
  · exact q.elim
theorem pd_one {op} (h : PE X a (eOf C ta)) : PE X (.BoolOp op [a] pos) (eOf C ta) := pe_one h
theorem pd_and (ha : PE X a (eOf C ta)) (hb : PE X (.BoolOp .And (b :: rest) pos) (eOf C tb)) : PE X (.BoolOp .And (a :: b :: rest) pos) (eOf C (dAndV ta tb)) := PE.wk (pe_and ha hb) fun _ _ _ zz8 => el3 zz8 fun _ P Qd R ht k =>
  dBV_rd R ht fun c ρ' H' R' q => ⟨c, rfl, by
    cases c with
    | true => exact iteT ⟨ρ', P, Qd, R', by simpa using q, k⟩
    | false =>
      obtain ⟨col, r⟩ := R'
      exact iteF (k _ _ _ _ ⟨col, r.push (.bl false)⟩ (by simpa using q))⟩
theorem pd_not (ha : PE X a (eOf C ta)) : PE X (.UnaryOp .Not a pos) (eOf C (dNotV ta)) := PE.wk (pe_not ha) fun _ _ _ zz10 => el3 zz10 fun _ _ _ R ht k =>
  dBV_rd R ht fun c ρ' H' zz11 q => zz11.elim fun col r => ⟨c, rfl, k _ _ _ _ ⟨col, r.push (.bl _)⟩ q⟩
def dNeg (ta : DE)  (ρ : List Sl) (Q : PyData → List Sl → Prop) : Prop := ta ρ fun d ρ' => match d with
  | .int i => Q (.int (-i)) ρ'
  | _ => False
theorem pd_neg (ha : PE X a (eOf C ta)) : PE X (.UnaryOp .USub a pos) (eOf C (dNeg ta)) := PE.wk (pe_un un_neg ha) fun _ _ _ zz12 => el3 zz12 fun ρ P _ R ht k => ⟨ρ, P, _, R, ht, fun v d ρ' H' R' q => by
  split at q
  · obtain ⟨col, r⟩ := R'
    have t := r.pd _ List.mem_cons_self
    cases (show ThV (Z col) H' v (.int _) from t)
    exact ⟨_, rfl, k _ _ _ _ ⟨col, (r.sub fun _ h => List.mem_cons_of_mem _ h).push (.int _)⟩ q⟩
  · exact q.elim⟩
def dIf (c : DT) (ta tb : DE)  (ρ : List Sl) (Q : PyData → List Sl → Prop) : Prop := c ρ fun b ρ' => if b = true then ta ρ' Q else tb ρ' Q
def dChain (g g' : G2) (ta tb tc : DE)  (ρ : List Sl) (Q : PyData → List Sl → Prop) : Prop := ta ρ fun a ρ1 => tb ρ1 fun b ρ2 => g a b fun z => match z with
  | .bool k => if k = true then tc ρ2 fun c ρ3 => g' b c fun d => Q d ρ3 else Q (.bool false) ρ2
  | _ => False
end
def gI (c : Int → Int → Prop) (f : Int → Int → PyData)  (a b : PyData) (Q : PyData → Prop) : Prop := match a, b with
  | .int i, .int j => c i j ∧ Q (f i j)
  | _, _ => False
def gI0 (f : Int → Int → PyData)  (a b : PyData) (Q : PyData → Prop) : Prop := match a, b with
  | .int i, .int j => Q (f i j)
  | _, _ => False
section
variable {C : DC} {X : Cx}
theorem th2 {ρ : List Sl} {σ : St} {P : List Pe} {H : Hp} {v w : V} {a b : PyData} (r : Rel C ρ σ (.v w b :: .v v a :: P) H) : ∃ col, RelC C col ρ σ P H ∧ ThV (Z col) H v a ∧ ThV (Z col) H w b := by
  obtain ⟨col, r⟩ := r
  exact ⟨col, r.sub fun _ h => List.mem_cons_of_mem _ (List.mem_cons_of_mem _ h), r.pd _ (List.mem_cons_of_mem _ List.mem_cons_self), r.pd _ List.mem_cons_self⟩
theorem ok_I0 {f : Int → Int → V} {g : Int → Int → PyData} (h : ∀ i j F H, ThV F H (f i j) (g i j)) : OpOk C (rI0 f) (gI0 g) := by
  intro ρ σ P H v w a b Qd Q R hg k
  unfold gI0 at hg
  split at hg
  · obtain ⟨col, r, t1, t2⟩ := th2 R
    cases t1; cases t2
    exact ⟨_, _, rfl, rfl, k _ _ _ ⟨col, r.push (h _ _ _ _)⟩ hg⟩
  · exact hg.elim
theorem ok_I {c : Int → Int → Prop} {f : Int → Int → V} {g : Int → Int → PyData} (h : ∀ i j F H, ThV F H (f i j) (g i j)) : OpOk C (rI c f) (gI c g) := by
  intro ρ σ P H v w a b Qd Q R hg k
  unfold gI at hg
  split at hg
  · obtain ⟨col, r, t1, t2⟩ := th2 R
    cases t1; cases t2
    exact ⟨_, _, rfl, rfl, hg.1, k _ _ _ ⟨col, r.push (h _ _ _ _)⟩ hg.2⟩
  · exact hg.elim
def gAdd : G2 := gI0 fun i j => .int (i + j)
def gMns : G2 := gI0 fun i j => .int (i - j)
def gMul : G2 := gI CMul fun i j => .int (i * j)
def gMod : G2 := gI (fun _ j => 0 < j) fun i j => .int (i % j)
def gDiv : G2 := gI CDivB fun i j => .int (i / j)
def gPow : G2 := gI CPow fun i j => .int (i ^ j.toNat)
def gLt : G2 := gI0 fun i j => .bool (decide (i < j))
def gLe : G2 := gI0 fun i j => .bool (decide (i ≤ j))
def gGt : G2 := gI0 fun i j => .bool (decide (j < i))
def gGe : G2 := gI0 fun i j => .bool (decide (j ≤ i))
theorem ok_add : OpOk C (rI0 (fun i j => .int (i + j))) gAdd := ok_I0 (f := fun i j => .int (i + j)) fun _ _ _ _ => .int _
theorem ok_sub : OpOk C (rI0 (fun i j => .int (i - j))) gMns := ok_I0 (f := fun i j => .int (i - j)) fun _ _ _ _ => .int _
theorem ok_mul : OpOk C (rI CMul (fun i j => .int (i * j))) gMul := ok_I (f := fun i j => .int (i * j)) fun _ _ _ _ => .int _
theorem ok_mod : OpOk C (rI (fun _ j => 0 < j) (fun i j => .int (i % j))) gMod := ok_I (f := fun i j => .int (i % j)) fun _ _ _ _ => .int _
theorem ok_pow : OpOk C (rI CPow (fun i j => .int (i ^ j.toNat))) gPow := ok_I (f := fun i j => .int (i ^ j.toNat)) fun _ _ _ _ => .int _
theorem ok_lt : OpOk C (rI0 (fun i j => .bl (decide (i < j)))) gLt := ok_I0 (f := fun i j => .bl (decide (i < j))) fun _ _ _ _ => .bl _
theorem ok_le : OpOk C (rI0 (fun i j => .bl (decide (i ≤ j)))) gLe := ok_I0 (f := fun i j => .bl (decide (i ≤ j))) fun _ _ _ _ => .bl _
theorem ok_gt : OpOk C (rI0 (fun i j => .bl (decide (j < i)))) gGt := ok_I0 (f := fun i j => .bl (decide (j < i))) fun _ _ _ _ => .bl _
def gEq (neg : Bool)  (a b : PyData) (Q : PyData → Prop) : Prop := a.canLay0 = true ∧ b.canLay0 = true ∧ min a.depth b.depth ≤ 64 ∧ Q (.bool (if neg then !PyData.eqv a b else PyData.eqv a b))
theorem ok_eq {K : PySem.W.Frag} {neg : Bool} : OpOk C (rEqD K neg) (gEq neg) := by
  intro ρ σ P H v w a b Qd Q R hg k
  obtain ⟨col, r, t1, t2⟩ := th2 R
  exact ⟨a, b, t1.dat hg.1, t2.dat hg.2.1, hg.1, hg.2.1, hg.2.2.1, k _ _ _ ⟨col, r.push (.bl _)⟩ hg.2.2.2⟩
def isN : PyData → Bool
  | .none => true
  | _ => false
def gIsN (neg : Bool)  (a b : PyData) (Q : PyData → Prop) : Prop := match b with
  | .none => Q (.bool (if neg then !isN a else isN a))
  | _ => False
theorem isN_th {F : Addr → Prop} {H : Hp} {v : V} {a : PyData} (t : ThV F H v a) : decide (v = V.non) = isN a := by
  cases t <;> simp [isN]
theorem ok_isN : OpOk C (fun x y H Q => y = .non ∧ Q (.bl (decide (x = .non))) H) (gIsN false) := by
  intro ρ σ P H v w a b Qd Q R hg k
  unfold gIsN at hg
  split at hg
  · obtain ⟨col, r, t1, t2⟩ := th2 R
    cases t2
    refine ⟨rfl, k _ _ _ ⟨col, r.push (d := .bool (isN a)) ?_⟩ hg⟩
    rw [isN_th t1]; exact .bl _
  · exact hg.elim
end
section
variable {X : Cx} {C : DC} {a b c : Expr} {ta tb tc : DE} {pos : Pos}
theorem chain_rd {f f' : Int → Int → Bool} {σ : St} {H : Hp} {Q : VK} (h : eOf C (dChain (gI0 fun i j => .bool (f i j)) (gI0 fun i j => .bool (f' i j)) ta tb tc) σ H Q) :
    tChain (rI0 fun i j => .bl (f i j)) (rI0 fun i j => .bl (f' i j)) (eOf C ta) (eOf C tb) (eOf C tc) σ H Q := by
  obtain ⟨ρ, P, Qd, R, ht, k⟩ := h
  exact ⟨ρ, P, _, R, ht, fun v x ρ1 H1 R1 h1 => ⟨ρ1, _, _, R1, h1, fun w y ρ2 H2 R2 h2 => by
    obtain ⟨col, r, t1, t2⟩ := th2 R2
    cases x with
    | int i =>
      cases y with
      | int j =>
        cases t1; cases t2
        refine ⟨i, j, rfl, rfl, f i j, rfl, ?_⟩
        have h2' : if f i j = true then tc ρ2 (fun c ρ3 => gI0 (fun i j => .bool (f' i j)) (.int j) c fun d => Qd d ρ3) else Qd (.bool false) ρ2 := h2
        cases e : f i j with
        | true =>
          rw [e] at h2'
          refine iteT ⟨ρ2, P, _, ⟨col, r⟩, by simpa using h2', fun u z ρ3 H3 R3 h3 => ?_⟩
          obtain ⟨col3, r3⟩ := R3
          have t3 := r3.pd _ List.mem_cons_self
          cases z with
          | int l =>
            cases (show ThV (Z col3) H3 u (.int l) from t3)
            exact ⟨j, l, rfl, rfl, k _ _ _ _ ⟨col3, (r3.sub fun _ h => List.mem_cons_of_mem _ h).push (.bl _)⟩ h3⟩
          | _ => exact h3.elim
        | false =>
          rw [e] at h2'
          exact iteF (k _ _ _ _ ⟨col, r.push (.bl false)⟩ (by simpa using h2'))
      | _ => exact h2.elim
    | _ => exact h2.elim⟩⟩
theorem pd_chain {op op' : CmpOp} {f f' : Int → Int → Bool} (ho : OpR X (compareOp op) (rI0 fun i j => .bl (f i j))) (ho' : OpR X (compareOp op') (rI0 fun i j => .bl (f' i j))) (ha : PE X a (eOf C ta)) (hb : PE X b (eOf C tb)) (hc : PE X c (eOf C tc))
    (hm : lastMarks [op, op'] [b, c] = false := by with_unfolding_all rfl) : PE X (.Compare a [op, op'] [b, c] pos) (eOf C (dChain (gI0 fun i j => .bool (f i j)) (gI0 fun i j => .bool (f' i j)) ta tb tc)) := PE.wk (pe_chain ho ho' ha hb hc hm) fun _ _ _ h => chain_rd h
theorem pdt_chain {op op' : CmpOp} {f f' : Int → Int → Bool} (ho : OpR X (compareOp op) (rI0 fun i j => .bl (f i j))) (ho' : OpR X (compareOp op') (rI0 fun i j => .bl (f' i j))) (ha : PE X a (eOf C ta)) (hb : PE X b (eOf C tb)) (hc : PE X c (eOf C tc))
    (hm : lastMarks [op, op'] [b, c] = false := by with_unfolding_all rfl) : PT X (.Compare a [op, op'] [b, c] pos) (cOf C (dT (dChain (gI0 fun i j => .bool (f i j)) (gI0 fun i j => .bool (f' i j)) ta tb tc))) := PT.wk (pt_chain ho ho' ha hb hc hm) fun _ _ _ h => chain_rd (dT_rd h)
end
end My
namespace My
open PySem L2
section
variable {X : Cx} {C : DC} {e a b : Expr} {es : List Expr} {t ta tb : DE} {u : DF} {pos : Pos}
theorem sub_cons {P P' : List Pe} {x : Pe} (h : ∀ p ∈ P, p ∈ P') : ∀ p ∈ x :: P, p ∈ x :: P' := fun p hp => (List.mem_cons.mp hp).elim (fun e => e ▸ List.mem_cons_self) fun hp => List.mem_cons_of_mem _ (h p hp)
def dNil  (ρ : List Sl) (Q : List PyData → List Sl → Prop) : Prop := Q [] ρ
def dCons (t : DE) (u : DF)  (ρ : List Sl) (Q : List PyData → List Sl → Prop) : Prop := t ρ fun d ρ1 => u ρ1 fun ds ρ2 => Q (d :: ds) ρ2
theorem dv_nil : PA X [] (vOf C dNil) := PA.wk pa_nil fun _ _ _ zz1 => el3 zz1 fun _ _ _ R ht k => k [] [] _ _ _ R (fun _ h => h) .nil ht
theorem dv_cons (ha : PE X e (eOf C t)) (hr : PA X es (vOf C u)) (hs : starEach (e :: es) X.env = (false, eval e X.env) :: starEach es X.env := by rfl) : PA X (e :: es) (vOf C (dCons t u)) := PA.wk (pa_cons ha hr hs) fun _ _ _ zz2 => el3 zz2 fun ρ P _ R ht k =>
  ⟨ρ, P, _, R, ht, fun _ _ ρ1 _ R1 h1 => ⟨ρ1, _, _, R1, h1, fun _ _ _ _ _ R2 s2 p2 h2 => k _ _ _ _ _ R2 (fun p hp => s2 p (List.mem_cons_of_mem _ hp)) (.cons (s2 _ List.mem_cons_self) p2) h2⟩⟩
def dTup (t : DF)  (ρ : List Sl) (Q : PyData → List Sl → Prop) : Prop := t ρ fun ds ρ' => ds.length ≤ 1000 ∧ Q (.tuple ds) ρ'
theorem pd_tup {x1} (h : PA X es (vOf C u)) : PE X (.Tuple es x1 pos) (eOf C (dTup u)) := PE.wk (pe_tup h) fun _ _ _ zz3 => el3 zz3 fun ρ P _ R ht k => ⟨ρ, P, _, R, ht, fun vs ds ρ' P' H' zz4 s p q => zz4.elim fun col r =>
  ⟨by rw [(p.th r).len]; exact Nat.le_of_lt (small1000 q.1), fun b hb => k _ _ _ _ ⟨col, (r.tup (p.th r) hb).sub (sub_cons s)⟩ q.2⟩⟩
def dLst (t : DF)  (ρ : List Sl) (Q : List PyData → List Sl → Prop) : Prop := t ρ fun ds ρ' => ds.length ≤ 1000 ∧ Q ds ρ'
theorem pf_lst (h : PA X es (vOf C u)) : PE X (.List es pos) (fOf C (dLst u)) := PE.wk (pe_lst h) fun _ _ _ zz5 => el3 zz5 fun ρ P _ R ht k => ⟨ρ, P, _, R, ht, fun vs ds ρ' P' H' zz6 s p q => zz6.elim fun col r =>
  ⟨by rw [(p.th r).len]; exact Nat.le_of_lt (small1000 q.1), fun b hb => k _ _ _ _ _ ⟨col, r.sub s, p.th r⟩ hb q.2⟩⟩
def dF (t : DF)  (ρ : List Sl) (Q : PyData → List Sl → Prop) : Prop := t ρ fun ds ρ' => Q (.list ds) ρ'
theorem pd_f (h : PE X e (fOf C u)) : PE X e (eOf C (dF u)) := PE.wk h fun _ _ _ zz7 => el3 zz7 fun ρ P _ R ht k => ⟨ρ, P, _, R, ht, fun _ _ _ _ _ zz8 hp q => el2 zz8 fun col r t => k _ _ _ _ ⟨col, r.lst t hp⟩ q⟩
def ixD (a b : PyData) : Option PyData := match a, b with
  | .list xs, .int i => atI xs i
  | .tuple xs, .int i => atI xs i
  | _, _ => none
theorem atI_th {F : Addr → Prop} {H : Hp} {vs : List V} {ds : List PyData} {i : Int} {d : PyData} (t : ThVs F H vs ds) (h : atI ds i = some d) : ∃ v, atI vs i = some v ∧ ThV F H v d := by
  unfold atI at h ⊢
  rw [t.len]
  cases q : ixN ds.length i with
  | none => rw [q] at h; cases h
  | some j =>
    rw [q] at h
    exact t.at h
theorem ix_rd {K : PySem.W.Frag} {col : Addr → Nat} {H : Hp} {v w : V} {a b d : PyData} (t1 : Red col H v a) (t2 : ThV (Z col) H w b) (h : ixD a b = some d) : ∃ u, ThV (Z col) H u d ∧ ∀ Q : VK, Q u H → rIx K v w H Q := by
  unfold ixD at h
  split at h
  · cases t2
    obtain ⟨p, vs, rfl, e, t⟩ := t1.lst
    obtain ⟨u, hu, tu⟩ := atI_th t h
    exact ⟨u, tu, fun Q q => .inl ⟨p, vs, _, u, rfl, rfl, SqL.of e, hu, q⟩⟩
  · cases t2
    obtain ⟨p, vs, rfl, e, t⟩ := t1.tup
    obtain ⟨u, hu, tu⟩ := atI_th t h
    exact ⟨u, tu, fun Q q => .inr (.inl ⟨p, vs, _, u, rfl, rfl, SqT.of e, hu, q⟩)⟩
  · cases h
def dIx (ta tb : DE)  (ρ : List Sl) (Q : PyData → List Sl → Prop) : Prop := ta ρ fun a ρ1 => tb ρ1 fun b ρ2 => bnd (ixD a b) fun d => Q d ρ2
theorem pd_ix (ha : PE X a (eOf C ta)) (hb : PE X b (eOf C tb)) (hs : PlainIx b) : PE X (.Subscript a b pos) (eOf C (dIx ta tb)) := PE.wk (pe_ix ix_seq ha hb hs) fun _ _ _ zz9 => el3 zz9 fun ρ P _ R ht k => ⟨ρ, P, _, R, ht, fun v _ ρ1 H1 R1 h1 => ⟨ρ1, _, _, R1, h1, fun w _ ρ2 H2 R2 h2 => by
  obtain ⟨d, hd, q⟩ := bnd_of h2
  obtain ⟨col, r, t1, t2⟩ := th2 R2
  obtain ⟨u, tu, f⟩ := ix_rd (K := X.K) (.th t1) t2 hd
  exact f _ (k _ _ _ _ ⟨col, r.push tu⟩ q)⟩⟩
def dIxV (i : Nat) (tb : DE)  (ρ : List Sl) (Q : PyData → List Sl → Prop) : Prop := bnd (slotD ρ i) fun _ => tb ρ fun b ρ2 => bnd (slotD ρ2 i) fun a => bnd (ixD a b) fun d => Q d ρ2
theorem pd_ixv {i : Nat} (ha : PE X a (tVar i)) (hb : PE X b (eOf C tb)) (hs : PlainIx b) : PE X (.Subscript a b pos) (eOf C (dIxV i tb)) := PE.wk (pe_ix ix_seq ha hb hs) fun σ H Q zz10 => el3 zz10 fun ρ P Qd zz11 ht k => zz11.elim fun col0 r0 => by
  obtain ⟨_, h0, ht⟩ := bnd_of ht
  obtain ⟨v, ev, _⟩ := r0.slot h0
  refine ⟨v, ev, ρ, P, _, ⟨col0, r0⟩, ht, fun w b ρ2 H2 R2 h2 => ?_⟩
  obtain ⟨a, ha, h2⟩ := bnd_of h2
  obtain ⟨d, hd, q⟩ := bnd_of h2
  obtain ⟨col, r⟩ := R2
  obtain ⟨v', ev', t1⟩ := r.slot ha
  rw [ev] at ev'
  cases ev'
  obtain ⟨u, tu, f⟩ := ix_rd (K := X.K) t1 (r.pd _ List.mem_cons_self) hd
  exact f _ (k _ _ _ _ ⟨col, (r.sub fun _ h => List.mem_cons_of_mem _ h).push tu⟩ q)
def CbOk (C : DC) (r : List V → Hp → VK → Prop) (g : List PyData → (PyData → Prop) → Prop) : Prop :=
  ∀ {ρ : List Sl} {σ : St} {P : List Pe} {col : Addr → Nat} {H : Hp} {vs : List V} {ds : List PyData} {Qd : PyData → Prop} {Q : VK}, RelC C col ρ σ P H → ThVs (Z col) H vs ds → g ds Qd → (∀ u d H', Rel C ρ σ (.v u d :: P) H' → Qd d → Q u H') → r vs H Q
def dCb (g : List PyData → (PyData → Prop) → Prop) (u : DF)  (ρ : List Sl) (Q : PyData → List Sl → Prop) : Prop := u ρ fun ds ρ' => g ds fun d => Q d ρ'
theorem pd_cb {r : List V → Hp → VK → Prop} {g : List PyData → (PyData → Prop) → Prop} (hr : CbOk C r g) (h : PE X e (tCB r (vOf C u))) : PE X e (eOf C (dCb g u)) := PE.wk h fun _ _ _ zz12 => el3 zz12 fun ρ P _ R ht k => ⟨ρ, P, _, R, ht, fun vs ds ρ' P' H' zz13 s p q => zz13.elim fun col r =>
  hr (r.sub s) (p.th r) q fun u d H2 R2 q2 => k _ _ _ _ R2 q2⟩
theorem ths1 {F : Addr → Prop} {H : Hp} {vs : List V} {d : PyData} (t : ThVs F H vs [d]) : ∃ v, vs = [v] ∧ ThV F H v d := by
  cases t with
  | cons x y => cases y; exact ⟨_, rfl, x⟩
theorem ths2 {F : Addr → Prop} {H : Hp} {vs : List V} {d d' : PyData} (t : ThVs F H vs [d, d']) : ∃ v w, vs = [v, w] ∧ ThV F H v d ∧ ThV F H w d' := by
  cases t with
  | cons x y =>
    obtain ⟨w, rfl, z⟩ := ths1 y
    exact ⟨_, w, rfl, x, z⟩
def lenD : PyData → Option Nat
  | .list xs => some xs.length
  | .tuple xs => some xs.length
  | _ => none
def gLen  (ds : List PyData) (Q : PyData → Prop) : Prop := match ds with
  | [d] => bnd (lenD d) fun n => Q (.int n)
  | _ => False
abbrev rLen (K : PySem.W.Frag) : List V → Hp → VK → Prop := fun xs H Q => ∃ p ys, xs = [.ref p] ∧ (SqL K H p ys ∨ SqT K H p ys) ∧ Q (.int ys.length) H
theorem len_rd {K : PySem.W.Frag} {col : Addr → Nat} {H : Hp} {v : V} {a : PyData} {n : Nat} {Q : VK} (t : Red col H v a) (h : lenD a = some n) (q : Q (.int n) H) : rLen K [v] H Q := by
  cases a with
  | list ds =>
    cases h
    obtain ⟨p, vs, rfl, e, t⟩ := t.lst
    exact ⟨p, vs, rfl, .inl (SqL.of e), by rw [t.len]; exact q⟩
  | tuple ds =>
    cases h
    obtain ⟨p, vs, rfl, e, t⟩ := t.tup
    exact ⟨p, vs, rfl, .inr (SqT.of e), by rw [t.len]; exact q⟩
  | _ => cases h
theorem cb_len {K : PySem.W.Frag} : CbOk C (rLen K) gLen := by
  intro ρ σ P col H vs ds Qd Q r t g k
  unfold gLen at g
  split at g
  · obtain ⟨v, rfl, t1⟩ := ths1 t
    obtain ⟨n, hn, q⟩ := bnd_of g
    exact len_rd (.th t1) hn (k _ _ _ ⟨col, r.push (.int _)⟩ q)
  · exact g.elim
def dLenV (i : Nat)  (ρ : List Sl) (Q : PyData → List Sl → Prop) : Prop := bnd (slotD ρ i) fun a => bnd (lenD a) fun n => Q (.int n) ρ
theorem pd_lenv {i : Nat} {K : PySem.W.Frag} (h : PE X e (tCB (rLen K) (tCons (tVar i) tNil))) : PE X e (eOf C (dLenV i)) := PE.wk h fun _ _ _ zz14 => el3 zz14 fun ρ P _ zz15 ht k => zz15.elim fun col r => by
  obtain ⟨a, ha, ht⟩ := bnd_of ht
  obtain ⟨n, hn, q⟩ := bnd_of ht
  obtain ⟨v, ev, t⟩ := r.slot ha
  exact ⟨v, ev, len_rd t hn (k _ _ _ _ ⟨col, r.push (.int _)⟩ q)⟩
def gI2 (f : Int → Int → Int)  (ds : List PyData) (Q : PyData → Prop) : Prop := match ds with
  | [.int i, .int j] => Q (.int (f i j))
  | _ => False
def gMin := gI2 fun i j => if j < i then j else i
def gMax := gI2 fun i j => if j > i then j else i
def gAbs  (ds : List PyData) (Q : PyData → Prop) : Prop := match ds with
  | [.int i] => Q (.int (if i < 0 then -i else i))
  | _ => False
theorem cb_abs : CbOk C (fun xs H Q => ∃ i, xs = [.int i] ∧ Q (.int (if i < 0 then -i else i)) H) gAbs := by
  intro ρ σ P col H vs ds Qd Q r t g k
  unfold gAbs at g
  split at g
  · obtain ⟨v, rfl, t1⟩ := ths1 t
    cases t1
    exact ⟨_, rfl, k _ _ _ ⟨col, r.push (.int _)⟩ g⟩
  · exact g.elim
def gInt  (ds : List PyData) (Q : PyData → Prop) : Prop := match ds with
  | [.int i] => Q (.int i)
  | [.bool b] => Q (.int (if b then 1 else 0))
  | _ => False
def boolsD : List PyData → Option (List Bool)
  | [] => some []
  | .bool b :: r => (boolsD r).map (b :: ·)
  | _ :: _ => none
def gBs (f : List Bool → Bool)  (ds : List PyData) (Q : PyData → Prop) : Prop := match ds with
  | [.list xs] => bnd (boolsD xs) fun bs => Q (.bool (f bs))
  | _ => False
def gAll := gBs fun bs => bs.all id
def gAny := gBs fun bs => bs.any id
abbrev rListOf (K : PySem.W.Frag) : List V → Hp → VK → Prop := fun xs H Q => ∃ p ys, xs = [.ref p] ∧ (SqL K H p ys ∨ SqT K H p ys) ∧ ∀ l, H l = none → Q (.ref l) (upd H l (.lst ys))
def itemsD : PyData → Option (List PyData)
  | .list xs => some xs
  | .tuple xs => some xs
  | _ => none
theorem items_rd {col : Addr → Nat} {H : Hp} {v : V} {a : PyData} {ds : List PyData} (t : Red col H v a) (h : itemsD a = some ds) : ∃ p vs, v = .ref p ∧ (H p = some (.lst vs) ∨ H p = some (.tup vs)) ∧ ThVs (Z col) H vs ds := by
  cases a with
  | list ds =>
    cases h
    obtain ⟨p, vs, rfl, e, t⟩ := t.lst
    exact ⟨p, vs, rfl, .inl e, t⟩
  | tuple ds =>
    cases h
    obtain ⟨p, vs, rfl, e, t⟩ := t.tup
    exact ⟨p, vs, rfl, .inr e, t⟩
  | _ => cases h
def dListV (i : Nat)  (ρ : List Sl) (Q : List PyData → List Sl → Prop) : Prop := bnd (slotD ρ i) fun a => bnd (itemsD a) fun ds => Q ds ρ
theorem pf_listv {i : Nat} {K : PySem.W.Frag} (h : PE X e (tCB (rListOf K) (tCons (tVar i) tNil))) : PE X e (fOf C (dListV i)) := PE.wk h fun _ _ _ zz16 => el3 zz16 fun ρ P _ zz17 ht k => zz17.elim fun col r => by
  obtain ⟨a, ha, ht⟩ := bnd_of ht
  obtain ⟨ds, hn, q⟩ := bnd_of ht
  obtain ⟨v, ev, t⟩ := r.slot ha
  obtain ⟨p, vs, rfl, e, t⟩ := items_rd t hn
  exact ⟨_, ev, p, vs, rfl, e.elim (fun e => .inl (SqL.of e)) (fun e => .inr (SqT.of e)), fun l hl => k _ _ _ _ _ ⟨col, r, t⟩ hl q⟩
def dList (ta : DE)  (ρ : List Sl) (Q : List PyData → List Sl → Prop) : Prop := ta ρ fun a ρ' => bnd (itemsD a) fun ds => Q ds ρ'
theorem pf_list {K : PySem.W.Frag} (h : PE X e (tCB (rListOf K) (tCons (eOf C ta) tNil))) : PE X e (fOf C (dList ta)) := PE.wk h fun _ _ _ zz18 => el3 zz18 fun ρ P _ R ht k => ⟨ρ, P, _, R, ht, fun v d ρ' H' zz19 q => zz19.elim fun col r => by
  obtain ⟨ds, hn, q⟩ := bnd_of q
  obtain ⟨p, vs, rfl, e, t⟩ := items_rd (.th (r.pd _ List.mem_cons_self)) hn
  exact ⟨p, vs, rfl, e.elim (fun e => .inl (SqL.of e)) (fun e => .inr (SqT.of e)), fun l hl => k _ _ _ _ _ ⟨col, r.sub fun _ h => List.mem_cons_of_mem _ h, t⟩ hl q⟩⟩
abbrev DO := List Sl → (Option Int → List Sl → Prop) → Prop
def oN  (ρ : List Sl) (Q : Option Int → List Sl → Prop) : Prop := Q none ρ
def oS (t : DE)  (ρ : List Sl) (Q : Option Int → List Sl → Prop) : Prop := t ρ fun d ρ' => match d with
  | .int i => Q (some i) ρ'
  | _ => False
def cutD (xs : List PyData) (lo hi : Option Int) : List PyData := (xs.drop (HT.sIx xs.length 0 lo)).take (HT.sIx xs.length xs.length hi - HT.sIx xs.length 0 lo)
def listD : PyData → Option (List PyData)
  | .list xs => some xs
  | _ => none
def dSlV (i : Nat) (tl th : DO)  (ρ : List Sl) (Q : List PyData → List Sl → Prop) : Prop := bnd (slotD ρ i) fun _ => tl ρ fun lo ρ1 => th ρ1 fun hi ρ2 => bnd (slotD ρ2 i) fun a => bnd (listD a) fun xs => Q (cutD xs lo hi) ρ2
def dSl (ta : DE) (tl th : DO)  (ρ : List Sl) (Q : List PyData → List Sl → Prop) : Prop := ta ρ fun a ρ0 => tl ρ0 fun lo ρ1 => th ρ1 fun hi ρ2 => bnd (listD a) fun xs => Q (cutD xs lo hi) ρ2
def dCat (ta tb : DE)  (ρ : List Sl) (Q : List PyData → List Sl → Prop) : Prop := ta ρ fun a ρ1 => tb ρ1 fun b ρ2 => bnd (listD a) fun xs => bnd (listD b) fun ys => xs.length + ys.length ≤ 100000 ∧ Q (xs ++ ys) ρ2
theorem pf_cat (ha : PE X a (eOf C ta)) (hb : PE X b (eOf C tb)) : PE X (.BinOp a .Add b pos) (fOf C (dCat ta tb)) := PE.wk (pe_op op_cat ha hb) fun σ H Q zz25 => el3 zz25 fun ρ P Qd R ht k =>
  ⟨ρ, P, _, R, ht, fun v a ρ1 H1 R1 h1 => ⟨ρ1, _, _, R1, h1, fun w b ρ2 H2 R2 h2 => by
    obtain ⟨xs, hx, h2⟩ := bnd_of h2
    obtain ⟨ys, hy, h3, q⟩ := bnd_of h2
    obtain ⟨col, r, t1, t2⟩ := th2 R2
    cases a with
    | list ds =>
      cases b with
      | list es =>
        cases hx; cases hy
        obtain ⟨p, vs, rfl, e, t⟩ := Red.lst (.th t1)
        obtain ⟨p', vs', rfl, e', t'⟩ := Red.lst (.th t2)
        exact ⟨p, p', vs, vs', rfl, rfl, e, e', by rw [t.len, t'.len, sizeLine_eq]; lia, fun b hb => k _ _ _ _ _ ⟨col, r, t.append t'⟩ hb q⟩
      | _ => cases hy
    | _ => cases hx⟩⟩
def repD (xs : List PyData) (n : Nat) : List PyData := (List.replicate n xs).flatten
theorem rep_th {F : Addr → Prop} {H : Hp} {vs : List V} {ds : List PyData} (t : ThVs F H vs ds) : ∀ n : Nat, ThVs F H (List.replicate n vs).flatten (repD ds n)
  | 0 => .nil
  | n + 1 => by
    unfold repD
    rw [List.replicate_succ, List.replicate_succ, List.flatten_cons, List.flatten_cons]
    exact t.append (rep_th t n)
def dRep (ta tb : DE)  (ρ : List Sl) (Q : List PyData → List Sl → Prop) : Prop := ta ρ fun a ρ1 => tb ρ1 fun b ρ2 => match b with
  | .int k => bnd (listD a) fun xs => (-1000 ≤ k ∧ k ≤ 1000 ∧ xs.length ≤ 100) ∧ Q (repD xs k.toNat) ρ2
  | _ => False
theorem pf_rep (ha : PE X a (eOf C ta)) (hb : PE X b (eOf C tb)) : PE X (.BinOp a .Mult b pos) (fOf C (dRep ta tb)) := PE.wk (pe_op op_rep ha hb) fun σ H Q zz26 => el3 zz26 fun ρ P Qd R ht k =>
  ⟨ρ, P, _, R, ht, fun v a ρ1 H1 R1 h1 => ⟨ρ1, _, _, R1, h1, fun w b ρ2 H2 R2 h2 => by
    split at h2
    · obtain ⟨xs, hx, ⟨h3, h4, h5⟩, q⟩ := bnd_of h2
      obtain ⟨col, r, t1, t2⟩ := th2 R2
      cases t2
      cases a with
      | list ds =>
        cases hx
        obtain ⟨p, vs, rfl, e, t⟩ := Red.lst (.th t1)
        rename_i kk
        refine ⟨p, kk, vs, rfl, rfl, e, by lia, by lia, ?_, fun b hb => k _ _ _ _ _ ⟨col, r, rep_th t _⟩ hb q⟩
        have hl := t.len
        rw [← hl] at h5
        have : vs.length * kk.toNat ≤ 100 * 1000 := Nat.mul_le_mul h5 (by lia)
        rw [sizeLine_eq]
        lia
      | _ => cases hx
    · exact h2.elim⟩⟩
def tyD : PyData → Option String
  | .none => some "NoneType"
  | .bool _ => some "bool"
  | .int _ => some "int"
  | .str _ => some "str"
  | .list _ => some "list"
  | .tuple _ => some "tuple"
  | .dict _ => some "dict"
theorem ty_rd {K : PySem.W.Frag} {col : Addr → Nat} {H : Hp} {v : V} {a : PyData} (t : Red col H v a) : ∃ T, tyD a = some T ∧ TyOf2 K H v (.type T) := by
  cases t with
  | th t => cases t with
    | non => exact ⟨_, rfl, .o .non⟩
    | bl b => exact ⟨_, rfl, .o (.bl b)⟩
    | int i => exact ⟨_, rfl, .o (.int i)⟩
    | str x => exact ⟨_, rfl, .o (.str x)⟩
    | lst _ e _ => exact ⟨_, rfl, .o (.lst e)⟩
    | tup _ e _ => exact ⟨_, rfl, .o (.tup e)⟩
    | dic _ e u => cases u with
      | t => exact ⟨_, rfl, .o (.dT e)⟩
      | k i j => exact ⟨_, rfl, .o (.dK e)⟩
      | f o ks => exact ⟨_, rfl, .f e⟩
  | ls e _ => exact ⟨_, rfl, .o (.lst e)⟩
def isiD (T : String) (d : PyData) : Bool := match tyD d with
  | some t => t == T || (T == "int" && t == "bool")
  | none => false
def TyOk (K : PySem.W.Frag) (T : String) : Prop := ∀ d t, tyD d = some t → PySem.W.kitOne K (.type t) (.type T) = some (isiD T d)
abbrev rIsi (K : PySem.W.Frag) : List V → Hp → VK → Prop := fun xs H Q => ∃ x cv c t b, xs = [x, cv] ∧ RelV cv c ∧ TyOf2 K H x t ∧ PySem.W.kitOne K t c = some b ∧ Q (.bl b) H
def dIsiV (i : Nat) (T : String)  (ρ : List Sl) (Q : PyData → List Sl → Prop) : Prop := bnd (slotD ρ i) fun a => Q (.bool (isiD T a)) ρ
theorem pd_isiv {i : Nat} {K : PySem.W.Frag} {T : String} (hT : TyOk K T) (h : PE X e (tCB (rIsi K) (tCons (tVar i) (tCons (tC (.ty T)) tNil)))) : PE X e (eOf C (dIsiV i T)) := PE.wk h fun _ _ _ zz27 => el3 zz27 fun ρ P _ zz28 ht k => zz28.elim fun col r => by
  obtain ⟨a, ha, q⟩ := bnd_of ht
  obtain ⟨v, ev, t⟩ := r.slot ha
  obtain ⟨t', e1, e2⟩ := ty_rd (K := K) t
  exact ⟨v, ev, v, .ty T, .type T, _, _, rfl, rfl, e2, hT a t' e1, k _ _ _ _ ⟨col, r.push (.bl _)⟩ q⟩
def dIsi (ta : DE) (T : String)  (ρ : List Sl) (Q : PyData → List Sl → Prop) : Prop := ta ρ fun a ρ' => Q (.bool (isiD T a)) ρ'
theorem pd_isi {K : PySem.W.Frag} {T : String} (hT : TyOk K T) (h : PE X e (tCB (rIsi K) (tCons (eOf C ta) (tCons (tC (.ty T)) tNil)))) : PE X e (eOf C (dIsi ta T)) := PE.wk h fun _ _ _ zz29 => el3 zz29 fun ρ P _ R ht k => ⟨ρ, P, _, R, ht, fun v d ρ' H' zz30 q => zz30.elim fun col r => by
  obtain ⟨t', e1, e2⟩ := ty_rd (K := K) (.th (r.pd _ List.mem_cons_self))
  exact ⟨v, .ty T, .type T, _, _, rfl, rfl, e2, hT d t' e1, k _ _ _ _ ⟨col, (r.sub fun _ h => List.mem_cons_of_mem _ h).push (.bl _)⟩ q⟩⟩
theorem ty_int {K : PySem.W.Frag} : TyOk K "int" := fun d t h => by cases d <;> cases h <;> with_unfolding_all rfl
theorem ty_bool {K : PySem.W.Frag} : TyOk K "bool" := fun d t h => by cases d <;> cases h <;> with_unfolding_all rfl
theorem ty_list {K : PySem.W.Frag} : TyOk K "list" := fun d t h => by cases d <;> cases h <;> with_unfolding_all rfl
theorem ty_tuple {K : PySem.W.Frag} : TyOk K "tuple" := fun d t h => by cases d <;> cases h <;> with_unfolding_all rfl
end
inductive Md where
  | sh
  | bo
  | hd
  | b2
  | bd
def rowsL : List PyData → Option (List (List PyData))
  | [] => some []
  | .list ds :: r => (rowsL r).map (ds :: ·)
  | _ => none
def rowsD : PyData → Option (List (List PyData))
  | .list xs => rowsL xs
  | _ => none
abbrev lls (dss : List (List PyData)) : List PyData := dss.map PyData.list
theorem rowsL_eq {xs : List PyData} {dss : List (List PyData)} (h : rowsL xs = some dss) : xs = lls dss := by
  induction xs generalizing dss with
  | nil => cases h; rfl
  | cons x r ih =>
    cases x with
    | list ds =>
      have h' : (rowsL r).map (ds :: ·) = some dss := h
      cases q : rowsL r with
      | none => rw [q] at h'; cases h'
      | some ess =>
        rw [q] at h'
        cases h'
        rw [ih q]; rfl
    | _ => cases h
theorem rowsD_eq {d : PyData} {dss : List (List PyData)} (h : rowsD d = some dss) : d = .list (lls dss) := by
  cases d with
  | list xs => rw [rowsL_eq h]
  | _ => cases h
theorem th_rows {F : Addr → Prop} {H : Hp} {dss : List (List PyData)} {vs : List V} (t : ThVs F H vs (lls dss)) : ∃ as : List Addr, vs = as.map V.ref ∧ Rws F F H as dss := by
  induction dss generalizing vs with
  | nil => cases t; exact ⟨[], rfl, .nil⟩
  | cons ds dss ih =>
    cases t with
    | cons x y =>
      obtain ⟨as, rfl, r⟩ := ih y
      cases x with
      | lst n e z => exact ⟨_ :: as, rfl, .cons n e z r⟩
def slot2 (ρ : List Sl) (i : Nat) : Option (List (List PyData)) := match ρ[i]? with
  | some (.o2 dss) => some dss
  | some (.b2 dss) => some dss
  | some (.sh d) => rowsD d
  | _ => none
def ArgR (F : Addr → Prop) (hand : Option (Addr × Addr)) (H : Hp) (v : V) (d : PyData) : Md → Prop
  | .sh => ThV F H v d
  | .bo => ∃ a vs ds, v = .ref a ∧ d = .list ds ∧ (∀ q, hand = some q → a ≠ q.1) ∧ H a = some (.lst vs) ∧ ThVs F H vs ds
  | .hd => ∃ q, hand = some q ∧ v = .ref q.1
  | .b2 => ∃ a as dss, v = .ref a ∧ d = .list (lls dss) ∧ (∀ q, hand = some q → a ≠ q.1) ∧ H a = some (.lst (as.map V.ref)) ∧ Rws (fun b => ∀ q, hand = some q → b ≠ q.1) F H as dss
  | .bd => ThV (fun b => ∀ q, hand = some q → b ≠ q.1) H v d
inductive ArgsR (F : Addr → Prop) (hand : Option (Addr × Addr)) (H : Hp) : List Md → List V → List PyData → Prop
  | nil : ArgsR F hand H [] [] []
  | cons {m v d ms vs ds} : ArgR F hand H v d m → ArgsR F hand H ms vs ds → ArgsR F hand H (m :: ms) (v :: vs) (d :: ds)
theorem ArgsR.len {F : Addr → Prop} {hand : Option (Addr × Addr)} {H : Hp} {ms : List Md} {vs : List V} {ds : List PyData} (t : ArgsR F hand H ms vs ds) : vs.length = ms.length ∧ ds.length = ms.length := by
  induction t with
  | nil => exact ⟨rfl, rfl⟩
  | cons _ t ih => exact ⟨congrArg (· + 1) ih.1, congrArg (· + 1) ih.2⟩
abbrev DSp := List PyData → (PyData → Prop) → Prop
def spD (ms : List Md) (sp : DSp) : Sp := fun vs H Q _ => ∃ F hand ds Qd, ((∀ b, H b = none → F b) ∧ ∀ b xs, H b = some (.tup xs) → F b) ∧ (∀ q, hand = some q → ¬ F q.1) ∧ Hq hand H ∧ ArgsR F hand H ms vs ds ∧ sp ds Qd ∧ ∀ d v H', Qd d → ThV F H' v d → Kq hand H H' → Hq hand H' → Q v H'
inductive Ar where
  | v (d : PyData)
  | s (i : Nat)
  | w (d : PyData)
inductive ArV (σ : St) (P : List Pe) : List V → List Ar → Prop
  | nil : ArV σ P [] []
  | v {v d vs as} : Pe.v v d ∈ P → ArV σ P vs as → ArV σ P (v :: vs) (.v d :: as)
  | s {i v vs as} : σ[i]? = some (some v) → ArV σ P vs as → ArV σ P (v :: vs) (.s i :: as)
  | w {v d vs as} : Pe.w v d ∈ P → ArV σ P vs as → ArV σ P (v :: vs) (.w d :: as)
abbrev DA := List Sl → (List Ar → List Sl → Prop) → Prop
def aOf (C : DC) (t : DA) : TA := fun σ H Q => ∃ ρ P Qd, Rel C ρ σ P H ∧ t ρ Qd ∧ ∀ vs as ρ' P' H', Rel C ρ' σ P' H' → (∀ p ∈ P, p ∈ P') → ArV σ P' vs as → Qd as ρ' → Q vs H'
def isSl (ρ : List Sl) (i : Nat) : Bool := match ρ[i]? with
  | some .no => false
  | none => false
  | _ => true
section
variable {X : Cx} {C : DC} {e : Expr} {es : List Expr} {t : DE} {u : DA}
def aNil  (ρ : List Sl) (Q : List Ar → List Sl → Prop) : Prop := Q [] ρ
def aV (t : DE) (u : DA)  (ρ : List Sl) (Q : List Ar → List Sl → Prop) : Prop := t ρ fun d ρ1 => u ρ1 fun as ρ2 => Q (.v d :: as) ρ2
def aS (i : Nat) (u : DA)  (ρ : List Sl) (Q : List Ar → List Sl → Prop) : Prop := isSl ρ i = true ∧ u ρ fun as ρ2 => Q (.s i :: as) ρ2
theorem da_nil : PA X [] (aOf C aNil) := PA.wk pa_nil fun _ _ _ zz31 => el3 zz31 fun _ _ _ R ht k => k [] [] _ _ _ R (fun _ h => h) .nil ht
theorem da_v (ha : PE X e (eOf C t)) (hr : PA X es (aOf C u)) (hs : starEach (e :: es) X.env = (false, eval e X.env) :: starEach es X.env := by rfl) : PA X (e :: es) (aOf C (aV t u)) := PA.wk (pa_cons ha hr hs) fun _ _ _ zz32 => el3 zz32 fun ρ P _ R ht k =>
  ⟨ρ, P, _, R, ht, fun _ _ ρ1 _ R1 h1 => ⟨ρ1, _, _, R1, h1, fun _ _ _ _ _ R2 s2 p2 h2 => k _ _ _ _ _ R2 (fun p hp => s2 p (List.mem_cons_of_mem _ hp)) (.v (s2 _ List.mem_cons_self) p2) h2⟩⟩
theorem slot_at {col : Addr → Nat} {ρ : List Sl} {σ : St} {P : List Pe} {H : Hp} {i : Nat} (r : RelC C col ρ σ P H) (h : isSl ρ i = true) : ∃ v, σ[i]? = some (some v) := by
  unfold isSl at h
  split at h
  · cases h
  · cases h
  · rename_i s n1 n2
    cases q : ρ[i]? with
    | none => exact absurd q n2
    | some s =>
      have z := r.sl i s q
      cases s with
      | no => exact absurd q n1
      | sh d => obtain ⟨v, e, _⟩ := z; exact ⟨v, join_some e⟩
      | ow d => obtain ⟨a, _, e, _⟩ := z; exact ⟨_, join_some e⟩
      | bo d => obtain ⟨a, _, e, _⟩ := z; exact ⟨_, join_some e⟩
      | hd => obtain ⟨q, _, e⟩ := z; exact ⟨_, join_some e⟩
      | o2 d => obtain ⟨a, _, e, _⟩ := z; exact ⟨_, join_some e⟩
      | b2 d => obtain ⟨a, _, e, _⟩ := z; exact ⟨_, join_some e⟩
      | di f ks => obtain ⟨a, e, _⟩ := z; exact ⟨_, join_some e⟩
      | dm f ks => obtain ⟨a, e, _⟩ := z; exact ⟨_, join_some e⟩
      | bd d => obtain ⟨v, e, _⟩ := z; exact ⟨v, join_some e⟩
      | ot d => obtain ⟨v, e, _⟩ := z; exact ⟨v, join_some e⟩
def lentD (ρ : List Sl) (i : Nat) : Option PyData := match ρ[i]? with
  | some (.bd d) => some d
  | _ => none
theorem RelC.lent {col : Addr → Nat} {ρ : List Sl} {σ : St} {P : List Pe} {H : Hp} (r : RelC C col ρ σ P H) {i : Nat} {d : PyData} (h : lentD ρ i = some d) : ∃ v, σ[i]? = some (some v) ∧ ThV (Le C) C.H0 v d := by
  unfold lentD at h
  split at h
  · rename_i d' e
    cases h
    obtain ⟨v, e1, t⟩ := r.sl i _ e
    exact ⟨v, join_some e1, t⟩
  · cases h
theorem RelC.le {col : Addr → Nat} {ρ : List Sl} {σ : St} {P : List Pe} {H : Hp} (r : RelC C col ρ σ P H) {v : V} {d : PyData} (t : ThV (Le C) C.H0 v d) : ThV (Le C) H v d := t.mv fun b o g e => ⟨g, r.kq b o e g.2⟩
theorem RelC.slot2 {col : Addr → Nat} {ρ : List Sl} {σ : St} {P : List Pe} {H : Hp} (r : RelC C col ρ σ P H) {i : Nat} {dss : List (List PyData)} (h : slot2 ρ i = some dss) : ∃ a as, σ[i]? = some (some (.ref a)) ∧ (∀ q, C.hand = some q → a ≠ q.1) ∧ H a = some (.lst (as.map V.ref)) ∧ Rws (fun b => ∀ q, C.hand = some q → b ≠ q.1) (Z col) H as dss := by
  unfold My.slot2 at h
  split at h
  · rename_i dss' e
    cases h
    obtain ⟨a, as, e1, c, e2, nd, t⟩ := r.sl i _ e
    exact ⟨a, as, join_some e1, r.notH (by have := c.1; lia), e2, t.mv (fun b o z e => ⟨z, e⟩) fun b o g e => ⟨r.notH (by have := g.1; lia), e⟩⟩
  · rename_i dss' e
    cases h
    obtain ⟨a, as, e1, c, e2, t⟩ := r.sl i _ e
    exact ⟨a, as, join_some e1, c.2, e2, t.mv (fun b o z e => ⟨z, e⟩) fun b o g e => ⟨g.2, e⟩⟩
  · rename_i d e
    cases rowsD_eq h
    obtain ⟨v, e1, t⟩ := r.sl i _ e
    cases t with
    | lst n e2 t =>
      obtain ⟨as, rfl, t2⟩ := th_rows t
      exact ⟨_, as, join_some e1, r.notH (by rw [show col _ = 0 from n]; decide), e2, t2.mv (fun b o z e => ⟨z, e⟩) fun b o g e => ⟨r.notH (by rw [show col b = 0 from g]; decide), e⟩⟩
  · cases h
theorem da_s {i : Nat} (ha : PE X e (tVar i)) (hr : PA X es (aOf C u)) (hs : starEach (e :: es) X.env = (false, eval e X.env) :: starEach es X.env := by rfl) : PA X (e :: es) (aOf C (aS i u)) := PA.wk (pa_cons ha hr hs) fun σ H Q zz33 => el3 zz33 fun ρ P Qd zz34 ht k => zz34.elim fun col r => by
  obtain ⟨v, ev⟩ := slot_at r ht.1
  exact ⟨v, ev, ρ, P, _, ⟨col, r⟩, ht.2, fun _ _ _ _ _ R2 s2 p2 h2 => k _ _ _ _ _ R2 s2 (.s ev p2) h2⟩
def arD (ρ : List Sl) (m : Md) (a : Ar) : Option PyData := match m, a with
  | .sh, .v d => some d
  | .bo, .v (.list ds) => some (.list ds)
  | .bo, .s i => (slotD ρ i).bind fun d => (listD d).map PyData.list
  | .hd, .s i => match ρ[i]? with
    | some .hd => some .none
    | _ => none
  | .b2, .s i => (slot2 ρ i).map fun dss => .list (lls dss)
  | .bd, .v d => some d
  | .bd, .w d => some d
  | .bd, .s i => match ρ[i]? with
    | some (.bd d) => some d
    | some (.sh d) => some d
    | _ => none
  | _, _ => none
def arsD (ρ : List Sl) : List Md → List Ar → Option (List PyData)
  | [], [] => some []
  | m :: ms, a :: as => (arD ρ m a).bind fun d => (arsD ρ ms as).map (d :: ·)
  | _, _ => none
theorem listD_eq {d : PyData} {xs : List PyData} (h : listD d = some xs) : d = .list xs := by
  cases d <;> cases h
  rfl
theorem ar_ok {col : Addr → Nat} {ρ : List Sl} {σ : St} {P : List Pe} {H : Hp} (r : RelC C col ρ σ P H) {m : Md} {v : V} {d : PyData} {a : Ar} (ha : match a with | .v d => Pe.v v d ∈ P | .s i => σ[i]? = some (some v) | .w d => Pe.w v d ∈ P) (h : arD ρ m a = some d) : ArgR (Z col) C.hand H v d m := by
  unfold arD at h
  split at h
  · cases h; exact r.pd _ ha
  · cases h
    have z : ThV (Z col) H v (.list _) := r.pd _ ha
    cases z with
    | lst za e t => exact ⟨_, _, _, rfl, rfl, r.notH (by rw [show col _ = 0 from za]; decide), e, t⟩
  · rename_i i
    have ha' : σ[i]? = some (some v) := ha
    cases q : slotD ρ i with
    | none => rw [q] at h; cases h
    | some d' =>
      rw [q] at h
      cases q2 : listD d' with
      | none =>
        have h' : (listD d').map PyData.list = some d := h
        rw [q2] at h'; cases h'
      | some xs =>
        have h' : (listD d').map PyData.list = some d := h
        rw [q2] at h'
        cases h'
        have := listD_eq q2
        subst this
        unfold slotD at q
        split at q
        · rename_i d'' e
          cases q
          obtain ⟨v', e1, t⟩ := r.sl i _ e
          rw [join_some e1] at ha'
          cases ha'
          cases t with
          | lst za e t => exact ⟨_, _, _, rfl, rfl, r.notH (by rw [show col _ = 0 from za]; decide), e, t⟩
        · rename_i ds e
          cases q
          obtain ⟨a, vs, e1, c, _, e2, t⟩ := r.sl i _ e
          rw [join_some e1] at ha'
          cases ha'
          exact ⟨_, _, _, rfl, rfl, r.notH (by lia), e2, t⟩
        · rename_i ds e
          cases q
          obtain ⟨a, vs, e1, c, n, e2, t⟩ := r.sl i _ e
          rw [join_some e1] at ha'
          cases ha'
          exact ⟨_, _, _, rfl, rfl, n, e2, t⟩
        · cases q
  · rename_i i
    have ha' : σ[i]? = some (some v) := ha
    split at h
    · rename_i e
      cases h
      obtain ⟨q, e1, e2⟩ := r.sl i _ e
      rw [join_some e2] at ha'
      cases ha'
      exact ⟨q, e1, rfl⟩
    · cases h
  · rename_i i
    have ha' : σ[i]? = some (some v) := ha
    cases q : slot2 ρ i with
    | none => rw [q] at h; cases h
    | some dss =>
      rw [q] at h
      cases h
      obtain ⟨a, as, e1, n, e2, t⟩ := r.slot2 q
      rw [e1] at ha'
      cases ha'
      exact ⟨a, as, dss, rfl, rfl, n, e2, t⟩
  · cases h
    exact ThV.mv (fun b o z e => ⟨r.notH (by rw [show col b = 0 from z]; decide), e⟩) (r.pd _ ha)
  · cases h
    exact ThV.mv (fun b o z e => ⟨z.2, e⟩) (r.le (r.pd _ ha))
  · rename_i i
    have ha' : σ[i]? = some (some v) := ha
    split at h
    · rename_i e
      cases h
      obtain ⟨v', e1, t⟩ := r.sl i _ e
      rw [join_some e1] at ha'
      cases ha'
      exact ThV.mv (fun b o z e => ⟨z.2, e⟩) (r.le t)
    · rename_i e
      cases h
      obtain ⟨v', e1, t⟩ := r.sl i _ e
      rw [join_some e1] at ha'
      cases ha'
      exact ThV.mv (fun b o z e => ⟨r.notH (by rw [show col b = 0 from z]; decide), e⟩) t
    · cases h
  · cases h
theorem ars_ok {col : Addr → Nat} {ρ : List Sl} {σ : St} {P : List Pe} {H : Hp} (r : RelC C col ρ σ P H) : ∀ {ms : List Md} {vs : List V} {ds : List PyData} {as : List Ar}, ArV σ P vs as → arsD ρ ms as = some ds → ArgsR (Z col) C.hand H ms vs ds
  | [], _, _, _, .nil, h => by cases h; exact .nil
  | [], _, _, _, .v _ _, h => by cases h
  | [], _, _, _, .s _ _, h => by cases h
  | [], _, _, _, .w _ _, h => by cases h
  | _ :: _, _, _, _, .nil, h => by cases h
  | m :: ms, _, ds, _, .v (d := d0) (as := as) hm t, h => by
    have h' : ((arD ρ m (.v d0)).bind fun d => (arsD ρ ms as).map (d :: ·)) = some ds := h
    cases q : arD ρ m (.v d0) with
    | none => rw [q] at h'; cases h'
    | some d =>
      rw [q] at h'
      have h2 : (arsD ρ ms as).map (d :: ·) = some ds := h'
      cases q2 : arsD ρ ms as with
      | none => rw [q2] at h2; cases h2
      | some ds' =>
        rw [q2] at h2
        cases h2
        exact .cons (ar_ok r (a := .v d0) hm q) (ars_ok r t q2)
  | m :: ms, _, ds, _, .s (i := i) (as := as) hm t, h => by
    have h' : ((arD ρ m (.s i)).bind fun d => (arsD ρ ms as).map (d :: ·)) = some ds := h
    cases q : arD ρ m (.s i) with
    | none => rw [q] at h'; cases h'
    | some d =>
      rw [q] at h'
      have h2 : (arsD ρ ms as).map (d :: ·) = some ds := h'
      cases q2 : arsD ρ ms as with
      | none => rw [q2] at h2; cases h2
      | some ds' =>
        rw [q2] at h2
        cases h2
        exact .cons (ar_ok r (a := .s i) hm q) (ars_ok r t q2)
  | m :: ms, _, ds, _, .w (d := d0) (as := as) hm t, h => by
    have h' : ((arD ρ m (.w d0)).bind fun d => (arsD ρ ms as).map (d :: ·)) = some ds := h
    cases q : arD ρ m (.w d0) with
    | none => rw [q] at h'; cases h'
    | some d =>
      rw [q] at h'
      have h2 : (arsD ρ ms as).map (d :: ·) = some ds := h'
      cases q2 : arsD ρ ms as with
      | none => rw [q2] at h2; cases h2
      | some ds' =>
        rw [q2] at h2
        cases h2
        exact .cons (ar_ok r (a := .w d0) hm q) (ars_ok r t q2)
def dCall (ms : List Md) (sp : DSp) (u : DA)  (ρ : List Sl) (Q : PyData → List Sl → Prop) : Prop := u ρ fun as ρ' => bnd (arsD ρ' ms as) fun ds => sp ds fun d => Q d ρ'
theorem pd_call {ms : List Md} {sp : DSp} {E : XK} (h : PE X e (tCall (spD ms sp) [] E (aOf C u))) : PE X e (eOf C (dCall ms sp u)) := PE.wk h fun σ H Q zz35 => el3 zz35 fun ρ P Qd R ht k => ⟨ρ, P, _, R, ht, fun vs as ρ' P' H' zz36 s p q => zz36.elim fun col r => by
  obtain ⟨ds, hds, q⟩ := bnd_of q
  rw [List.append_nil]
  obtain ⟨col, r, tp⟩ := r.norm
  refine ⟨Z col, C.hand, ds, _, ⟨r.fresh, tp⟩, fun q hq z => ?_, r.hq, ars_ok r p hds, q, fun d v H2 q2 t2 k2 h2 => k _ _ _ _ ⟨col, (((r.mv k2 h2).sub s)).push t2⟩ q2⟩
  have := r.hnd q hq
  rw [show col q.1 = 0 from z] at this
  cases this⟩
end
end My
namespace My
open PySem L2
structure ItOk (C : DC) (J : It) (xs : List PyData) (P : List Pe) : Prop where
  go : ∀ {i : Nat} {ρ : List Sl} {σ : St} {P' : List Pe} {H : Hp}, (∀ p ∈ P, p ∈ P') → Rel C ρ σ P' H → i < xs.length → J.go i H
  yld : ∀ {i : Nat} {ρ : List Sl} {σ : St} {P' : List Pe} {H H' : Hp} {x : V} {d : PyData}, (∀ p ∈ P, p ∈ P') → Rel C ρ σ P' H → xs[i]? = some d → J.yld i H x H' → Rel C ρ σ (.v x d :: P') H'
  stop : ∀ {ρ : List Sl} {σ : St} {P' : List Pe} {H : Hp}, (∀ p ∈ P, p ∈ P') → Rel C ρ σ P' H → J.stop xs.length H
theorem th_lst {F : Addr → Prop} {H : Hp} {v : V} {xs : List PyData} (t : ThV F H v (.list xs)) : ∃ a vs, v = .ref a ∧ F a ∧ H a = some (.lst vs) ∧ ThVs F H vs xs := by
  cases t with
  | lst za e t => exact ⟨_, _, rfl, za, e, t⟩
theorem th_tup {F : Addr → Prop} {H : Hp} {v : V} {xs : List PyData} (t : ThV F H v (.tuple xs)) : ∃ a vs, v = .ref a ∧ F a ∧ H a = some (.tup vs) ∧ ThVs F H vs xs := by
  cases t with
  | tup za e t => exact ⟨_, _, rfl, za, e, t⟩
def iOf (C : DC) (t : DF) : TI := fun σ H R => ∃ ρ P Qd, Rel C ρ σ P H ∧ t ρ Qd ∧ ∀ xs ρ' P' H' J, Rel C ρ' σ P' H' → (∀ p ∈ P, p ∈ P') → ItOk C J xs P' → Qd xs ρ' → R J H'
section
variable {X : Cx} {C : DC} {tg e : Expr} {t : DE} {u : DF} {pos : Pos}
theorem PI.wk {tg e : Expr} {w w' : TI} (h : PI X tg e w) (f : ∀ σ H R, w' σ H R → w σ H R) : PI X tg e w' := fun pins s σ H R I q => h pins s σ H R I (f σ H R q)
theorem it_tup {K : PySem.W.Frag} {a : Addr} {vs : List V} {xs : List PyData} {P : List Pe} : ItOk C (Itt K a) xs (.n a (.tup vs) :: .s vs xs :: P) where
  go := fun {i ρ σ P' H} s R hi => by
    obtain ⟨col, r⟩ := R
    have h1 := r.pd _ (s _ List.mem_cons_self)
    have h2 : ThVs (Z col) H vs xs := r.pd _ (s _ (List.mem_cons_of_mem _ List.mem_cons_self))
    have hl := h2.len
    exact ⟨vs, vs[i], SqT.of h1.2.2, List.getElem?_eq_getElem (by lia)⟩
  yld := fun {i ρ σ P' H H' x d} s R hi y => by
    obtain ⟨e, y⟩ := y
    subst e
    obtain ⟨col, r⟩ := R
    have h1 := r.pd _ (s _ List.mem_cons_self)
    have h2 : ThVs (Z col) H' vs xs := r.pd _ (s _ (List.mem_cons_of_mem _ List.mem_cons_self))
    have hx := y vs (SqT.of h1.2.2)
    obtain ⟨d', e1, t⟩ := h2.get hx
    rw [hi] at e1
    cases e1
    exact ⟨col, r.push t⟩
  stop := fun {ρ σ P' H} s R => by
    obtain ⟨col, r⟩ := R
    have h1 := r.pd _ (s _ List.mem_cons_self)
    have h2 : ThVs (Z col) H vs xs := r.pd _ (s _ (List.mem_cons_of_mem _ List.mem_cons_self))
    have hl := h2.len
    exact ⟨vs, SqT.of h1.2.2, by lia⟩
def dIl (t : DE)  (ρ : List Sl) (Q : List PyData → List Sl → Prop) : Prop := t ρ fun d ρ' => bnd (listD d) fun xs => Q xs ρ'
def tupD : PyData → Option (List PyData)
  | .tuple xs => some xs
  | _ => none
theorem tupD_eq {d : PyData} {xs : List PyData} (h : tupD d = some xs) : d = .tuple xs := by
  cases d <;> cases h
  rfl
def dIt (t : DE)  (ρ : List Sl) (Q : List PyData → List Sl → Prop) : Prop := t ρ fun d ρ' => bnd (tupD d) fun xs => Q xs ρ'
theorem di_tup (h : PE X e (eOf C t)) : PI X tg e (iOf C (dIt t)) := PI.wk (pi_tup h) fun _ _ _ zz3 => el3 zz3 fun ρ P _ R ht k => ⟨ρ, P, _, R, ht, fun v d ρ' H' zz4 q => zz4.elim fun col r => by
  obtain ⟨xs, hx, q⟩ := bnd_of q
  have := tupD_eq hx
  subst this
  obtain ⟨a, vs, rfl, za, e1, t1⟩ := th_tup (show ThV (Z col) H' v (.tuple xs) from r.pd _ List.mem_cons_self)
  refine ⟨a, rfl, ⟨vs, SqT.of e1⟩, k xs ρ' (.n a (.tup vs) :: .s vs xs :: P) H' _ ⟨col, ?_⟩ (fun _ h => List.mem_cons_of_mem _ (List.mem_cons_of_mem _ h)) it_tup q⟩
  exact ((r.sub fun _ h => List.mem_cons_of_mem _ h).add (x := .s vs xs) t1).add (x := .n a (.tup vs)) ⟨by rw [show col a = 0 from za]; decide, r.notH (by rw [show col a = 0 from za]; decide), e1⟩⟩
def dIv (i : Nat)  (ρ : List Sl) (Q : List PyData → List Sl → Prop) : Prop := match ρ[i]? with
  | some (.sh (.list xs)) => Q xs ρ
  | some (.ow xs) => Q xs (ρ.set i (.sh (.list xs)))
  | some (.bo xs) => Q xs ρ
  | _ => False
def rngD (lo : Int) (n : Nat) : List PyData := (List.range n).map fun i => .int (lo + ((i : Nat) : Int))
theorem rngD_get {lo : Int} {n i : Nat} {d : PyData} (h : (rngD lo n)[i]? = some d) : i < n ∧ d = .int (lo + i) := by
  unfold rngD at h
  rw [List.getElem?_map] at h
  by_cases hi : i < n
  · rw [List.getElem?_range hi] at h
    cases h
    exact ⟨hi, rfl⟩
  · rw [List.getElem?_eq_none (by rw [List.length_range]; lia)] at h
    cases h
theorem it_rng {lo : Int} {n : Nat} {P : List Pe} : ItOk C (Itr lo n) (rngD lo n) P where
  go := fun {i _ _ _ _} _ _ hi => by
    have : (rngD lo n).length = n := by unfold rngD; rw [List.length_map, List.length_range]
    show i < n
    lia
  yld := fun {i ρ σ P' H H' x d} _ R hi y => by
    obtain ⟨e1, e2⟩ := y
    subst e1 e2
    obtain ⟨_, e3⟩ := rngD_get hi
    subst e3
    obtain ⟨col, r⟩ := R
    exact ⟨col, r.push (.int _)⟩
  stop := fun _ _ => by
    have : (rngD lo n).length = n := by unfold rngD; rw [List.length_map, List.length_range]
    show n ≤ (rngD lo n).length
    lia
def dRng1 (u : DF)  (ρ : List Sl) (Q : List PyData → List Sl → Prop) : Prop := u ρ fun ds ρ' => match ds with
  | [.int j] => (-(2 ^ 62) ≤ j ∧ j < 2 ^ 62) ∧ Q (rngD 0 j.toNat) ρ'
  | _ => False
theorem di_rng1 (h : PI X tg e (iRng1 (vOf C u))) : PI X tg e (iOf C (dRng1 u)) := PI.wk h fun _ _ _ zz7 => el3 zz7 fun ρ P _ R ht k => ⟨ρ, P, _, R, ht, fun vs ds ρ' P' H' zz8 s p q => zz8.elim fun col r => by
  split at q
  · have t := p.th r
    obtain ⟨v, rfl, t1⟩ := ths1 t
    cases t1
    exact ⟨_, rfl, q.1.1, q.1.2, k _ _ P' _ _ ⟨col, r⟩ s it_rng q.2⟩
  · exact q.elim⟩
def dRng2 (u : DF)  (ρ : List Sl) (Q : List PyData → List Sl → Prop) : Prop := u ρ fun ds ρ' => match ds with
  | [.int i, .int j] => (-(2 ^ 62) ≤ i ∧ i < 2 ^ 62 ∧ -(2 ^ 62) ≤ j ∧ j < 2 ^ 62) ∧ Q (rngD i (j - i).toNat) ρ'
  | _ => False
def enumD (xs : List PyData) : List PyData := xs.zipIdx.map fun p => .tuple [.int (p.2 : Nat), p.1]
theorem enumD_get {xs : List PyData} {i : Nat} {d : PyData} (h : (enumD xs)[i]? = some d) : ∃ x, xs[i]? = some x ∧ d = .tuple [.int (i : Nat), x] := by
  unfold enumD at h
  rw [List.getElem?_map, List.getElem?_zipIdx] at h
  cases q : xs[i]? with
  | none => rw [q] at h; cases h
  | some x => rw [q] at h; cases h; exact ⟨x, rfl, by rw [Nat.zero_add]⟩
theorem it_enum {K : PySem.W.Frag} {a : Addr} {vs : List V} {xs : List PyData} {P : List Pe} : ItOk C (Ite K a) (enumD xs) (.n a (.lst vs) :: .s vs xs :: P) where
  go := fun {i ρ σ P' H} s R hi => by
    obtain ⟨col, r⟩ := R
    have h1 := r.pd _ (s _ List.mem_cons_self)
    have h2 : ThVs (Z col) H vs xs := r.pd _ (s _ (List.mem_cons_of_mem _ List.mem_cons_self))
    have hl := h2.len
    have hi' : i < xs.length := by unfold enumD at hi; rw [List.length_map, List.length_zipIdx] at hi; exact hi
    exact ⟨vs, vs[i], SqL.of h1.2.2, List.getElem?_eq_getElem (by lia)⟩
  yld := fun {i ρ σ P' H H' x d} s R hi y => by
    obtain ⟨p, v, rfl, hp, rfl, y⟩ := y
    obtain ⟨col, r⟩ := R
    have h1 := r.pd _ (s _ List.mem_cons_self)
    have h2 : ThVs (Z col) H vs xs := r.pd _ (s _ (List.mem_cons_of_mem _ List.mem_cons_self))
    have hx := y vs (SqL.of h1.2.2)
    obtain ⟨x, e1, rfl⟩ := enumD_get hi
    obtain ⟨d', e2, t⟩ := h2.get hx
    rw [e1] at e2
    cases e2
    exact ⟨col, r.tup (.cons (.int _) (.cons t .nil)) hp⟩
  stop := fun {ρ σ P' H} s R => by
    obtain ⟨col, r⟩ := R
    have h1 := r.pd _ (s _ List.mem_cons_self)
    have h2 : ThVs (Z col) H vs xs := r.pd _ (s _ (List.mem_cons_of_mem _ List.mem_cons_self))
    have hl := h2.len
    exact ⟨vs, SqL.of h1.2.2, by unfold enumD; rw [List.length_map, List.length_zipIdx]; lia⟩
def dEnum (t : DE)  (ρ : List Sl) (Q : List PyData → List Sl → Prop) : Prop := t ρ fun d ρ' => bnd (listD d) fun xs => Q (enumD xs) ρ'
theorem di_enum {K : PySem.W.Frag} (h : PI X tg e (iEnum K (tCons (eOf C t) tNil))) : PI X tg e (iOf C (dEnum t)) := PI.wk h fun _ _ _ zz11 => el3 zz11 fun ρ P _ R ht k => ⟨ρ, P, _, R, ht, fun v d ρ' H' zz12 q => zz12.elim fun col r => by
  obtain ⟨xs, hx, q⟩ := bnd_of q
  have := listD_eq hx
  subst this
  obtain ⟨a, vs, rfl, za, e1, t1⟩ := th_lst (show ThV (Z col) H' v (.list xs) from r.pd _ List.mem_cons_self)
  refine ⟨a, rfl, ⟨vs, SqL.of e1⟩, k _ ρ' (.n a (.lst vs) :: .s vs xs :: P) H' _ ⟨col, ?_⟩ (fun _ h => List.mem_cons_of_mem _ (List.mem_cons_of_mem _ h)) it_enum q⟩
  exact ((r.sub fun _ h => List.mem_cons_of_mem _ h).add (x := .s vs xs) t1).add (x := .n a (.lst vs)) ⟨by rw [show col a = 0 from za]; decide, r.notH (by rw [show col a = 0 from za]; decide), e1⟩⟩
end
def dCompL (tt : DT) (te : DE) (ρ : List Sl) (Q : List PyData → Prop) : List PyData → List PyData → Prop
  | [], acc => Q acc
  | x :: r, acc => tt (ρ ++ [.sh x]) fun b ρ' => ρ' = ρ ++ [.sh x] ∧ if b = true then te (ρ ++ [.sh x]) fun d ρ'' => ρ'' = ρ ++ [.sh x] ∧ dCompL tt te ρ Q r (acc ++ [d]) else dCompL tt te ρ Q r acc
def dComp (j : Nat) (it : DF) (tt : DT) (te : DE)  (ρ : List Sl) (Q : List PyData → List Sl → Prop) : Prop := it ρ fun xs ρ1 => (ρ1.length = j ∧ xs.length ≤ 1000) ∧ dCompL tt te ρ1 (fun ds => Q ds ρ1) xs []
section
variable {X : Cx} {C : DC}
theorem ThVs.snoc {F : Addr → Prop} {H : Hp} {vs : List V} {ds : List PyData} {v : V} {d : PyData} (t : ThVs F H vs ds) (x : ThV F H v d) : ThVs F H (vs ++ [v]) (ds ++ [d]) := t.append (.cons x .nil)
end
structure DEnds where
  nx : List Sl → Prop
  rt : PyData → Prop
  bk : List Sl → Prop := fun _ => False
  ct : List Sl → Prop := fun _ => False
  ro : Sl → Prop := fun _ => False
abbrev DS := DEnds → List Sl → Prop
def NewV (C : DC) (col : Addr → Nat) (H : Hp) (v : V) : Sl → Prop
  | .ow ds => ∃ a vs, v = .ref a ∧ C.H0 a = none ∧ col a ≠ 0 ∧ H a = some (.lst vs) ∧ ThVs (Z col) H vs ds
  | .o2 dss => ∃ a as, v = .ref a ∧ (C.H0 a = none ∧ col a ≠ 0) ∧ H a = some (.lst (as.map V.ref)) ∧ (a :: as).Nodup ∧ Rws (fun b => C.H0 b = none ∧ col b ≠ 0) (Z col) H as dss
  | .di false ks => ∃ a, v = .ref a ∧ C.H0 a = none ∧ H a = some (.dT (dEn ks))
  | _ => False
structure EndsR (C : DC) (P : List Pe) (Dd : DEnds) (D : Ends) : Prop where
  nx : ∀ ρ σ H, Rel C ρ σ P H → Dd.nx ρ → D.nx σ H
  rt : ∀ v d ρ σ H, Rel C ρ σ (.v v d :: P) H → Dd.rt d → D.rt v H
  bk : ∀ ρ σ H, Rel C ρ σ P H → Dd.bk ρ → D.bk σ H
  ct : ∀ ρ σ H, Rel C ρ σ P H → Dd.ct ρ → D.ct σ H
  ro : ∀ (v : V) (s : Sl) (ρ : List Sl) σ H col, RelC C col ρ σ P H → NewV C col H v s → Dd.ro s → D.rt v H
def sOf (C : DC) (t : DS) : TS := fun D σ H => ∃ ρ P Dd, Rel C ρ σ P H ∧ t Dd ρ ∧ EndsR C P Dd D
section
variable {X : Cx} {C : DC} {st : Stmt} {sts : List Stmt} {e : Expr} {t u : DS} {te : DE} {tf : DF} {c : DT} {pos : Pos}
theorem PS.wk {t t' : TS} (h : PS X st t) (f : ∀ D σ H, t' D σ H → t D σ H) : PS X st t' := fun pins s σ H D I q => h pins s σ H D I (f D σ H q)
theorem PSs.wk {t t' : TS} (h : PSs X sts t) (f : ∀ D σ H, t' D σ H → t D σ H) : PSs X sts t' := fun pins s σ H D I q => h pins s σ H D I (f D σ H q)
def dSeq (t u : DS)  (D : DEnds) (ρ : List Sl) : Prop := t { D with nx := u D } ρ
def dNext  (D : DEnds) (ρ : List Sl) : Prop := D.nx ρ
theorem dss_nil : PSs X [] (sOf C dNext) := PSs.wk pss_nil fun _ _ _ zz15 => el3 zz15 fun _ _ _ R ht E => E.nx _ _ _ R ht
theorem dss_one (h : PS X st (sOf C t)) : PSs X [st] (sOf C t) := pss_one h
theorem dss_cons (h1 : PS X st (sOf C t)) (h2 : PSs X sts (sOf C u)) : PSs X (st :: sts) (sOf C (dSeq t u)) := PSs.wk (pss_cons h1 h2) fun _ _ _ zz16 => el3 zz16 fun ρ P Dd R ht E => ⟨ρ, P, { Dd with nx := u Dd }, R, ht, ⟨fun ρ' _ _ R' h => ⟨ρ', P, Dd, R', h, E⟩, E.rt, E.bk, E.ct, E.ro⟩⟩
def Go (f : List Sl → Prop) (ρ : List Sl) : Prop := f ρ
theorem go {f : List Sl → Prop} {ρ : List Sl} (h : f ρ) : Go f ρ := h
def dSeqG (t u : DS) (D : DEnds) (ρ : List Sl) : Prop := t { D with nx := Go (u D) } ρ
theorem dss_consG (h1 : PS X st (sOf C t)) (h2 : PSs X sts (sOf C u)) : PSs X (st :: sts) (sOf C (dSeqG t u)) := PSs.wk (pss_cons h1 h2) fun _ _ _ zz17 => el3 zz17 fun ρ P Dd R ht E => ⟨ρ, P, { Dd with nx := Go (u Dd) }, R, ht, ⟨fun ρ' _ _ R' h => ⟨ρ', P, Dd, R', h, E⟩, E.rt, E.bk, E.ct, E.ro⟩⟩
def dMid (t : DS)  (D : DEnds) (ρ : List Sl) : Prop := ∃ M : List Sl → Prop, t { D with nx := M } ρ ∧ ∀ ρ', M ρ' → D.nx ρ'
theorem ds_mid (h : PS X st (sOf C t)) : PS X st (sOf C (dMid t)) := PS.wk h fun _ _ _ ⟨ρ, P, Dd, R, ⟨M, h1, h2⟩, E⟩ => ⟨ρ, P, { Dd with nx := M }, R, h1, ⟨fun ρ' σ' H' R' h => E.nx ρ' σ' H' R' (h2 ρ' h), E.rt, E.bk, E.ct, E.ro⟩⟩
theorem ds_no : PS X st (sOf C fun _ _ => False) := PS.wk ps_no fun _ _ _ zz22 => el3 zz22 fun _ _ _ _ h _ => h
def dRet (te : DE)  (D : DEnds) (ρ : List Sl) : Prop := te ρ fun d _ => D.rt d
theorem ds_ret (h : PE X e (eOf C te)) : PS X (.Return (some e) pos) (sOf C (dRet te)) := PS.wk (ps_ret h) fun _ _ _ zz23 => el3 zz23 fun ρ P _ R ht E => ⟨ρ, P, _, R, ht, fun v d _ _ R' q => E.rt v d _ _ _ R' q⟩
def dIfS (c : DT) (t u : DS)  (D : DEnds) (ρ : List Sl) : Prop := c ρ fun b ρ' => if b = true then t D ρ' else u D ρ'
theorem ds_if {ce : Expr} {a b : List Stmt} (hc : PT X ce (cOf C c)) (ha : PSs X a (sOf C t)) (hb : PSs X b (sOf C u)) : PS X (.If ce a b pos) (sOf C (dIfS c t u)) := PS.wk (ps_if hc ha hb) fun _ _ _ zz26 => el3 zz26 fun ρ P Dd R ht E => ⟨ρ, P, _, R, ht, fun b ρ' _ R' q => by
  cases b with
  | true => exact iteT ⟨ρ', P, Dd, R', by simpa using q, E⟩
  | false => exact iteF ⟨ρ', P, Dd, R', by simpa using q, E⟩⟩
def dDrop (te : DE)  (D : DEnds) (ρ : List Sl) : Prop := te ρ fun _ ρ' => D.nx ρ'
def dSet (i : Nat) (te : DE)  (D : DEnds) (ρ : List Sl) : Prop := te ρ fun d ρ' => D.nx (ρ'.set i (.sh d))
theorem ds_set {i : Nat} (hp : PS X st (tAsg (eOf C te) (gName i))) : PS X st (sOf C (dSet i te)) := PS.wk hp fun _ _ _ zz28 => el3 zz28 fun ρ P _ R ht E => ⟨ρ, P, _, R, ht, fun v d ρ' H' zz29 q => zz29.elim fun col r => E.nx _ _ _ ⟨col, ((r.store (i := i) (r.pd _ List.mem_cons_self)).sub fun _ h => List.mem_cons_of_mem _ h)⟩ q⟩
def dOwn (i : Nat) (tf : DF)  (D : DEnds) (ρ : List Sl) : Prop := tf ρ fun ds ρ' => D.nx (ρ'.set i (.ow ds))
theorem ds_own {i : Nat} (hp : PS X st (tAsg (fOf C tf) (gName i))) : PS X st (sOf C (dOwn i tf)) := PS.wk hp fun _ _ _ zz30 => el3 zz30 fun ρ P _ R ht E => ⟨ρ, P, _, R, ht, fun p vs ds ρ' H1 zz31 hp q => el2 zz31 fun col r t => E.nx _ _ _ (r.own t hp) q⟩
def dApp (i : Nat) (te : DE)  (D : DEnds) (ρ : List Sl) : Prop := match ρ[i]? with
  | some (.ow _) => te ρ fun d ρ' => match ρ'[i]? with
    | some (.ow ds) => ds.length ≤ 1000 ∧ D.nx (ρ'.set i (.ow (ds ++ [d])))
    | _ => False
  | _ => False
theorem ds_app {i : Nat} {K : PySem.W.Frag} (hp : PS X st (tDrop (tBM K "list" rAppend (tVar i) (tCons (eOf C te) tNil)))) : PS X st (sOf C (dApp i te)) := PS.wk hp fun D σ H zz36 => el3 zz36 fun ρ P Dd zz37 ht E => zz37.elim fun col r => by
  unfold dApp at ht
  split at ht
  · rename_i ds0 e0
    obtain ⟨a, vs, e1, c, n, e2, t⟩ := r.sl i _ e0
    refine ⟨.ref a, join_some e1, .inl ⟨rfl, vs, SqL.of e2⟩, ρ, P, _, ⟨col, r⟩, ht, fun v d ρ' H' zz38 q => zz38.elim fun col' r' => ?_⟩
    split at q
    · rename_i ds e0'
      obtain ⟨a', vs', e1', c', n', e2', t'⟩ := r'.sl i _ e0'
      rw [e1] at e1'
      cases e1'
      exact ⟨a, vs', v, rfl, rfl, e2', by rw [t'.len]; exact small1000 q.1, E.nx _ _ _ ⟨col', ((r'.write e0' e1 (t'.snoc (r'.pd _ List.mem_cons_self)))).sub fun _ h => List.mem_cons_of_mem _ h⟩ q.2⟩
    · exact q.elim
  · exact ht.elim
def dSetI (i : Nat) (te tk : DE)  (D : DEnds) (ρ : List Sl) : Prop := te ρ fun d ρ1 => match ρ1[i]? with
  | some (.ow _) => tk ρ1 fun k ρ2 => match ρ2[i]? with
    | some (.ow ds) => match k with
      | .int k => bnd (ixN ds.length k) fun j => D.nx (ρ2.set i (.ow (ds.set j d)))
      | _ => False
    | _ => False
  | _ => False
abbrev DG := PyData → List Sl → (List Sl → Prop) → Prop
def gOf (C : DC) (g : DG) : TG := fun v σ H Q => ∃ ρ P d Qd, Rel C ρ σ (.v v d :: P) H ∧ g d ρ Qd ∧ ∀ ρ' σ', Rel C ρ' σ' P H → Qd ρ' → Q σ' H
theorem PG.wk {tg : Expr} {g g' : TG} (h : PG X tg g) (f : ∀ v σ H Q, g' v σ H Q → g v σ H Q) : PG X tg g' := fun pins s σ H v u Q I r q => h pins s σ H v u Q I r (f v σ H Q q)
def gN (i : Nat)  (d : PyData) (ρ : List Sl) (Q : List Sl → Prop) : Prop := Q (ρ.set i (.sh d))
theorem dg_name {tg : Expr} {i : Nat} (h : PG X tg (gName i)) : PG X tg (gOf C (gN i)) := PG.wk h fun _ _ _ _ ⟨_, _, _, _, ⟨col, r⟩, ht, k⟩ => k _ _ ⟨col, ((r.store (i := i) (r.pd _ List.mem_cons_self)).sub fun _ h => List.mem_cons_of_mem _ h)⟩ ht
def gT2 (i j : Nat)  (d : PyData) (ρ : List Sl) (Q : List Sl → Prop) : Prop := match d with
  | .tuple [a, b] => Q ((ρ.set i (.sh a)).set j (.sh b))
  | _ => False
def gT3 (i j k : Nat)  (d : PyData) (ρ : List Sl) (Q : List Sl → Prop) : Prop := match d with
  | .tuple [a, b, c] => Q (((ρ.set i (.sh a)).set j (.sh b)).set k (.sh c))
  | _ => False
theorem dg_t2 {tg : Expr} {i j : Nat} {K : PySem.W.Frag} (h : PG X tg (gTup K 2 (gCons (gName i) (gCons (gName j) gNil)))) : PG X tg (gOf C (gT2 i j)) := PG.wk h fun v σ H Q ⟨ρ, P, d, Qd, ⟨col, r⟩, ht, k⟩ => by
  unfold gT2 at ht
  split at ht
  · rename_i a b
    have z : ThV (Z col) H v (.tuple [a, b]) := r.pd _ List.mem_cons_self
    cases z with
    | tup za e t =>
      obtain ⟨x, y, rfl, t1, t2⟩ := ths2 t
      exact ⟨_, _, rfl, SqT.of e, rfl, x, [y], rfl, y, [], rfl, rfl, k _ _ ⟨col, (((r.store (i := i) t1).store (i := j) t2).sub fun _ h => List.mem_cons_of_mem _ h)⟩ ht⟩
  · exact ht.elim
def dAsg (te : DE) (g : DG)  (D : DEnds) (ρ : List Sl) : Prop := te ρ fun d ρ' => g d ρ' D.nx
theorem ds_asg {g : DG} (hp : PS X st (tAsg (eOf C te) (gOf C g))) : PS X st (sOf C (dAsg te g)) := PS.wk hp fun _ _ _ zz45 => el3 zz45 fun ρ P _ R ht E => ⟨ρ, P, _, R, ht, fun v d ρ' H' R' q => ⟨ρ', P, d, _, R', q, fun ρ2 σ2 R2 q2 => E.nx _ _ _ R2 q2⟩⟩
def Blk (t : DS) (D : DEnds) (ρ : List Sl) : Prop := t D ρ
def dFor (it : DF) (g : DG) (tb : DS) (D : DEnds) (ρ : List Sl) : Prop := it ρ fun xs ρ1 => ∃ I : List PyData → List Sl → Prop, I xs ρ1 ∧ (∀ x r ρ, I (x :: r) ρ → g x ρ (Blk tb { nx := I r, ct := I r, bk := D.nx, rt := D.rt })) ∧ ∀ ρ, I [] ρ → D.nx ρ
theorem ds_for {it : DF} {g : DG} {tb : DS} (hp : PS X st (tFor (iOf C it) (gOf C g) (sOf C tb))) : PS X st (sOf C (dFor it g tb)) := PS.wk hp fun D σ H zz46 => el3 zz46 fun ρ P Dd R ht E => ⟨ρ, P, _, R, ht, fun xs ρ1 P1 H1 J R1 s1 io q => by
  obtain ⟨I, q0, qs, qd⟩ := q
  refine ⟨fun i m σ' H' => m = xs.length - i ∧ i ≤ xs.length ∧ ∃ ρ', Rel C ρ' σ' P1 H' ∧ I (xs.drop i) ρ', ⟨xs.length, by simp, Nat.zero_le _, ρ1, R1, q0⟩, ?_⟩
  rintro i m σ2 H2 ⟨rfl, hi, ρ2, R2, q2⟩
  by_cases hlt : i < xs.length
  · rw [List.drop_eq_getElem_cons hlt] at q2
    refine .inr ⟨io.go (fun _ h => h) R2 hlt, fun σ' H' => ∃ ρ', Rel C ρ' σ' P1 H' ∧ I (xs.drop (i + 1)) ρ', fun σ' H' h => ⟨xs.length - (i + 1), by lia, rfl, hlt, h⟩, fun x H3 y => ?_⟩
    refine ⟨ρ2, P1, _, _, io.yld (fun _ h => h) R2 (List.getElem?_eq_getElem hlt) y, qs _ _ _ q2, fun ρ3 σ3 R3 q3 => ?_⟩
    refine ⟨ρ3, P1, ⟨I (xs.drop (i + 1)), Dd.rt, Dd.nx, I (xs.drop (i + 1)), fun _ => False⟩, R3, q3, ⟨fun ρ4 σ4 H4 R4 q4 => ⟨ρ4, R4, q4⟩, fun v d ρ4 σ4 H4 R4 q4 => E.rt v d ρ4 σ4 H4 (R4.sub (sub_cons s1)) q4, fun ρ4 σ4 H4 R4 q4 => E.nx ρ4 σ4 H4 (R4.sub s1) q4, fun ρ4 σ4 H4 R4 q4 => ⟨ρ4, R4, q4⟩, fun _ _ _ _ _ _ _ _ h => h.elim⟩⟩
  · have e : i = xs.length := by lia
    subst e
    rw [List.drop_length] at q2
    exact .inl ⟨io.stop (fun _ h => h) R2, E.nx _ _ _ (R2.sub s1) (qd _ q2)⟩⟩
end
open PySem.Spec PyProof.Rows
def slOf : Md → PyData → Sl
  | .sh, d => .sh d
  | .bo, .list ds => .bo ds
  | .bo, _ => .no
  | .hd, _ => .hd
  | .b2, d => match rowsD d with
    | some dss => .b2 dss
    | none => .no
  | .bd, d => .bd d
theorem rowsL_lls : ∀ dss : List (List PyData), rowsL (lls dss) = some dss
  | [] => rfl
  | ds :: dss => by
    show (rowsL (lls dss)).map (ds :: ·) = some (ds :: dss)
    rw [rowsL_lls dss]; rfl
theorem slOf_b2 (dss : List (List PyData)) : slOf .b2 (.list (lls dss)) = .b2 dss := by
  show (match rowsL (lls dss) with
    | some dss => Sl.b2 dss
    | none => .no) = _
  rw [rowsL_lls]
def startD (n : Nat) : List Md → List PyData → List Sl
  | m :: ms, d :: ds => slOf m d :: startD (n - 1) ms ds
  | _, _ => List.replicate n .no
def startN : List Str → List Md → List PyData → List Sl
  | [], _, _ => []
  | _ :: N, ms, ds => (match ms, ds with
    | m :: _, d :: _ => slOf m d
    | _, _ => .no) :: startN N ms.tail ds.tail
theorem startN_nil : ∀ N : List Str, startN N [] [] = List.replicate N.length .no
  | [] => rfl
  | _ :: N => by
    show Sl.no :: startN N [] [] = _
    rw [startN_nil N]; rfl
theorem startN_eq : ∀ {N : List Str} {ms : List Md} {ds : List PyData}, ms.length ≤ N.length → ds.length = ms.length → startN N ms ds = startD N.length ms ds
  | N, [], [], _, _ => startN_nil N
  | _ :: N, m :: ms, d :: ds, h1, h2 => by
    show slOf m d :: startN N ms ds = slOf m d :: startD (N.length + 1 - 1) ms ds
    rw [startN_eq (by simpa using h1) (by simpa using h2)]; rfl
  | [], _ :: _, _, h, _ => by simp at h
  | _, [], _ :: _, _, h => by simp at h
  | _, _ :: _, [], _, h => by simp at h
section
variable {P : Program} {w : World} {K : PySem.W.Frag} {mg : Str → Option Value} {base : Heap}
theorem start_sl {C : DC} {col : Addr → Nat} {H : Hp} {F : Addr → Prop} {hand : Option (Addr × Addr)} (hC : C.hand = hand) (hH : C.H0 = H) (f : ∀ b, F b → col b = 0) (lo : ∀ b, col b ≤ 1) {ms : List Md} {vs : List V} {ds : List PyData} {n : Nat} (ar : ArgsR F hand H ms vs ds) :
    ∀ (i : Nat) (s : Sl), (startD n ms ds)[i]? = some s → ∀ j : Nat, SlR C col H j ((vs.map some ++ List.replicate (n - vs.length) none)[i]?).join s := by
  induction ar generalizing n with
  | nil =>
    intro i s e j
    have e' : (List.replicate n Sl.no)[i]? = some s := e
    rw [List.getElem?_replicate] at e'
    split at e'
    · cases e'; trivial
    · cases e'
  | @cons m v d ms vs ds a t ih =>
    intro i s e j
    have e' : (slOf m d :: startD (n - 1) ms ds)[i]? = some s := e
    cases i with
    | zero =>
      cases e'
      show SlR C col H j (some v) (slOf m d)
      have mv0 : ∀ b o, F b → H b = some o → Z col b ∧ H b = some o := fun b o z e => ⟨f b z, e⟩
      cases m with
      | sh => exact ⟨v, rfl, ThV.mv mv0 a⟩
      | bo =>
        obtain ⟨ad, us, es, rfl, rfl, nh, e2, t2⟩ := a
        exact ⟨ad, us, rfl, lo ad, by rw [hC]; exact nh, e2, ThVs.mv mv0 t2⟩
      | hd =>
        obtain ⟨q, hq, rfl⟩ := a
        exact ⟨q, hC.trans hq, rfl⟩
      | b2 =>
        obtain ⟨ad, as, dss, rfl, rfl, nh, e2, t2⟩ := a
        rw [slOf_b2]
        exact ⟨ad, as, rfl, ⟨lo ad, by rw [hC]; exact nh⟩, e2, t2.mv mv0 fun b o g e => ⟨⟨lo b, by rw [hC]; exact g⟩, e⟩⟩
      | bd => exact ⟨v, rfl, ThV.mv (fun b o g e => ⟨⟨(by rw [hH, e]; exact fun q => nomatch q), by rw [hC]; exact g⟩, by rw [hH]; exact e⟩) a⟩
    | succ i =>
      have := ih (n := n - 1) i s e' j
      rw [List.map_cons, List.cons_append, List.getElem?_cons_succ, List.length_cons, show n - (vs.length + 1) = n - 1 - vs.length by lia]
      exact this
theorem start_len {F : Addr → Prop} {hand : Option (Addr × Addr)} {H : Hp} {ms : List Md} {vs : List V} {ds : List PyData} {n : Nat} (a : ArgsR F hand H ms vs ds) (h : ms.length ≤ n) : (startD n ms ds).length = n := by
  induction a generalizing n with
  | nil => show (List.replicate n Sl.no).length = n; rw [List.length_replicate]
  | @cons m v d ms vs ds a t ih =>
    show (slOf m d :: startD (n - 1) ms ds).length = n
    rw [List.length_cons] at h
    rw [List.length_cons, ih (by lia)]
    lia
open Classical in
theorem fn_d {x qual : Str} {st : Stmt} {f : Addr} {fd : FuncData} {N ps : List Str} {k : Nat} {sp : DSp} {ms : List Md} (F : Fun K x qual st f fd) (S : FnScope N ps (defScope st)) (hm : ms.length = ps.length)
    (hb : ∀ (C : DC) (cdv : Value) (A : Around) (outer : List Env) (s : Shared) (H : Hp) (E : XK), Room k (A.deeper (envOfC qual (defScope st) s.heap.objs.size f cdv)) →
      ∃ t, PSs (cxOf CX0 P w K mg base N qual (defScope st) f cdv A outer s H E).nox (defBody st) (sOf C t) ∧ ∀ ds Q, ds.length = ms.length → sp ds Q → t { nx := fun _ => Q .none, rt := Q } (startN N ms ds)) :
    FnOk P w K mg base CX0 (k + 1) f fd ps (spD ms sp) := by
  refine F.ok S (fun vs H Q E h => ?_) (fun cdv A outer s H vs Q E hr h => ?_)
  · obtain ⟨_, _, _, _, _, _, _, a, _⟩ := h
    rw [a.len.1, hm]
  · obtain ⟨G, hand, ds, Qd, h1, h2, h3, a, h4, h5⟩ := h
    obtain ⟨t, ht, q⟩ := hb ⟨G, hand, H⟩ cdv A outer s H E hr
    have hN : ps.length ≤ N.length := by have := congrArg List.length S.pre; rw [List.length_take] at this; lia
    let col : Addr → Nat := fun b => if G b then 0 else 1
    have c0 : ∀ b, G b → col b = 0 := fun b hb => if_pos hb
    have c1 : ∀ b, ¬ G b → col b = 1 := fun b hb => if_neg hb
    have lo : ∀ b, col b ≤ 1 := fun b => by
      by_cases z : G b
      · rw [c0 b z]; lia
      · rw [c1 b z]; lia
    refine ⟨_, ht, startD N.length ms ds, [], ⟨fun _ => Qd .none, Qd, fun _ => False, fun _ => False, fun _ => False⟩, ⟨col, fun b hb => c0 b (h1.1 b hb), fun b hb => ?_, fun q hq => c1 _ (h2 q hq), fun i s e => start_sl (C := ⟨G, hand, H⟩) rfl rfl c0 lo a i s e i, fun p hp => (nomatch hp), Kq.refl, h3, h3, h1, ?_⟩, by rw [← startN_eq (by lia) a.len.2]; exact q ds Qd a.len.2 h4, ⟨fun ρ σ H' R h => ?_, fun v d ρ σ H' R h => ?_, fun _ _ _ _ h => h.elim, fun _ _ _ _ h => h.elim, fun _ _ _ _ _ _ _ _ h => h.elim⟩⟩
    · by_cases z : G b
      · exact z
      · rw [c1 b z] at hb; cases hb
    · rw [start_len a (by lia)]
      unfold L2.start
      rw [List.length_append, List.length_map, List.length_replicate, a.len.1]
      lia
    · obtain ⟨col', r⟩ := R
      exact h5 _ _ _ h .non r.kq r.hq
    · obtain ⟨col', r⟩ := R
      exact h5 _ _ _ h (ThV.mv (fun b o z e => ⟨r.inF b z, e⟩) (r.pd _ List.mem_cons_self)) r.kq r.hq
open Classical in
end
end My
namespace My
open PySem L2
section
variable {X : Cx} {C : DC} {tg e a b : Expr} {t ta tb : DE} {u : DF} {pos : Pos}
def intsD : List PyData → Option (List Int)
  | [] => some []
  | .int b :: r => (intsD r).map (b :: ·)
  | _ :: _ => none
def gIn (neg : Bool)  (a b : PyData) (Q : PyData → Prop) : Prop := match a, b with
  | .int i, .list xs => bnd (intsD xs) fun ns => Q (.bool (if neg then !(ns.contains i) else ns.contains i))
  | _, _ => False
def dIndexV (i : Nat) (tk : DE)  (ρ : List Sl) (Q : PyData → List Sl → Prop) : Prop := bnd (slotD ρ i) fun a0 => bnd (listD a0) fun _ => tk ρ fun k ρ2 => match k with
  | .int k => bnd (slotD ρ2 i) fun a => bnd (listD a) fun xs => bnd (intsD xs) fun ns => (k ∈ ns ∧ ns.length ≤ 100000) ∧ Q (.int (ns.idxOf k : Nat)) ρ2
  | _ => False
def dLrev (t : DE)  (ρ : List Sl) (Q : List PyData → List Sl → Prop) : Prop := t ρ fun d ρ' => bnd (listD d) fun xs => Q xs.reverse ρ'
def dIrev (t : DE)  (ρ : List Sl) (Q : List PyData → List Sl → Prop) : Prop := t ρ fun d ρ' => bnd (listD d) fun xs => Q xs.reverse ρ'
def gB2 (f : Bool → Bool → Bool)  (a b : PyData) (Q : PyData → Prop) : Prop := match a, b with
  | .bool i, .bool j => Q (.bool (f i j))
  | _, _ => False
end
theorem a1_0 {α : Type} {x : α} : atI [x] 0 = some x := rfl
theorem a2_0 {α : Type} {x y : α} : atI [x, y] 0 = some x := rfl
theorem a2_1 {α : Type} {x y : α} : atI [x, y] 1 = some y := rfl
theorem a3_0 {α : Type} {x y z : α} : atI [x, y, z] 0 = some x := rfl
theorem a3_1 {α : Type} {x y z : α} : atI [x, y, z] 1 = some y := rfl
theorem a3_2 {α : Type} {x y z : α} : atI [x, y, z] 2 = some z := rfl
theorem iteTT {a b : Prop} : (if true = true then a else b) = a := rfl
theorem iteFF {a b : Prop} : (if false = true then a else b) = b := rfl
theorem iteTB {a b : Bool} : (if true = true then a else b) = a := rfl
theorem iteFB {a b : Bool} : (if false = true then a else b) = b := rfl
theorem iteTI {a b : Int} : (if true = true then a else b) = a := rfl
theorem iteFI {a b : Int} : (if false = true then a else b) = b := rfl
theorem bnd_some {α : Type} {a : α} {Q : α → Prop} : bnd (some a) Q = Q a := rfl
end My
namespace My
open PySem L2
def dCompL3 (tt : DT) (te : DE) (ρ : List Sl) (Q : List PyData → Prop) : List PyData → List PyData → Prop
  | [], acc => Q acc
  | .tuple [x, y, z] :: r, acc => tt (ρ ++ [.sh x, .sh y, .sh z]) fun b ρ' => ρ' = ρ ++ [.sh x, .sh y, .sh z] ∧ if b = true then te (ρ ++ [.sh x, .sh y, .sh z]) fun d ρ'' => ρ'' = ρ ++ [.sh x, .sh y, .sh z] ∧ dCompL3 tt te ρ Q r (acc ++ [d]) else dCompL3 tt te ρ Q r acc
  | _ :: _, _ => False
def dCompT3 (it : DF) (tt : DT) (te : DE) (ρ : List Sl) (Q : List PyData → List Sl → Prop) : Prop := it ρ fun xs ρ1 => xs.length ≤ 1000 ∧ dCompL3 tt te ρ1 (fun ds => Q ds ρ1) xs []
section
variable {X : Cx} {C : DC}
end
section
variable {X : Cx} {C : DC}
theorem pss_exC {sts : List Stmt} {t : DS} (h : ∀ C, PSs X sts (sOf C t)) : PSs X sts (fun D σ H => ∃ C, sOf C t D σ H) := fun pins s σ H D I zz2 => zz2.elim fun C q => h C pins s σ H D I q
open Classical in
theorem law_start {H : Hp} {hd hl : Addr} {v0 : V} {k : Nat} {t : DS} {D : Ends} (d : Hd H hd hl) (hD : ∀ H', D.rt (.bl true) H') (ht : t { nx := fun _ => False, rt := fun d => d = .bool true } (.no :: .hd :: List.replicate k .no)) :
    ∃ C, sOf C t D (some v0 :: some (.ref hd) :: List.replicate k none) H := by
  refine ⟨⟨fun b => b ≠ hd, some (hd, hl), H⟩, _, [], ⟨fun _ => False, fun d => d = .bool true, fun _ => False, fun _ => False, fun _ => False⟩, ⟨fun b => if b = hd then 1 else 0, fun b hb => ?_, fun b hb => ?_, fun q hq => ?_, fun i s e => ?_, fun p hp => (nomatch hp), Kq.refl, fun q hq => ?_, fun q hq => ?_, ⟨fun b hb => ?_, fun b xs hb => ?_⟩, ?_⟩, ht, ⟨fun _ _ _ _ h => h.elim, fun v d ρ σ H' R h => ?_, fun _ _ _ _ h => h.elim, fun _ _ _ _ h => h.elim, fun _ _ _ _ _ _ _ _ h => h.elim⟩⟩
  · obtain ⟨o, e⟩ := d.at1
    exact if_neg fun z => by rw [z, e] at hb; cases hb
  · intro z
    have hb' : (if b = hd then 1 else 0) = 0 := hb
    rw [if_pos z] at hb'
    cases hb'
  · cases hq
    exact if_pos rfl
  · match i with
    | 0 => cases e; trivial
    | 1 => cases e; exact ⟨(hd, hl), rfl, rfl⟩
    | i + 2 =>
      have e' : (List.replicate k Sl.no)[i]? = some s := e
      rw [List.getElem?_replicate] at e'
      split at e'
      · cases e'; trivial
      · cases e'
  · cases hq; exact d
  · cases hq; exact d
  · intro z
    obtain ⟨o, e⟩ := d.at1
    rw [z] at hb
    have hb' : H hd = none := hb
    rw [e] at hb'; cases hb'
  · intro z
    obtain ⟨_, _, _, _, _, _, _, _, e⟩ := id d
    rw [z] at hb
    have hb' : H hd = some (.tup xs) := hb
    rw [e] at hb'; cases hb'
  · simp
  · obtain ⟨col, r⟩ := R
    have t := r.pd _ List.mem_cons_self
    subst h
    cases (show ThV (Z col) H' v (.bool true) from t)
    exact hD H'
end
end My
namespace My
open PySem L2
section
variable {X : Cx} {C : DC}
def gT5 (i j k l n : Nat)  (d : PyData) (ρ : List Sl) (Q : List Sl → Prop) : Prop := match d with
  | .tuple [a, b, c, e, f] => Q (((((ρ.set i (.sh a)).set j (.sh b)).set k (.sh c)).set l (.sh e)).set n (.sh f))
  | _ => False
def strsD : List PyData → Option (List Str)
  | [] => some []
  | .str b :: r => (strsD r).map (b :: ·)
  | _ :: _ => none
def gInS (neg : Bool)  (a b : PyData) (Q : PyData → Prop) : Prop := match a, b with
  | .str i, .tuple xs => bnd (strsD xs) fun ns => Q (.bool (if neg then !(inV (.str i) (ns.map V.str)) else inV (.str i) (ns.map V.str)))
  | _, _ => False
def gMaxP  (ds : List PyData) (Q : PyData → Prop) : Prop := match ds with
  | [.list xs] => xs ≠ [] ∧ (∀ x ∈ xs, ∃ i j : Int, x = .tuple [.int i, .int j]) ∧ ∀ x ∈ xs, Q x
  | _ => False
end
end My
namespace My
open PySem L2
section
variable {X : Cx} {C : DC} {e : Expr} {u : DF}
def dPopI (i : Nat) (tk : DE)  (ρ : List Sl) (Q : PyData → List Sl → Prop) : Prop := match ρ[i]? with
  | some (.ow _) => tk ρ fun k ρ' => match ρ'[i]? with
    | some (.ow ds) => match k with
      | .int k => bnd (ixN ds.length k) fun j => bnd (ds[j]?) fun d => ds.length ≤ 1000 ∧ Q d (ρ'.set i (.ow (ds.eraseIdx j)))
      | _ => False
    | _ => False
  | _ => False
def dLrng (t : DE)  (ρ : List Sl) (Q : List PyData → List Sl → Prop) : Prop := t ρ fun d ρ' => match d with
  | .int n => (0 ≤ n ∧ n ≤ 1000) ∧ Q (rngD 0 n.toNat) ρ'
  | _ => False
end
end My
namespace My
open PySem L2
def zipD (xs ys : List PyData) : List PyData := (xs.zip ys).map fun p => .tuple [p.1, p.2]
section
variable {X : Cx} {C : DC} {tg e : Expr} {t u : DE}
def dZip (t u : DE)  (ρ : List Sl) (Q : List PyData → List Sl → Prop) : Prop := t ρ fun d ρ1 => u ρ1 fun d2 ρ2 => bnd (listD d) fun xs => bnd (listD d2) fun ys => Q (zipD xs ys) ρ2
end
def dCompL2 (tt : DT) (te : DE) (ρ : List Sl) (Q : List PyData → Prop) : List PyData → List PyData → Prop
  | [], acc => Q acc
  | .tuple [x, y] :: r, acc => tt (ρ ++ [.sh x, .sh y]) fun b ρ' => ρ' = ρ ++ [.sh x, .sh y] ∧ if b = true then te (ρ ++ [.sh x, .sh y]) fun d ρ'' => ρ'' = ρ ++ [.sh x, .sh y] ∧ dCompL2 tt te ρ Q r (acc ++ [d]) else dCompL2 tt te ρ Q r acc
  | _ :: _, _ => False
def dCompT2 (it : DF) (tt : DT) (te : DE) (ρ : List Sl) (Q : List PyData → List Sl → Prop) : Prop := it ρ fun xs ρ1 => xs.length ≤ 1000 ∧ dCompL2 tt te ρ1 (fun ds => Q ds ρ1) xs []
section
variable {X : Cx} {C : DC}
end
section
variable {X : Cx} {C : DC} {st : Stmt} {te : DE}
end
end My
namespace My
open PySem L2
section
variable {X : Cx} {C : DC} {st : Stmt}
def dIns (i : Nat) (tk te : DE)  (D : DEnds) (ρ : List Sl) : Prop := match ρ[i]? with
  | some (.ow _) => tk ρ fun k ρ1 => te ρ1 fun d ρ2 => match ρ2[i]? with
    | some (.ow ds) => ∃ n : Nat, k = .int ((n : Nat) : Int) ∧ n ≤ ds.length ∧ ds.length ≤ 1000 ∧ D.nx (ρ2.set i (.ow (ds.take n ++ [d] ++ ds.drop n)))
    | _ => False
  | _ => False
theorem ThVs.tk {F : Addr → Prop} {H : Hp} : ∀ {vs : List V} {ds : List PyData} (n : Nat), ThVs F H vs ds → ThVs F H (vs.take n) (ds.take n)
  | _, _, 0, _ => .nil
  | _, _, _ + 1, .nil => .nil
  | _, _, n + 1, .cons x t => .cons x (ThVs.tk n t)
theorem ThVs.dr {F : Addr → Prop} {H : Hp} : ∀ {vs : List V} {ds : List PyData} (n : Nat), ThVs F H vs ds → ThVs F H (vs.drop n) (ds.drop n)
  | _, _, 0, t => t
  | _, _, _ + 1, .nil => .nil
  | _, _, n + 1, .cons _ t => ThVs.dr n t
theorem ds_ins {i : Nat} {K : PySem.W.Frag} {tk te : DE} (hp : PS X st (tDrop (tBM K "list" rInsert (tVar i) (tCons (eOf C tk) (tCons (eOf C te) tNil))))) : PS X st (sOf C (dIns i tk te)) := PS.wk hp fun D σ H zz1 => el3 zz1 fun ρ P Dd zz2 ht E => zz2.elim fun col r => by
  unfold dIns at ht
  split at ht
  · rename_i ds0 e0
    obtain ⟨a, vs, e1, c, n, e2, t⟩ := r.sl i _ e0
    refine ⟨.ref a, join_some e1, .inl ⟨rfl, vs, SqL.of e2⟩, ρ, P, _, ⟨col, r⟩, ht, fun w k ρ1 H1 R1 q1 => ⟨ρ1, _, _, R1, q1, fun v d ρ' H' zz3 q => zz3.elim fun col' r' => ?_⟩⟩
    split at q
    · rename_i ds e0'
      obtain ⟨n, rfl, hn, hz, q⟩ := q
      obtain ⟨a', vs', e1', c', n', e2', t'⟩ := r'.sl i _ e0'
      rw [e1] at e1'
      cases e1'
      have tw : ThV (Z col') H' w (.int (n : Nat)) := r'.pd _ (List.mem_cons_of_mem _ List.mem_cons_self)
      cases tw
      refine ⟨a, vs', n, v, rfl, rfl, e2', by rw [t'.len]; exact hn, by rw [t'.len]; lia, E.nx _ _ _ ⟨col', ((r'.write e0' e1 (((t'.tk n).append (.cons (r'.pd (.v v d) List.mem_cons_self) .nil)).append (t'.dr n)))).sub fun _ h => List.mem_cons_of_mem _ (List.mem_cons_of_mem _ h)⟩ q⟩
    · exact q.elim
  · exact ht.elim
end
end My
namespace My
open PySem L2
section
variable {C : DC} {col col' : Addr → Nat} {ρ : List Sl} {σ σ' : St} {P : List Pe} {H H' : Hp} {p : Addr}
theorem RelC.chg (r : RelC C col ρ σ P H) (i : Nat) (s : Sl) (hl : ρ.length = σ'.length) (fr : ∀ b, H' b = none → col' b = 0) (inF : ∀ b, col' b = 0 → C.F b) (hnd : ∀ q, C.hand = some q → col' q.1 = 1)
    (z : ∀ b o, col b = 0 → H b = some o → col' b = 0 ∧ H' b = some o)
    (lo : ∀ b o, col b ≤ 1 → (∀ q, C.hand = some q → b ≠ q.1) → H b = some o → col' b ≤ 1 ∧ H' b = some o)
    (c2 : ∀ c as dss, Pe.o c as dss ∈ P → ∀ b o, col b = 2 * c + 2 → H b = some o → col' b = 2 * c + 2 ∧ H' b = some o)
    (ow : ∀ b o j, j ≠ i → col b = 2 * j + 3 → H b = some o → col' b = 2 * j + 3 ∧ H' b = some o)
    (kq : Kq C.hand C.H0 H') (hq : Hq C.hand H') (same : ∀ j, j ≠ i → σ'[j]? = σ[j]?)
    (new : i < ρ.length → SlR C col' H' i (σ'[i]?).join s) : RelC C col' (ρ.set i s) σ' P H' := by
  have mv0 : ∀ b o, Z col b → H b = some o → Z col' b ∧ H' b = some o := z
  refine ⟨fr, inF, hnd, fun j s' es => ?_, fun x hx => ?_, kq, hq, r.hq0, r.nf, by rw [List.length_set]; exact hl⟩
  · by_cases hj : j = i
    · subst hj
      rw [List.getElem?_set] at es
      simp only [if_true] at es
      split at es
      · rename_i hl'
        cases es
        exact new hl'
      · cases es
    · rw [List.getElem?_set_ne (Ne.symm hj)] at es
      rw [same j hj]
      have h := r.sl j s' es
      cases s' with
      | no => trivial
      | sh d => obtain ⟨v, e1, t⟩ := h; exact ⟨v, e1, t.mv mv0⟩
      | ow ds => obtain ⟨a, vs, e1, c, n, e2, t⟩ := h; exact ⟨a, vs, e1, (ow a _ j hj c e2).1, n, (ow a _ j hj c e2).2, t.mv mv0⟩
      | bo ds => obtain ⟨a, vs, e1, c, n, e2, t⟩ := h; exact ⟨a, vs, e1, (lo a _ c n e2).1, n, (lo a _ c n e2).2, t.mv mv0⟩
      | hd => exact h
      | o2 dss => obtain ⟨a, as, e1, c, e2, nd, t⟩ := h; exact ⟨a, as, e1, ⟨(ow a _ j hj c.1 e2).1, c.2⟩, (ow a _ j hj c.1 e2).2, nd, t.mv mv0 fun b o g e => ⟨⟨(ow b o j hj g.1 e).1, g.2⟩, (ow b o j hj g.1 e).2⟩⟩
      | b2 dss => obtain ⟨a, as, e1, c, e2, t⟩ := h; exact ⟨a, as, e1, ⟨(lo a _ c.1 c.2 e2).1, c.2⟩, (lo a _ c.1 c.2 e2).2, t.mv mv0 fun b o g e => ⟨⟨(lo b o g.1 g.2 e).1, g.2⟩, (lo b o g.1 g.2 e).2⟩⟩
      | di f ks =>
        obtain ⟨a, e1, c, n, e2⟩ := h
        obtain ⟨o, ho⟩ := Option.ne_none_iff_exists'.mp e2.ne
        exact ⟨a, e1, (ow a o j hj c ho).1, n, e2.mv fun o e => (ow a o j hj c e).2⟩
      | dm f ks =>
        obtain ⟨a, e1, c, n, e2⟩ := h
        obtain ⟨o, ho⟩ := Option.ne_none_iff_exists'.mp e2.ne
        exact ⟨a, e1, (ow a o j hj c ho).1, n, e2.mv fun o e => (ow a o j hj c e).2⟩
      | bd d => exact h
      | ot d =>
        obtain ⟨v, e1, t⟩ := h
        refine ⟨v, e1, t.mv fun b o g e => ?_⟩
        rcases g with g | ⟨g, xs, gt⟩
        · exact ⟨.inl ⟨(ow b o j hj g.1 e).1, g.2⟩, (ow b o j hj g.1 e).2⟩
        · have := z b o g e
          exact ⟨.inr ⟨this.1, xs, by rw [e] at gt; rw [this.2]; exact gt⟩, this.2⟩
  · have h := r.pd x hx
    cases x with
    | v v d => exact ThV.mv mv0 h
    | n a o => exact ⟨(lo a o h.1 h.2.1 h.2.2).1, h.2.1, (lo a o h.1 h.2.1 h.2.2).2⟩
    | s vs ds => exact ThVs.mv mv0 h
    | o c as dss => exact ⟨h.1, h.2.mv mv0 fun b o g e => ⟨⟨(c2 c as dss hx b o g.1 e).1, g.2⟩, (c2 c as dss hx b o g.1 e).2⟩⟩
    | w v d => exact h
end
end My
namespace My
open PySem L2
section
variable {X : Cx} {C : DC} {a b e : Expr} {pos : Pos}
end
end My
namespace My
open PySem L2
section
variable {X : Cx} {C : DC} {e : Expr}
end
end My
namespace My
open PySem L2
section
variable {X : Cx} {C : DC} {st : Stmt} {e : Expr} {te : DE} {pos : Pos} {u : DA}
end
end My
namespace My
open PySem L2
section
variable {X : Cx} {C : DC} {e : Expr} {ta : DE}
end
end My
namespace My
abbrev Tb := List (Option Int)
abbrev Rn := List (Option Nat)
abbrev Wy := Nat × Nat × Int
def stepF (st lv c : Int) : Option Int := if lv + c < 0 then none else some (if st < lv + c then st else lv + c)
def gt {α : Type} (t : List (Option α)) (p : Nat) : Option α := (t[p]?).join
def behF (st : Int) (t : Tb) (w : Wy) : Option Int := match gt t w.1 with
  | none => none
  | some l => stepF st l w.2.2
def moreF : Option Int → Option Int → Bool
  | none, _ => false
  | some _, none => true
  | some a, some b => decide (b < a)
structure TabOk (m : Nat) (st : Int) (t : Tb) : Prop where
  len : t.length = m
  bd : ∀ p x, gt t p = some x → 0 ≤ x ∧ x ≤ st
structure LandOk (m : Nat) (ws : List Wy) : Prop where
  m1 : 1 ≤ m
  m2 : m ≤ 12
  few : ws.length ≤ 40
  st : ∀ w ∈ ws, w.1 < m
  en : ∀ w ∈ ws, w.2.1 < m
  lo : ∀ w ∈ ws, -1000000000000000000 ≤ w.2.2
  hi : ∀ w ∈ ws, w.2.2 ≤ 1000000000000000000
theorem gt_out {α : Type} {t : List (Option α)} {p : Nat} (h : t.length ≤ p) : gt t p = none := by unfold gt; rw [List.getElem?_eq_none h]; rfl
theorem gt_at {α : Type} {t : List (Option α)} {p : Nat} (h : p < t.length) : t[p]? = some (gt t p) := by unfold gt; rw [List.getElem?_eq_getElem h]; rfl
def rstep (st : Int) (t : Tb) (acc : Tb × Rn) (p : Wy × Nat) : Tb × Rn :=
  if moreF (behF st t p.1) (gt acc.1 p.1.2.1) = true then (acc.1.set p.1.2.1 (behF st t p.1), acc.2.set p.1.2.1 (some p.2)) else acc
def rowF (m : Nat) (ws : List Wy) (st : Int) (t s : Tb) : Tb × Rn := ws.zipIdx.foldl (rstep st t) (s, List.replicate m none)
abbrev Rw := Tb × Rn
inductive Rows (m : Nat) (ws : List Wy) (st : Int) (b : Tb) : List Rw → Prop
  | one : Rows m ws st b [(b, List.replicate m none)]
  | more {r rs} : Rows m ws st b (r :: rs) → (rowF m ws st r.1 r.1).1 ≠ r.1 → Rows m ws st b (rowF m ws st r.1 r.1 :: r :: rs)
section
variable {m : Nat} {ws : List Wy} {st : Int} {b : Tb}
end
end My
namespace My
end My
namespace My
section
variable {m : Nat} {ws : List Wy} {st : Int} {b : Tb}
end
section
variable {ws : List Wy} {st : Int} {b : Tb} {N : List Nat} {P : Nat → Nat} {L : Nat → Int}
end
section
variable {m : Nat} {ws : List Wy} {st : Int} {b : Tb} {N : List Nat} {P : Nat → Nat} {L : Nat → Int}
end
end My
namespace My
abbrev Sp2 := Nat × Int
section
variable {m : Nat} {ws : List Wy} {st : Int} {b g : Sp2}
end
end My
namespace My
section
variable {ws : List Wy} {row : List Nat} {cs : List Int} {st sc gv x y : Int} {p0 : Nat}
end
end My
namespace My
section
variable {m : Nat} {row : List Nat} {cs : List Int} {sc gv : Int} {B S ws : List Wy}
end
section
variable {m : Nat} {ws : List Wy} {row : List Nat} {cs : List Int} {sc gv st x y : Int} {p0 pl : Nat}
end
end My
namespace My
section
variable {m : Nat} {ws : List Wy} {st : Int}
end
end My
namespace My
section
variable {m : Nat} {st : Int}
end
end My
namespace L2
open PySem PySem.Spec PyProof.Rows
end L2
namespace My
open PySem L2
section
variable {X : Cx} {C : DC}
variable {st : Stmt} {te : DE}
end
end My
namespace My
open PySem L2
section
variable {X : Cx} {C : DC} {st : Stmt} {te : DE} {tg e : Expr} {u : DF}
end
end My
namespace My
open PySem L2
section
variable {C : DC}
section
variable {X : Cx} {st : Stmt} {ta : DF}
variable {a b : Expr} {te : DE} {pos : Pos}
end
end
section
variable {X : Cx} {C : DC} {st : Stmt} {te : DE}
end
section
variable {C : DC}
end
section
variable {X : Cx} {C : DC}
end
end My
namespace My
open PySem L2
section
variable {C : DC}
end
section
variable {X : Cx} {C : DC} {st : Stmt} {te : DE}
end
section
variable {C : DC}
end
section
variable {C : DC} {col col2 : Addr → Nat} {ρ : List Sl} {σ : St} {P : List Pe} {H H2 : Hp} {i : Nat} {ds : List PyData} {a : Addr} {vs : List V}
variable {X : Cx} {e : Expr}
end
end My
namespace L2
open PySem PySem.Spec PyProof.Rows
section
variable {κ : Type} [DecidableEq κ]
end
section
variable {P : Program} {w : World} {H : Hp} {h : Heap} {a : Addr}
end
section
variable {X : Cx} {pins : List (Addr × Obj)} {σ : St} {H : Hp} {s : Shared} {a : Addr} {y v : V} {u r : Value} {o : Option V} {A : Around} {E : Value → Shared → Prop}
theorem Inv.big (I : Inv X pins σ H s) : sysModules < s.heap.objs.size := by
  have h : mainGlobals < s.heap.objs.size := (I.mod.glob.keeps I.bk).lt
  exact Nat.lt_trans (by decide) h
end
section
variable {X : Cx} {pins : List (Addr × Obj)} {σ : St} {H : Hp} {s : Shared} {a : Addr} {kvs : List (Key × V)} {k : Key} {u : Value} {A : Around} {E : Value → Shared → Prop}
end
section
variable {X : Cx} {o i e value : Expr} {pos pos' tpos : Pos} {td ty tv : TE}
end
theorem dt_empty {P : Program} {w : World} {H : Hp} (h : Heap) (hb : sysModules < h.objs.size) : ObjOk P w H (h.push { cls := .type "dict", data := .dict #[] }) h.objs.size (.dT []) :=
  ⟨Nat.zero_le _, beq_eq_false_iff_ne.mpr (Ne.symm (Nat.ne_of_lt hb)), [], .nil, _, #[], 0, Heap.get?_push_size _ rfl, ⟨rfl, rfl, rfl⟩, rfl, rfl, List.nodup_nil⟩
def tDNewT : TE := fun _ H Q => ∀ p, H p = none → Q (.ref p) (upd H p (.dT []))
section
variable {X : Cx} {pos : Pos}
theorem pe_dnewT : PE X (.Dict [] [] pos) tDNewT := fun pins s σ H Q I h =>
  wpAny_Dict_empty ⟨.ref s.heap.objs.size, _, I.laid (a := s.heap.objs.size) (o := .dT []) (t' := s.toks) (fun _ _ q => Heap.get?_push_of_some _ q) (Nat.le_refl _) (dt_empty s.heap I.big), rfl, h _ (I.hok.fresh (Nat.le_refl _))⟩
end
section
variable {X : Cx} {pins : List (Addr × Obj)} {σ : St} {H : Hp} {s : Shared} {a : Addr} {y d : V} {u r : Value} {o : Option V} {A : Around} {E : Value → Shared → Prop}
end
section
variable {X : Cx} {o e f : Expr} {apos cpos : Pos} {td ty tx : TE}
end
section
variable {X : Cx} {pins : List (Addr × Obj)} {σ : St} {H : Hp} {s : Shared} {a : Addr} {kvs : List (Key × V)} {A : Around} {E : Value → Shared → Prop}
end
section
variable {X : Cx} {pins : List (Addr × Obj)} {σ : St} {H : Hp} {s : Shared} {a : Addr} {y : V} {u : Value} {A : Around} {E : Value → Shared → Prop}
end
end L2
namespace L2
open PySem PySem.Spec PyProof.Rows
section
variable {prog : Program} {w : World} {A : Around} {E : Value → Shared → Prop} {s : Shared}
end
end L2
namespace My
open PySem L2
section
variable {C : DC} {col : Addr → Nat} {ρ : List Sl} {σ : St} {P : List Pe} {H H' : Hp} {p : Addr}
end
open PySem.Spec PyProof.Rows
section
variable {P : Program} {w : World} {K : PySem.W.Frag} {mg : Str → Option Value} {base : Heap}
open Classical in
end
section
variable {X : Cx} {C : DC} {st : Stmt} {e a b : Expr} {te tk : DE} {u : DA} {pos : Pos}
end
end My
namespace My
open PySem L2
mutual
def lstsD : PyData → List (List PyData)
  | .list ds => ds :: lstsL ds
  | .tuple ds => lstsL ds
  | _ => []
def lstsL : List PyData → List (List PyData)
  | [] => []
  | d :: ds => lstsD d ++ lstsL ds
end
mutual
def szD : PyData → Nat
  | .list ds => szL ds + 1
  | .tuple ds => szL ds + 1
  | _ => 1
def szL : List PyData → Nat
  | [] => 0
  | d :: ds => szD d + szL ds
end
section
variable {X : Cx} {C : DC} {st : Stmt} {u : DA}
variable {a b : Expr} {tb : DE} {pos : Pos}
def dEqV (neg : Bool) (i : Nat) (tb : DE)  (ρ : List Sl) (Q : PyData → List Sl → Prop) : Prop := bnd (slotD ρ i) fun _ => tb ρ fun b ρ1 => bnd (slotD ρ1 i) fun a => gEq neg a b fun d => Q d ρ1
variable {a b : Expr} {tb : DE} {pos : Pos}
end
end My
namespace L2
open PySem PySem.Spec PyProof.Rows
end L2
namespace My
open PySem L2
open PySem.Spec PyProof.Rows
section
variable {C : DC} {col : Addr → Nat} {ρ : List Sl} {σ : L2.St} {P : List Pe} {H H' : Hp} {p : Addr}
end
section
variable {X : Cx} {C : DC} {st : Stmt} {e : Expr} {te : DE} {u : DA} {pos : Pos}
def dDict0 (ρ : List Sl) (Q : PyData → List Sl → Prop) : Prop := Q (.dict []) ρ
theorem pd_dict0 : PE X (.Dict [] [] pos) (eOf C dDict0) := PE.wk pe_dnewT fun σ H Q z => el3 z fun ρ P Qd R ht k => R.elim fun col r => fun p hp => k _ _ _ _ ⟨col, (r.lay hp).push (.dic (r.fresh p hp) upd_same .t)⟩ ht
end
end My
namespace My
open PySem L2
section
variable {X : Cx} {C : DC} {st : Stmt} {e : Expr} {ta : DE}
abbrev rTupOf (K : PySem.W.Frag) : List V → Hp → VK → Prop := fun xs H Q => ∃ p ys, xs = [.ref p] ∧ ((SqL K H p ys ∧ ∀ l, H l = none → Q (.ref l) (upd H l (.tup ys))) ∨ (SqT K H p ys ∧ Q (.ref p) H))
def dTupV (i : Nat)  (ρ : List Sl) (Q : PyData → List Sl → Prop) : Prop := bnd (slotD ρ i) fun a => bnd (listD a) fun ds => Q (.tuple ds) ρ
theorem pd_tupv {i : Nat} {K : PySem.W.Frag} (h : PE X e (tCB (rTupOf K) (tCons (tVar i) tNil))) : PE X e (eOf C (dTupV i)) := PE.wk h fun _ _ _ zz16 => el3 zz16 fun ρ P _ zz17 ht k => zz17.elim fun col r => by
  obtain ⟨a, ha, ht⟩ := bnd_of ht
  obtain ⟨ds, hn, q⟩ := bnd_of ht
  obtain ⟨v, ev, t⟩ := r.slot ha
  have := listD_eq hn
  subst this
  cases t with
  | th t =>
    cases t with
    | lst za e t => exact ⟨_, ev, _, _, rfl, .inl ⟨SqL.of e, fun l hl => k _ _ _ _ ⟨col, r.tup t hl⟩ q⟩⟩
  | ls e t => exact ⟨_, ev, _, _, rfl, .inl ⟨SqL.of e, fun l hl => k _ _ _ _ ⟨col, r.tup t hl⟩ q⟩⟩
def dTupE (ta : DE)  (ρ : List Sl) (Q : PyData → List Sl → Prop) : Prop := ta ρ fun a ρ' => bnd (listD a) fun ds => Q (.tuple ds) ρ'
end
end My
namespace My
open PySem L2
section
variable {X : Cx} {C : DC} {st : Stmt} {e : Expr} {ta : DE}
end
end My
namespace My
abbrev Ct := List (List (Option Int))
abbrev Spt := Nat × Nat
abbrev Mv := Spt × Spt × Int
def ca (t : Ct) (s : Spt) : Option Int := gt (t.getD s.1 []) s.2
def addO (a : Option Int) (c : Int) : Option Int := a.map fun x => x + c
structure CtOk (m n : Nat) (t : Ct) : Prop where
  len : t.length = m
  row : ∀ r ∈ t, r.length = n
  low : ∀ s x, ca t s = some x → 0 ≤ x
def wiF (a b : Option Int) : Bool := match b with
  | none => true
  | some y => match a with
    | none => false
    | some x => decide (x ≤ y)
end My
namespace My
open PySem L2
end My
namespace My
open PySem L2
end My
namespace L2
open PySem PySem.Spec PyProof.Rows
section
variable {X : Cx}
end
end L2
namespace My
open PySem L2
section
variable {C : DC}
end
end My
namespace L2
open PySem PySem.Spec PyProof.Rows
section
variable {X : Cx} {pins : List (Addr × Obj)} {σ : St} {H : Hp} {s : Shared}
end
section
variable {X : Cx}
end
end L2
namespace L2
open PySem PySem.Spec PyProof.Rows
section
variable {prog : Program} {w : World} {K : Type} [DecidableEq K] {knd : HeapKind prog w K} {A : Around} {E : Value → Shared → Prop} {s : Shared}
end
section
variable {X : Cx} {pins : List (Addr × Obj)} {σ : St} {H : Hp} {s : Shared} {a b : Addr} {kvs : List (List Key × V)} {k : List Key} {A : Around} {E : Value → Shared → Prop}
end
section
variable {prog : Program} {w : World} {A : Around} {E : Value → Shared → Prop} {s : Shared}
end
end L2
namespace L2
open PySem PySem.Spec PyProof.Rows
section
variable {prog : Program} {w : World} {A : Around} {E : Value → Shared → Prop} {s : Shared}
end
section
variable {prog : Program} {w : World} {A : Around} {E : Value → Shared → Prop} {s : Shared}
end
section
variable {prog : Program} {w : World} {A : Around} {R : Result → Shared → Prop} {I : Addr} {fp wr : List Addr} {n : Nat} {P : Nat → Value → Prop} {St : Nat → Heap → Prop}
end
section
variable {X : Cx}
end
end L2
namespace My
open PySem L2
open PySem.Spec PyProof.Rows
mutual
def flatD : PyData → Bool
  | .none => true
  | .bool _ => true
  | .int _ => true
  | .str _ => true
  | .tuple xs => flatL xs
  | .list _ => false
  | .dict _ => false
def flatL : List PyData → Bool
  | [] => true
  | d :: ds => flatD d && flatL ds
end
mutual
theorem ThV.flat {F G : Addr → Prop} {H : Hp} (ft : ∀ b xs, H b = some (.tup xs) → F b) : ∀ {v : V} {d : PyData}, ThV G H v d → flatD d = true → ThV F H v d
  | _, _, .non, _ => .non
  | _, _, .bl b, _ => .bl b
  | _, _, .int i, _ => .int i
  | _, _, .str x, _ => .str x
  | _, _, .lst _ _ _, h => by rw [flatD] at h; cases h
  | _, _, .tup _ e t, h => .tup (ft _ _ e) e (ThVs.flat ft t (by rw [flatD] at h; exact h))
  | _, _, .dic _ _ _, h => by rw [flatD] at h; cases h
theorem ThVs.flat {F G : Addr → Prop} {H : Hp} (ft : ∀ b xs, H b = some (.tup xs) → F b) : ∀ {vs : List V} {ds : List PyData}, ThVs G H vs ds → flatL ds = true → ThVs F H vs ds
  | _, _, .nil, _ => .nil
  | _, _, .cons x t, h => by
    rw [flatL, Bool.and_eq_true] at h
    exact .cons (ThV.flat ft x h.1) (ThVs.flat ft t h.2)
end
open Classical in
theorem RelC.norm0 {C : DC} {col : Addr → Nat} {ρ : List Sl} {σ : L2.St} {P : List Pe} {H : Hp} (r : RelC C col ρ σ P H) : ∃ col', RelC C col' ρ σ P H ∧ (∀ b xs, H b = some (.tup xs) → col' b = 0) ∧ ∀ b, C.H0 b ≠ none → col' b ≤ 1 := by
  obtain ⟨col, r, tp⟩ := r.norm
  let col' : Addr → Nat := fun b => if C.H0 b ≠ none ∧ 1 < col b then 1 else col b
  have c0 : ∀ b, C.H0 b = none → col' b = col b := fun b h => if_neg fun z => z.1 h
  have c1 : ∀ b, col b ≤ 1 → col' b = col b := fun b h => if_neg fun z => absurd z.2 (by lia)
  have lo : ∀ b, col b ≤ 1 → col' b ≤ 1 := fun b h => by rw [c1 b h]; exact h
  have z0 : ∀ b, col' b = 0 → col b = 0 := fun b h => by
    by_cases q : C.H0 b ≠ none ∧ 1 < col b
    · have h : (if C.H0 b ≠ none ∧ 1 < col b then 1 else col b) = 0 := h
      rw [if_pos q] at h; cases h
    · have h : (if C.H0 b ≠ none ∧ 1 < col b then 1 else col b) = 0 := h
      rw [if_neg q] at h; exact h
  have mv0 : ∀ b o, Z col b → H b = some o → Z col' b ∧ H b = some o := fun b o z e => ⟨(c1 b (by rw [show col b = 0 from z]; decide)).trans z, e⟩
  refine ⟨col', ⟨fun b hb => (c1 b (by rw [r.fresh b hb]; decide)).trans (r.fresh b hb), fun b hb => r.inF b (z0 b hb), fun q hq => (c1 _ (by rw [r.hnd q hq]; decide)).trans (r.hnd q hq), fun i s e => ?_, fun p hp => ?_, r.kq, r.hq, r.hq0, r.nf, r.len⟩, fun b xs e => (c1 b (by rw [tp b xs e]; decide)).trans (tp b xs e), fun b hb => ?_⟩
  · have h := r.sl i s e
    cases s with
    | no => trivial
    | sh d => obtain ⟨v, e1, t⟩ := h; exact ⟨v, e1, t.mv mv0⟩
    | ow ds => obtain ⟨a, vs, e1, c, n, e2, t⟩ := h; exact ⟨a, vs, e1, (c0 a n).trans c, n, e2, t.mv mv0⟩
    | bo ds => obtain ⟨a, vs, e1, c, n, e2, t⟩ := h; exact ⟨a, vs, e1, lo a c, n, e2, t.mv mv0⟩
    | hd => exact h
    | o2 dss => obtain ⟨a, as, e1, c, e2, nd, t⟩ := h; exact ⟨a, as, e1, ⟨(c0 a c.2).trans c.1, c.2⟩, e2, nd, t.mv mv0 fun b o g e => ⟨⟨(c0 b g.2).trans g.1, g.2⟩, e⟩⟩
    | b2 dss => obtain ⟨a, as, e1, c, e2, t⟩ := h; exact ⟨a, as, e1, ⟨lo a c.1, c.2⟩, e2, t.mv mv0 fun b o g e => ⟨⟨lo b g.1, g.2⟩, e⟩⟩
    | di f ks => obtain ⟨a, e1, c, n, e2⟩ := h; exact ⟨a, e1, (c0 a n).trans c, n, e2⟩
    | dm f ks => obtain ⟨a, e1, c, n, e2⟩ := h; exact ⟨a, e1, (c0 a n).trans c, n, e2⟩
    | bd d => exact h
    | ot d => obtain ⟨v, e1, t⟩ := h; exact ⟨v, e1, t.mv fun b o g e => ⟨g.imp (fun g => ⟨(c0 b g.2).trans g.1, g.2⟩) fun g => ⟨(c1 b (by rw [g.1]; decide)).trans g.1, g.2⟩, e⟩⟩
  · have h := r.pd p hp
    cases p with
    | v v d => exact ThV.mv mv0 h
    | n a o => exact ⟨lo a h.1, h.2⟩
    | s vs ds => exact ThVs.mv mv0 h
    | o c as dss => exact ⟨h.1, h.2.mv mv0 fun b o g e => ⟨⟨(c0 b g.2).trans g.1, g.2⟩, e⟩⟩
    | w v d => exact h
  · show (if C.H0 b ≠ none ∧ 1 < col b then 1 else col b) ≤ 1
    split
    · exact Nat.le_refl _
    · rename_i q
      rcases Nat.lt_or_ge 1 (col b) with z | z
      · exact absurd ⟨hb, z⟩ q
      · exact z
def lOf (C : DC) (t : DE) : TE := fun σ H Q => ∃ ρ P Qd, Rel C ρ σ P H ∧ t ρ Qd ∧ ∀ v d ρ' H', Rel C ρ' σ (.w v d :: P) H' → Qd d ρ' → Q v H'
section
variable {X : Cx} {C : DC} {e a b : Expr} {es : List Expr} {t ta tb te : DE} {u : DA} {pos : Pos} {st : Stmt} {tg : Expr}
def dLVar (i : Nat) (ρ : List Sl) (Q : PyData → List Sl → Prop) : Prop := bnd (lentD ρ i) fun d => Q d ρ
theorem pl_var {i : Nat} (h : PE X e (tVar i)) : PE X e (lOf C (dLVar i)) := PE.wk h fun σ H Q z => el3 z fun ρ P Qd R ht k => R.elim fun col r => by
  obtain ⟨d, hd, q⟩ := bnd_of ht
  obtain ⟨v, ev, t⟩ := r.lent hd
  exact ⟨v, ev, k _ _ _ _ ⟨col, r.add (x := .w v d) t⟩ q⟩
theorem RelC.ixL {K : PySem.W.Frag} {F : Addr → Prop} {col : Addr → Nat} {ρ : List Sl} {σ : L2.St} {P : List Pe} {H : Hp} {v w : V} {a b d : PyData} (r : RelC C col ρ σ P H) (t1 : ThV (Le C) C.H0 v a) (t2 : ThV F H w b) (h : ixD a b = some d) : ∃ u, ThV (Le C) C.H0 u d ∧ ∀ Q : VK, Q u H → rIx K v w H Q := by
  unfold ixD at h
  split at h
  · cases t2
    obtain ⟨p, vs, rfl, n, e, t⟩ := th_lst t1
    obtain ⟨u, hu, tu⟩ := atI_th t h
    exact ⟨u, tu, fun Q q => .inl ⟨p, vs, _, u, rfl, rfl, SqL.of (r.kq p _ e n.2), hu, q⟩⟩
  · cases t2
    obtain ⟨p, vs, rfl, n, e, t⟩ := th_tup t1
    obtain ⟨u, hu, tu⟩ := atI_th t h
    exact ⟨u, tu, fun Q q => .inr (.inl ⟨p, vs, _, u, rfl, rfl, SqT.of (r.kq p _ e n.2), hu, q⟩)⟩
  · cases h
def dIxL (ta tb : DE)  (ρ : List Sl) (Q : PyData → List Sl → Prop) : Prop := ta ρ fun a ρ1 => tb ρ1 fun b ρ2 => bnd (ixD a b) fun d => Q d ρ2
theorem pl_ix (ha : PE X a (lOf C ta)) (hb : PE X b (eOf C tb)) (hs : PlainIx b) : PE X (.Subscript a b pos) (lOf C (dIxL ta tb)) := PE.wk (pe_ix ix_seq ha hb hs) fun _ _ _ z => el3 z fun ρ P _ R ht k => ⟨ρ, P, _, R, ht, fun v _ ρ1 H1 R1 h1 => ⟨ρ1, _, _, R1, h1, fun w _ ρ2 H2 R2 h2 => R2.elim fun col r => by
  obtain ⟨d, hd, q⟩ := bnd_of h2
  obtain ⟨x, tu, f⟩ := r.ixL (K := X.K) (r.pd _ (List.mem_cons_of_mem _ List.mem_cons_self)) (show ThV (Z col) H2 w _ from r.pd _ List.mem_cons_self) hd
  exact f _ (k _ _ _ _ ⟨col, (r.sub fun _ h => List.mem_cons_of_mem _ (List.mem_cons_of_mem _ h)).add (x := .w x d) tu⟩ q)⟩⟩
def dFlat (t : DE)  (ρ : List Sl) (Q : PyData → List Sl → Prop) : Prop := t ρ fun d ρ' => flatD d = true ∧ Q d ρ'
theorem pd_flat (h : PE X e (lOf C t)) : PE X e (eOf C (dFlat t)) := PE.wk h fun _ _ _ z => el3 z fun ρ P _ R ht k => ⟨ρ, P, _, R, ht, fun v d ρ' H' R' q => R'.elim fun col0 r0 => by
  obtain ⟨col, r, tp, _⟩ := r0.norm0
  exact k _ _ _ _ ⟨col, (r.sub fun _ h => List.mem_cons_of_mem _ h).push ((r.le (r.pd _ List.mem_cons_self)).flat tp q.1)⟩ q.2⟩
def dLenL (t : DE)  (ρ : List Sl) (Q : PyData → List Sl → Prop) : Prop := t ρ fun d ρ' => bnd (lenD d) fun n => Q (.int n) ρ'
theorem pd_lenL {K : PySem.W.Frag} (h : PE X e (tCB (rLen K) (tCons (lOf C t) tNil))) : PE X e (eOf C (dLenL t)) := PE.wk h fun _ _ _ z => el3 z fun ρ P _ R ht k => ⟨ρ, P, _, R, ht, fun v d ρ' H' R' q => R'.elim fun col r => by
  obtain ⟨n, hn, q⟩ := bnd_of q
  have t := r.le (r.pd _ List.mem_cons_self)
  have fin := k _ _ _ _ ⟨col, (r.sub fun _ h => List.mem_cons_of_mem _ h).push (.int n)⟩ q
  cases d with
  | list ds =>
    cases hn
    obtain ⟨p, vs, rfl, _, e, t⟩ := th_lst t
    exact ⟨p, vs, rfl, .inl (SqL.of e), by rw [t.len]; exact fin⟩
  | tuple ds =>
    cases hn
    obtain ⟨p, vs, rfl, _, e, t⟩ := th_tup t
    exact ⟨p, vs, rfl, .inr (SqT.of e), by rw [t.len]; exact fin⟩
  | _ => cases hn⟩
def dIsiL (t : DE) (T : String)  (ρ : List Sl) (Q : PyData → List Sl → Prop) : Prop := t ρ fun a ρ' => Q (.bool (isiD T a)) ρ'
theorem ty_le {K : PySem.W.Frag} {F : Addr → Prop} {H : Hp} {v : V} {d : PyData} (t : ThV F H v d) : ∃ t', tyD d = some t' ∧ TyOf2 K H v (.type t') := by
  obtain ⟨t', e1, e2⟩ := ty_rd (K := K) (col := fun _ => 0) (.th (t.mv fun b o _ e => ⟨rfl, e⟩))
  exact ⟨t', e1, e2⟩
theorem pd_isiL {K : PySem.W.Frag} {T : String} (hT : TyOk K T) (h : PE X e (tCB (rIsi K) (tCons (lOf C t) (tCons (tC (.ty T)) tNil)))) : PE X e (eOf C (dIsiL t T)) := PE.wk h fun _ _ _ z => el3 z fun ρ P _ R ht k => ⟨ρ, P, _, R, ht, fun v d ρ' H' R' q => R'.elim fun col r => by
  obtain ⟨t', e1, e2⟩ := ty_le (K := K) (r.le (r.pd _ List.mem_cons_self))
  exact ⟨v, .ty T, .type T, _, _, rfl, rfl, e2, hT d t' e1, k _ _ _ _ ⟨col, (r.sub fun _ h => List.mem_cons_of_mem _ h).push (.bl _)⟩ q⟩⟩
def dIsNL (neg : Bool) (t : DE)  (ρ : List Sl) (Q : PyData → List Sl → Prop) : Prop := t ρ fun a ρ' => Q (.bool (if neg then !isN a else isN a)) ρ'
def dListL (t : DE)  (ρ : List Sl) (Q : List PyData → List Sl → Prop) : Prop := t ρ fun d ρ' => bnd (itemsD d) fun ds => flatL ds = true ∧ Q ds ρ'
theorem pf_listL {K : PySem.W.Frag} (h : PE X e (tCB (rListOf K) (tCons (lOf C t) tNil))) : PE X e (fOf C (dListL t)) := PE.wk h fun _ _ _ z => el3 z fun ρ P _ R ht k => ⟨ρ, P, _, R, ht, fun v d ρ' H' R' q => R'.elim fun col0 r0 => by
  obtain ⟨ds, hn, hf, q2⟩ := bnd_of q
  obtain ⟨col, r, tp, _⟩ := r0.norm0
  have t := r.le (r.pd _ List.mem_cons_self)
  cases d with
  | list es =>
    cases hn
    obtain ⟨p, vs, rfl, _, e, t⟩ := th_lst t
    exact ⟨p, vs, rfl, .inl (SqL.of e), fun l hl => k _ _ _ _ _ ⟨col, r.sub fun _ h => List.mem_cons_of_mem _ h, t.flat tp hf⟩ hl q2⟩
  | tuple es =>
    cases hn
    obtain ⟨p, vs, rfl, _, e, t⟩ := th_tup t
    exact ⟨p, vs, rfl, .inr (SqT.of e), fun l hl => k _ _ _ _ _ ⟨col, r.sub fun _ h => List.mem_cons_of_mem _ h, t.flat tp hf⟩ hl q2⟩
  | _ => cases hn⟩
def dIL (t : DE)  (ρ : List Sl) (Q : List PyData → List Sl → Prop) : Prop := t ρ fun d ρ' => bnd (listD d) fun xs => flatL xs = true ∧ Q xs ρ'
def dEnumL (t : DE)  (ρ : List Sl) (Q : List PyData → List Sl → Prop) : Prop := t ρ fun d ρ' => bnd (listD d) fun xs => flatL xs = true ∧ Q (enumD xs) ρ'
theorem di_enumL {K : PySem.W.Frag} (h : PI X tg e (iEnum K (tCons (lOf C t) tNil))) : PI X tg e (iOf C (dEnumL t)) := PI.wk h fun _ _ _ z => el3 z fun ρ P _ R ht k => ⟨ρ, P, _, R, ht, fun v d ρ' H' R' q => R'.elim fun col0 r0 => by
  obtain ⟨xs, hx, hf, q2⟩ := bnd_of q
  have := listD_eq hx
  subst this
  obtain ⟨col, r, tp, lo⟩ := r0.norm0
  obtain ⟨a, vs, rfl, n, e1, t1⟩ := th_lst (r.le (r.pd _ List.mem_cons_self))
  refine ⟨a, rfl, ⟨vs, SqL.of e1⟩, k _ ρ' (.n a (.lst vs) :: .s vs xs :: P) H' _ ⟨col, ?_⟩ (fun _ h => List.mem_cons_of_mem _ (List.mem_cons_of_mem _ h)) it_enum q2⟩
  exact ((r.sub fun _ h => List.mem_cons_of_mem _ h).add (x := .s vs xs) (t1.flat tp hf)).add (x := .n a (.lst vs)) ⟨lo a n.1, n.2, e1⟩⟩
def aW (t : DE) (u : DA)  (ρ : List Sl) (Q : List Ar → List Sl → Prop) : Prop := t ρ fun d ρ1 => u ρ1 fun as ρ2 => Q (.w d :: as) ρ2
end
end My
namespace My
open PySem L2
def ownS (C : DC) (col : Addr → Nat) (i : Nat) (b : Addr) : Prop := col b = 2 * i + 3 ∧ C.H0 b = none
open Classical in
noncomputable def ldC (C : DC) (col : Addr → Nat) (H : Hp) (i : Nat) : DC := ⟨fun b => C.F b ∧ ¬ ownS C col i b, C.hand, fun b => if ownS C col i b ∨ (∃ xs, H b = some (.tup xs)) then H b else C.H0 b⟩
def noBB : List Sl → Bool
  | [] => true
  | .b2 _ :: _ => false
  | .no :: r => noBB r
  | .sh _ :: r => noBB r
  | .ow _ :: r => noBB r
  | .bo _ :: r => noBB r
  | .hd :: r => noBB r
  | .o2 _ :: r => noBB r
  | .di _ _ :: r => noBB r
  | .dm _ _ :: r => noBB r
  | .bd _ :: r => noBB r
  | .ot _ :: r => noBB r
theorem noBB_get : ∀ {ρ : List Sl} {j : Nat} {d : List (List PyData)}, noBB ρ = true → ρ[j]? = some (.b2 d) → False
  | [], _, _, _, e => by cases e
  | s :: r, 0, d, h, e => by cases e; cases h
  | s :: r, j + 1, d, h, e => by
    have e : r[j]? = some (.b2 d) := e
    cases s with
    | b2 _ => cases h
    | _ => exact noBB_get (show noBB r = true from h) e
section
variable {C : DC} {col col2 : Addr → Nat} {ρ : List Sl} {σ : L2.St} {P : List Pe} {H H2 : Hp} {i : Nat} {d : PyData}
theorem ld_in (h : ownS C col i b ∨ ∃ xs, H b = some (.tup xs)) : (ldC C col H i).H0 b = H b := if_pos h
theorem ld_out {b : Addr} (h : ¬ (ownS C col i b ∨ ∃ xs, H b = some (.tup xs))) : (ldC C col H i).H0 b = C.H0 b := if_neg h
theorem RelC.ld_at (r : RelC C col ρ σ P H) {b : Addr} {o : HO} (e : C.H0 b = some o) (n : ∀ q, C.hand = some q → b ≠ q.1) : (ldC C col H i).H0 b = some o := by
  by_cases z : ownS C col i b ∨ ∃ xs, H b = some (.tup xs)
  · rw [ld_in z]; exact r.kq b o e n
  · rw [ld_out z]; exact e
theorem RelC.ld_le (r : RelC C col ρ σ P H) {v : V} {x : PyData} (t : ThV (Le C) C.H0 v x) : ThV (Le (ldC C col H i)) (ldC C col H i).H0 v x := t.mv fun b o g e => ⟨⟨(by rw [r.ld_at e g.2]; exact fun q => nomatch q), g.2⟩, r.ld_at e g.2⟩
theorem RelC.notT (r : RelC C col ρ σ P H) (tp : ∀ b xs, H b = some (.tup xs) → col b = 0) {b : Addr} (h1 : col b ≠ 2 * i + 3) (h2 : col b ≠ 0) : ¬ (ownS C col i b ∨ ∃ xs, H b = some (.tup xs)) := fun z => by
  rcases z with z | ⟨xs, z⟩
  · exact h1 z.1
  · exact h2 (tp b xs z)
open Classical in
theorem RelC.lendT (r : RelC C col ρ σ P H) (tp : ∀ b xs, H b = some (.tup xs) → col b = 0) (ei : ρ[i]? = some (.ot d)) : RelC (ldC C col H i) (fun b => if ownS C col i b then 1 else col b) (ρ.set i (.bd d)) σ P H := by
  have cs : ∀ b, ownS C col i b → (if ownS C col i b then 1 else col b) = 1 := fun b h => if_pos h
  have cn : ∀ b, ¬ ownS C col i b → (if ownS C col i b then 1 else col b) = col b := fun b h => if_neg h
  have ns : ∀ b, col b ≠ 2 * i + 3 → ¬ ownS C col i b := fun b h z => h z.1
  have mv0 : ∀ b o, Z col b → H b = some o → Z (fun b => if ownS C col i b then 1 else col b) b ∧ H b = some o := fun b o z e => ⟨by show (if ownS C col i b then 1 else col b) = 0; rw [cn b (ns b (by rw [show col b = 0 from z]; omega))]; exact z, e⟩
  have own : ∀ b j, j ≠ i → col b = 2 * j + 3 → C.H0 b = none → (if ownS C col i b then 1 else col b) = 2 * j + 3 ∧ (ldC C col H i).H0 b = none := fun b j hj c n => ⟨by rw [cn b (ns b (by omega))]; exact c, by rw [ld_out (r.notT tp (by omega) (by omega))]; exact n⟩
  refine ⟨fun b hb => ?_, fun b hb => ?_, fun q hq => ?_, fun j s es => ?_, fun p hp => ?_, fun b o eb nb => ?_, r.hq, fun q hq => ?_, ⟨fun b hb => ?_, fun b xs hb => ?_⟩, by rw [List.length_set]; exact r.len⟩
  · have c := r.fresh b hb
    show (if ownS C col i b then 1 else col b) = 0
    rw [cn b (ns b (by omega))]; exact c
  · have hb : (if ownS C col i b then 1 else col b) = 0 := hb
    by_cases z : ownS C col i b
    · rw [cs b z] at hb; cases hb
    · rw [cn b z] at hb; exact ⟨r.inF b hb, z⟩
  · show (if ownS C col i q.1 then 1 else col q.1) = 1
    have := r.hnd q hq
    rw [cn _ (ns _ (by omega))]; exact this
  · by_cases hj : j = i
    · subst hj
      rw [List.getElem?_set] at es
      simp only [if_true] at es
      split at es
      · cases es
        obtain ⟨v, e1, t⟩ := r.sl j _ ei
        refine ⟨v, e1, t.mv fun b o g e => ?_⟩
        have T : ownS C col j b ∨ ∃ xs, H b = some (.tup xs) := g.imp id fun g => g.2
        have nh : ∀ q, C.hand = some q → b ≠ q.1 := r.notH (by rcases g with g | g <;> (have := g.1; omega))
        exact ⟨⟨(by rw [ld_in T, e]; exact fun q => nomatch q), nh⟩, by rw [ld_in T]; exact e⟩
      · cases es
    · rw [List.getElem?_set_ne (Ne.symm hj)] at es
      have h := r.sl j s es
      cases s with
      | no => trivial
      | sh d => obtain ⟨v, g1, t⟩ := h; exact ⟨v, g1, t.mv mv0⟩
      | ow ds => obtain ⟨b, us, g1, c, n', g2, t⟩ := h; exact ⟨b, us, g1, (own b j hj c n').1, (own b j hj c n').2, g2, t.mv mv0⟩
      | bo ds => obtain ⟨b, us, g1, c, n', g2, t⟩ := h; exact ⟨b, us, g1, by show (if ownS C col i b then 1 else col b) ≤ 1; rw [cn b (ns b (by omega))]; exact c, n', g2, t.mv mv0⟩
      | hd => exact h
      | o2 dss => obtain ⟨b, us, g1, c, g2, nd, t⟩ := h; exact ⟨b, us, g1, own b j hj c.1 c.2, g2, nd, t.mv mv0 fun b' o g e => ⟨own b' j hj g.1 g.2, e⟩⟩
      | b2 dss => obtain ⟨b, us, g1, c, g2, t⟩ := h; exact ⟨b, us, g1, ⟨by show (if ownS C col i b then 1 else col b) ≤ 1; rw [cn b (ns b (by have := c.1; omega))]; exact c.1, c.2⟩, g2, t.mv mv0 fun b' o g e => ⟨⟨by show (if ownS C col i b' then 1 else col b') ≤ 1; rw [cn b' (ns b' (by have := g.1; omega))]; exact g.1, g.2⟩, e⟩⟩
      | di f ks => obtain ⟨b, g1, c, n', g2⟩ := h; exact ⟨b, g1, (own b j hj c n').1, (own b j hj c n').2, g2⟩
      | dm f ks => obtain ⟨b, g1, c, n', g2⟩ := h; exact ⟨b, g1, (own b j hj c n').1, (own b j hj c n').2, g2⟩
      | bd d => obtain ⟨v, g1, t⟩ := h; exact ⟨v, g1, r.ld_le t⟩
      | ot d => obtain ⟨v, g1, t⟩ := h; exact ⟨v, g1, t.mv fun b o g e => ⟨g.imp (fun g => own b j hj g.1 g.2) fun g => ⟨(mv0 b o g.1 e).1, g.2⟩, e⟩⟩
  · have h := r.pd p hp
    cases p with
    | v v d => exact ThV.mv mv0 h
    | n b o => exact ⟨by show (if ownS C col i b then 1 else col b) ≤ 1; rw [cn b (ns b (by have := h.1; omega))]; exact h.1, h.2⟩
    | s vs ds => exact ThVs.mv mv0 h
    | o c as dss => exact ⟨h.1, h.2.mv mv0 fun b' o g e => ⟨⟨by show (if ownS C col i b' then 1 else col b') = _; rw [cn b' (ns b' (by have := g.1; omega))]; exact g.1, by rw [ld_out (r.notT tp (by have := g.1; omega) (by have := g.1; omega))]; exact g.2⟩, e⟩⟩
    | w v d => exact r.ld_le h
  · by_cases z : ownS C col i b ∨ ∃ xs, H b = some (.tup xs)
    · rw [ld_in z] at eb; exact eb
    · rw [ld_out z] at eb; exact r.kq b o eb nb
  · obtain ⟨ns', p, b, c, u, v, hl, hp, ha⟩ := r.hq0 q hq
    obtain ⟨_, _, _, _, _, _, hl2, _, ha2⟩ := r.hq q hq
    have n1 : ¬ (ownS C col i q.1 ∨ ∃ xs, H q.1 = some (.tup xs)) := fun z => by
      rcases z with z | ⟨xs, z⟩
      · have := r.hnd q hq; have := z.1; omega
      · rw [ha2] at z; cases z
    have n2 : ¬ (ownS C col i q.2 ∨ ∃ xs, H q.2 = some (.tup xs)) := fun z => by
      rcases z with z | ⟨xs, z⟩
      · rw [z.2] at hl; cases hl
      · rw [hl2] at z; cases z
    exact ⟨ns', p, b, c, u, v, by rw [ld_out n2]; exact hl, hp, by rw [ld_out n1]; exact ha⟩
  · by_cases z : ownS C col i b ∨ ∃ xs, H b = some (.tup xs)
    · rw [ld_in z] at hb
      rcases z with z | ⟨xs, z⟩
      · have := r.fresh b hb; have := z.1; omega
      · rw [hb] at z; cases z
    · rw [ld_out z] at hb
      exact ⟨r.nf.1 b hb, fun q => z (.inl q)⟩
  · by_cases z : ownS C col i b ∨ ∃ xs, H b = some (.tup xs)
    · rw [ld_in z] at hb
      have c := tp b xs hb
      exact ⟨r.inF b c, ns b (by omega)⟩
    · rw [ld_out z] at hb
      exact ⟨r.nf.2 b xs hb, fun q => by rw [q.2] at hb; cases hb⟩
open Classical in
theorem RelC.backT (r : RelC C col ρ σ P H) (tp : ∀ b xs, H b = some (.tup xs) → col b = 0) (hn : noBB ρ = true) (ei : ρ[i]? = some (.ot d)) (r2 : RelC (ldC C col H i) col2 (ρ.set i (.bd d)) σ P H2) (tp2 : ∀ b xs, H2 b = some (.tup xs) → col2 b = 0) :
    RelC C (fun b => if ownS C col i b then 2 * i + 3 else col2 b) ρ σ P H2 ∧ ∀ b, col2 b = 0 → (if ownS C col i b then 2 * i + 3 else col2 b) = 0 := by
  have hi : i < ρ.length := by
    rcases Nat.lt_or_ge i ρ.length with z | z
    · exact z
    · rw [List.getElem?_eq_none z] at ei; cases ei
  have cs : ∀ b, ownS C col i b → (if ownS C col i b then 2 * i + 3 else col2 b) = 2 * i + 3 := fun b h => if_pos h
  have cn : ∀ b, ¬ ownS C col i b → (if ownS C col i b then 2 * i + 3 else col2 b) = col2 b := fun b h => if_neg h
  have sh : ∀ b, ownS C col i b → H b ≠ none := fun b h q => by have := r.fresh b q; have := h.1; omega
  have nhS : ∀ b, ownS C col i b → ∀ q, C.hand = some q → b ≠ q.1 := fun b h => r.notH (by have := h.1; omega)
  have keep : ∀ b o, (ownS C col i b ∨ ∃ xs, H b = some (.tup xs)) → (∀ q, C.hand = some q → b ≠ q.1) → H b = some o → H2 b = some o := fun b o z nh e => r2.kq b o (by rw [ld_in z]; exact e) nh
  have z0 : ∀ b, col2 b = 0 → (if ownS C col i b then 2 * i + 3 else col2 b) = 0 := fun b hb => by
    rw [cn b (r2.inF b hb).2]; exact hb
  have mv0 : ∀ b o, Z col2 b → H2 b = some o → Z (fun b => if ownS C col i b then 2 * i + 3 else col2 b) b ∧ H2 b = some o := fun b o z e => ⟨z0 b z, e⟩
  have new : ∀ b, (ldC C col H i).H0 b = none → ¬ ownS C col i b ∧ C.H0 b = none := fun b hb => by
    by_cases z : ownS C col i b ∨ ∃ xs, H b = some (.tup xs)
    · rw [ld_in z] at hb
      rcases z with z | ⟨xs, z⟩
      · exact absurd hb (sh b z)
      · rw [hb] at z; cases z
    · rw [ld_out z] at hb
      exact ⟨fun q => z (.inl q), hb⟩
  refine ⟨⟨fun b hb => z0 b (r2.fresh b hb), fun b hb => ?_, fun q hq => ?_, fun j s es => ?_, fun p hp => ?_, fun b o eb nb => r2.kq b o (r.ld_at eb nb) nb, r2.hq, r.hq0, r.nf, r.len⟩, z0⟩
  · have hb : (if ownS C col i b then 2 * i + 3 else col2 b) = 0 := hb
    by_cases z : ownS C col i b
    · rw [cs b z] at hb; omega
    · rw [cn b z] at hb; exact (r2.inF b hb).1
  · show (if ownS C col i q.1 then 2 * i + 3 else col2 q.1) = 1
    rw [cn _ (fun z => nhS _ z q hq rfl)]; exact r2.hnd q hq
  · by_cases hj : j = i
    · subst hj
      rw [ei] at es
      cases es
      obtain ⟨v, e1, t⟩ := r.sl j _ ei
      refine ⟨v, e1, t.mv fun b o g e => ?_⟩
      have T : ownS C col j b ∨ ∃ xs, H b = some (.tup xs) := g.imp id fun g => g.2
      have nh : ∀ q, C.hand = some q → b ≠ q.1 := r.notH (by rcases g with g | g <;> (have := g.1; omega))
      have e2 := keep b o T nh e
      refine ⟨g.imp (fun g => ⟨cs b g, g.2⟩) fun ⟨c, xs, z⟩ => ?_, e2⟩
      have e3 : H2 b = some (.tup xs) := by rw [e] at z; rw [e2]; exact z
      exact ⟨z0 b (tp2 b xs e3), xs, e3⟩
    · have es2 : (ρ.set i (.bd d))[j]? = some s := by rw [List.getElem?_set_ne (Ne.symm hj)]; exact es
      have h := r2.sl j s es2
      have hr := r.sl j s es
      cases s with
      | no => trivial
      | sh d => obtain ⟨v, k1, t⟩ := h; exact ⟨v, k1, t.mv mv0⟩
      | ow ds' => obtain ⟨b, us', k1, c, n', k2, t⟩ := h; exact ⟨b, us', k1, by show (if ownS C col i b then 2 * i + 3 else col2 b) = _; rw [cn b (new b n').1]; exact c, (new b n').2, k2, t.mv mv0⟩
      | bo ds' =>
        obtain ⟨b, us', k1, c, n', k2, t⟩ := h
        obtain ⟨b', _, k1', c', _⟩ := hr
        rw [k1] at k1'
        cases k1'
        exact ⟨b, us', k1, by show (if ownS C col i b then 2 * i + 3 else col2 b) ≤ 1; rw [cn b (fun q => by have := q.1; omega)]; exact c, n', k2, t.mv mv0⟩
      | hd => exact h
      | o2 dss => obtain ⟨b, us', k1, c, k2, nd, t⟩ := h; exact ⟨b, us', k1, ⟨by show (if ownS C col i b then 2 * i + 3 else col2 b) = _; rw [cn b (new b c.2).1]; exact c.1, (new b c.2).2⟩, k2, nd, t.mv mv0 fun b' o g e => ⟨⟨by show (if ownS C col i b' then 2 * i + 3 else col2 b') = _; rw [cn b' (new b' g.2).1]; exact g.1, (new b' g.2).2⟩, e⟩⟩
      | b2 dss => exact (noBB_get hn es).elim
      | di f ks => obtain ⟨b, k1, c, n', k2⟩ := h; exact ⟨b, k1, by show (if ownS C col i b then 2 * i + 3 else col2 b) = _; rw [cn b (new b n').1]; exact c, (new b n').2, k2⟩
      | dm f ks => obtain ⟨b, k1, c, n', k2⟩ := h; exact ⟨b, k1, by show (if ownS C col i b then 2 * i + 3 else col2 b) = _; rw [cn b (new b n').1]; exact c, (new b n').2, k2⟩
      | bd d => exact hr
      | ot d => obtain ⟨v, k1, t⟩ := h; exact ⟨v, k1, t.mv fun b o g e => ⟨g.imp (fun g => ⟨by show (if ownS C col i b then 2 * i + 3 else col2 b) = _; rw [cn b (new b g.2).1]; exact g.1, (new b g.2).2⟩) fun g => ⟨z0 b g.1, g.2⟩, e⟩⟩
  · have h := r2.pd p hp
    have hr := r.pd p hp
    cases p with
    | v v d => exact ThV.mv mv0 h
    | n b o => exact ⟨by show (if ownS C col i b then 2 * i + 3 else col2 b) ≤ 1; rw [cn b (fun q => by have := q.1; have := hr.1; omega)]; exact h.1, h.2⟩
    | s vs ds => exact ThVs.mv mv0 h
    | o c as dss => exact ⟨h.1, h.2.mv mv0 fun b' o g e => ⟨⟨by show (if ownS C col i b' then 2 * i + 3 else col2 b') = _; rw [cn b' (new b' g.2).1]; exact g.1, (new b' g.2).2⟩, e⟩⟩
    | w v d => exact hr
end
end My
namespace My
open PySem L2
section
variable {X : Cx} {C : DC} {e : Expr} {st : Stmt} {t te : DE} {u : DA} {i : Nat}
def dLendE (i : Nat) (t : DE)  (ρ : List Sl) (Q : PyData → List Sl → Prop) : Prop := match ρ[i]? with
  | some (.ot d) => noBB ρ = true ∧ t (ρ.set i (.bd d)) fun d' ρ' => ρ' = ρ.set i (.bd d) ∧ Q d' ρ
  | _ => t ρ Q
theorem pd_lendT (h : ∀ C, PE X e (eOf C t)) : PE X e (eOf C (dLendE i t)) := fun pins s σ H Q I q => by
  obtain ⟨ρ, P, Qd, ⟨col0, r0⟩, ht, k⟩ := q
  unfold dLendE at ht
  split at ht
  · rename_i d ei
    obtain ⟨col, r, tp⟩ := r0.norm
    refine h (ldC C col H i) pins s σ H Q I ⟨ρ.set i (.bd d), P, _, ⟨_, r.lendT tp ei⟩, ht.2, fun v d' ρ' H' R' hq => ?_⟩
    obtain ⟨rfl, q⟩ := hq
    obtain ⟨colx, rx⟩ := R'
    obtain ⟨col2, r2, tp2⟩ := rx.norm
    obtain ⟨r3, z0⟩ := r.backT tp ht.1 ei (r2.sub fun _ h => List.mem_cons_of_mem _ h) tp2
    exact k v d' ρ H' ⟨_, r3.push (ThV.mv (fun b o z e => ⟨z0 b z, e⟩) (r2.pd _ List.mem_cons_self))⟩ q
  · exact h C pins s σ H Q I ⟨ρ, P, Qd, ⟨col0, r0⟩, ht, k⟩
def flatM : List Md → List PyData → Bool
  | [], [] => true
  | .sh :: ms, d :: ds => flatD d && flatM ms ds
  | .bo :: ms, .list es :: ds => flatL es && flatM ms ds
  | .bd :: ms, _ :: ds => flatM ms ds
  | .hd :: ms, _ :: ds => flatM ms ds
  | _, _ => false
def dNewT (i : Nat) (ms : List Md) (sp : DSp) (u : DA)  (D : DEnds) (ρ : List Sl) : Prop := u ρ fun as ρ' => bnd (arsD ρ' ms as) fun ds => flatM ms ds = true ∧ sp ds fun d => D.nx (ρ'.set i (.ot d))
open Classical in
theorem RelC.writeT {col : Addr → Nat} {ρ : List Sl} {σ : L2.St} {P : List Pe} {H : Hp} {l : Addr} {xs ws : List V} {s : Sl} (r : RelC C col ρ σ P H) (hl : ownS C col i l) (el : H l = some (.lst xs)) (new : i < ρ.length → SlR C col (upd H l (.lst ws)) i (σ[i]?).join s) : RelC C col (ρ.set i s) σ P (upd H l (.lst ws)) := by
  have ne : ∀ x, col x ≠ 2 * i + 3 → x ≠ l := fun x hx q => hx (q ▸ hl.1)
  have up : ∀ x o, col x ≠ 2 * i + 3 → H x = some o → upd H l (.lst ws) x = some o := fun x o h e => by rw [upd_ne (ne x h)]; exact e
  refine RelC.chg r i _ r.len (fun x hx => ?_) r.inF r.hnd (fun x o c e => ⟨c, up x o (by omega) e⟩) (fun x o c _ e => ⟨c, up x o (by omega) e⟩) (fun _ _ _ _ x o c e => ⟨c, up x o (by omega) e⟩) (fun x o j hj c e => ⟨c, up x o (by omega) e⟩) (fun x o e q => ?_) (fun q hq => ?_) (fun _ _ => rfl) new
  · by_cases q : x = l
    · rw [q, upd_same] at hx; cases hx
    · rw [upd_ne q] at hx; exact r.fresh x hx
  · have z := r.kq x o e q
    have q' : x ≠ l := fun q' => by rw [q', hl.2] at e; cases e
    rw [upd_ne q']; exact z
  · obtain ⟨o1, h1⟩ := (r.hq0 q hq).at1
    obtain ⟨o2, h2⟩ := (r.hq0 q hq).at2
    exact (r.hq q hq).wr (fun z => by rw [← z, hl.2] at h1; cases h1) (fun z => by rw [← z, hl.2] at h2; cases h2)
mutual
def skelD : PyData → PyData
  | .tuple xs => .tuple (skelL xs)
  | .list _ => .list []
  | .none => .none
  | .bool b => .bool b
  | .int i => .int i
  | .str s => .str s
  | .dict d => .dict d
def skelL : List PyData → List PyData
  | [] => []
  | d :: ds => skelD d :: skelL ds
end
mutual
theorem ThV.mut {G : Addr → Prop} {H : Hp} {l : Addr} {ws : List V} {es : List PyData} {xs : List V} (el : H l = some (.lst xs)) (hw : ∀ b o, G b → H b = some o → b ≠ l → upd H l (.lst ws) b = some o) (T : ThVs G (upd H l (.lst ws)) ws es) : ∀ {v : V} {d : PyData}, ThV G H v d → ∃ d', ThV G (upd H l (.lst ws)) v d' ∧ skelD d' = skelD d
  | _, _, .non => ⟨_, .non, rfl⟩
  | _, _, .bl b => ⟨_, .bl b, rfl⟩
  | _, _, .int i => ⟨_, .int i, rfl⟩
  | _, _, .str x => ⟨_, .str x, rfl⟩
  | _, _, .lst (a := a) n e t => by
    by_cases q : a = l
    · subst q
      exact ⟨.list es, .lst n upd_same T, by rw [skelD, skelD]⟩
    · obtain ⟨ds', t', _⟩ := ThVs.mut el hw T t
      exact ⟨.list ds', .lst n (by rw [upd_ne q]; exact e) t', by rw [skelD, skelD]⟩
  | _, _, .tup (a := a) n e t => by
    have q : a ≠ l := fun q => by rw [q, el] at e; cases e
    obtain ⟨ds', t', h⟩ := ThVs.mut el hw T t
    exact ⟨.tuple ds', .tup n (by rw [upd_ne q]; exact e) t', by rw [skelD, skelD, h]⟩
  | _, _, .dic (a := a) n e t => by
    have q : a ≠ l := fun q => by rw [q, el] at e; cases e; cases t
    exact ⟨_, .dic n (by rw [upd_ne q]; exact e) t, rfl⟩
theorem ThVs.mut {G : Addr → Prop} {H : Hp} {l : Addr} {ws : List V} {es : List PyData} {xs : List V} (el : H l = some (.lst xs)) (hw : ∀ b o, G b → H b = some o → b ≠ l → upd H l (.lst ws) b = some o) (T : ThVs G (upd H l (.lst ws)) ws es) : ∀ {vs : List V} {ds : List PyData}, ThVs G H vs ds → ∃ ds', ThVs G (upd H l (.lst ws)) vs ds' ∧ skelL ds' = skelL ds
  | _, _, .nil => ⟨_, .nil, rfl⟩
  | _, _, .cons x t => by
    obtain ⟨d', x', h1⟩ := ThV.mut el hw T x
    obtain ⟨ds', t', h2⟩ := ThVs.mut el hw T t
    exact ⟨_, .cons x' t', by rw [skelL, skelL, h1, h2]⟩
end
end
end My
namespace My
open PySem L2
section
variable {X : Cx} {C : DC} {e : Expr} {st : Stmt} {t te : DE} {u : DA} {i : Nat}
theorem skel_tup {d : PyData} {xs : List PyData} (h : skelD d = skelD (.tuple xs)) : ∃ ys, d = .tuple ys ∧ skelL ys = skelL xs := by
  cases d with
  | tuple ys =>
    rw [skelD, skelD] at h
    exact ⟨ys, rfl, PyData.tuple.inj h⟩
  | _ => rw [skelD, skelD] at h; cases h
theorem RelC.partT {K : PySem.W.Frag} {col : Addr → Nat} {ρ : List Sl} {σ : L2.St} {P : List Pe} {H : Hp} {xs ds : List PyData} {c : Int} (r : RelC C col ρ σ P H) (ei : ρ[i]? = some (.ot (.tuple xs))) (ha : atI xs c = some (.list ds)) : ∃ v l us, σ[i]? = some (some v) ∧ ownS C col i l ∧ H l = some (.lst us) ∧ ThVs (Ow C col H i) H us ds ∧ ∀ Q : VK, Q (.ref l) H → rIx K v (.int c) H Q := by
  obtain ⟨v, e1, t⟩ := r.sl i _ ei
  obtain ⟨a, vs, rfl, _, e2, t2⟩ := th_tup t
  obtain ⟨x, hu, tu⟩ := atI_th t2 ha
  obtain ⟨l, us, rfl, g, e3, t3⟩ := th_lst tu
  refine ⟨_, l, us, join_some e1, ?_, e3, t3, fun Q q => .inr (.inl ⟨a, vs, c, _, rfl, rfl, SqT.of e2, hu, q⟩)⟩
  rcases g with g | ⟨_, ys, g⟩
  · exact g
  · rw [e3] at g; cases g
theorem RelC.mutT {col : Addr → Nat} {ρ : List Sl} {σ : L2.St} {P : List Pe} {H : Hp} {xs es : List PyData} {l : Addr} {us ws : List V} {Q : List Sl → Prop} (r : RelC C col ρ σ P H) (tp : ∀ b xs, H b = some (.tup xs) → col b = 0) (ei : ρ[i]? = some (.ot (.tuple xs))) (hl : ownS C col i l) (el : H l = some (.lst us)) (tw : ThVs (Z col) H ws es) (hf : flatL es = true) (q : ∀ xs', skelL xs' = skelL xs → Q (ρ.set i (.ot (.tuple xs')))) : ∃ ρ', Q ρ' ∧ RelC C col ρ' σ P (upd H l (.lst ws)) := by
  obtain ⟨v, e1, t⟩ := r.sl i _ ei
  have up : ∀ b o, H b = some o → b ≠ l → upd H l (.lst ws) b = some o := fun b o e n => by rw [upd_ne n]; exact e
  have tu : ∀ b ys, upd H l (.lst ws) b = some (.tup ys) → H b = some (.tup ys) := fun b ys e => by
    by_cases z : b = l
    · rw [z, upd_same] at e; cases e
    · rw [upd_ne z] at e; exact e
  have ts : ∀ b ys, H b = some (.tup ys) → upd H l (.lst ws) b = some (.tup ys) := fun b ys e => up b _ e fun z => by rw [z, el] at e; cases e
  have T : ThVs (Ow C col (upd H l (.lst ws)) i) (upd H l (.lst ws)) ws es := by
    refine ThVs.flat (G := Z col) (fun b ys e => .inr ⟨tp b ys (tu b ys e), ys, e⟩) ?_ hf
    exact tw.mv fun b o z e => ⟨z, up b o e fun q => by rw [q] at z; have : col l = 0 := z; have := hl.1; omega⟩
  have t' : ThV (Ow C col (upd H l (.lst ws)) i) H v (.tuple xs) := t.mv fun b o g e => ⟨g.imp id fun ⟨c, ys, z⟩ => ⟨c, ys, ts b ys z⟩, e⟩
  obtain ⟨d', t2, hs⟩ := ThV.mut el (fun b o _ e n => up b o e n) T t'
  obtain ⟨ys, rfl, hs2⟩ := skel_tup hs
  exact ⟨_, q ys hs2, r.writeT hl el fun _ => ⟨v, e1, t2⟩⟩
def dMutA (i : Nat) (c : Int) (te : DE) (D : DEnds) (ρ : List Sl) : Prop := match ρ[i]? with
  | some (.ot (.tuple xs)) => noBB ρ = true ∧ match atI xs c with
    | some (.list ds) => (flatL ds = true ∧ ds.length ≤ 100000) ∧ te (ρ.set i (.bd (.tuple xs))) fun d' ρ' => ρ' = ρ.set i (.bd (.tuple xs)) ∧ flatD d' = true ∧ ∀ xs', skelL xs' = skelL xs → D.nx (ρ.set i (.ot (.tuple xs')))
    | _ => False
  | _ => False
theorem flatL_app {xs ys : List PyData} (h1 : flatL xs = true) (h2 : flatL ys = true) : flatL (xs ++ ys) = true := by
  induction xs with
  | nil => exact h2
  | cons x xs ih =>
    rw [flatL, Bool.and_eq_true] at h1
    rw [List.cons_append, flatL, h1.1, ih h1.2]; rfl
open Classical in
theorem ds_mutA {c : Int} {K : PySem.W.Frag} (hp : ∀ C, PS X st (tDrop (tBM K "list" rAppend (tOp (rIx K) (tVar i) (tC (.int c))) (tCons (eOf C te) tNil)))) : PS X st (sOf C (dMutA i c te)) := fun pins s σ H D I q => by
  obtain ⟨ρ, P, Dd, ⟨col0, r0⟩, ht, E⟩ := q
  unfold dMutA at ht
  split at ht
  · rename_i xs ei
    obtain ⟨hn, ht⟩ := ht
    split at ht
    · rename_i ds ha
      obtain ⟨⟨hf, hlen⟩, ht⟩ := ht
      obtain ⟨col, r, tp⟩ := r0.norm
      obtain ⟨v, l, us, ev, hl, el, tl, ix⟩ := r.partT (K := K) ei ha
      refine hp (ldC C col H i) pins s σ H D I ⟨v, ev, ix _ ⟨.inl ⟨rfl, us, SqL.of el⟩, ρ.set i (.bd (.tuple xs)), P, _, ⟨_, r.lendT tp ei⟩, ht, fun v' d' ρ' H' R' hq => ?_⟩⟩
      obtain ⟨rfl, hf', q⟩ := hq
      obtain ⟨colx, rx⟩ := R'
      obtain ⟨col2, r2, tp2⟩ := rx.norm
      obtain ⟨r3, z0⟩ := r.backT tp hn ei (r2.sub fun _ h => List.mem_cons_of_mem _ h) tp2
      have keep : ∀ b o, (ownS C col i b ∨ ∃ xs, H b = some (.tup xs)) → (∀ q, C.hand = some q → b ≠ q.1) → H b = some o → H' b = some o := fun b o z nh e => r2.kq b o (by rw [ld_in z]; exact e) nh
      have el' : H' l = some (.lst us) := keep l _ (.inl hl) (r.notH (by have := hl.1; omega)) el
      have tv : ThVs _ H' (us ++ [v']) (ds ++ [d']) := ThVs.append ((ThVs.flat (F := Z col2) tp2 (ThVs.mv (G := fun _ => True) (fun b o g e => ⟨trivial, keep b o (g.imp id fun g => g.2) (r.notH (by rcases g with g | g <;> (have := g.1; omega))) e⟩) tl) hf).mv fun b o z e => ⟨z0 b z, e⟩) (.cons (ThV.mv (fun b o z e => ⟨z0 b z, e⟩) (r2.pd _ List.mem_cons_self)) .nil)
      refine ⟨l, us, v', rfl, rfl, el', by rw [tl.len, sizeLine_eq]; omega, ?_⟩
      have tp3 : ∀ b ys, H' b = some (.tup ys) → (fun b => if ownS C col i b then 2 * i + 3 else col2 b) b = 0 := fun b ys e => z0 b (tp2 b ys e)
      obtain ⟨ρ', hq, r4⟩ := r3.mutT tp3 ei ⟨if_pos hl, hl.2⟩ el' tv (flatL_app hf (by rw [flatL, hf']; rfl)) q
      exact E.nx _ _ _ ⟨_, r4⟩ hq
    · exact ht.elim
  · exact ht.elim
def dMutN (i : Nat) (c : Int) (te : DE) (D : DEnds) (ρ : List Sl) : Prop := match ρ[i]? with
  | some (.ot (.tuple xs)) => noBB ρ = true ∧ match atI xs c with
    | some (.list ds) => ds.length ≤ 100000 ∧ te (ρ.set i (.bd (.tuple xs))) fun d' ρ' => ρ' = ρ.set i (.bd (.tuple xs)) ∧ D.nx (ρ.set i .no)
    | _ => False
  | _ => False
open Classical in
def dMutC (i : Nat) (c : Int) (D : DEnds) (ρ : List Sl) : Prop := match ρ[i]? with
  | some (.ot (.tuple xs)) => match atI xs c with
    | some (.list _) => ∀ xs', skelL xs' = skelL xs → D.nx (ρ.set i (.ot (.tuple xs')))
    | _ => False
  | _ => False
theorem ds_mutC {c : Int} {K : PySem.W.Frag} (hp : PS X st (tDrop (tBM0 K "list" rClear (tOp (rIx K) (tVar i) (tC (.int c)))))) : PS X st (sOf C (dMutC i c)) := fun pins s σ H D I q => by
  obtain ⟨ρ, P, Dd, ⟨col0, r0⟩, ht, E⟩ := q
  unfold dMutC at ht
  split at ht
  · rename_i xs ei
    split at ht
    · rename_i ds ha
      obtain ⟨col, r, tp⟩ := r0.norm
      obtain ⟨v, l, us, ev, hl, el, tl, ix⟩ := r.partT (K := K) ei ha
      obtain ⟨ρ', hq, r4⟩ := r.mutT tp ei hl el .nil rfl ht
      exact hp pins s σ H D I ⟨v, ev, ix _ ⟨.inl ⟨rfl, us, SqL.of el⟩, l, us, rfl, rfl, el, E.nx _ _ _ ⟨_, r4⟩ hq⟩⟩
    · exact ht.elim
  · exact ht.elim
end
end My
namespace L2
open PySem PySem.Spec PyProof.Rows
section
variable {X : Cx}
end
end L2
namespace My
open PySem L2
section
variable {X : Cx} {C : DC} {a b : Expr} {te : DE} {pos : Pos} {i : Nat}
def dNinD (te : DE) (i : Nat) (ρ : List Sl) (Q : PyData → List Sl → Prop) : Prop := te ρ fun d ρ1 => bnd (slotD ρ1 i) fun a => bnd (listD a) fun xs => (PyData.canLayAll0 xs = true ∧ d.canLay0 = true ∧ d.depth ≤ 60) ∧ Q (.bool (!(xs.any fun z => PyData.eqv z d))) ρ1
end
end My
namespace My
open PySem L2
section
variable {X : Cx} {C : DC} {e a b : Expr} {t : DE} {tt : DT} {i : Nat} {pos : Pos}
def dLendB (i : Nat) (tt : DT)  (ρ : List Sl) (Q : Bool → List Sl → Prop) : Prop := match ρ[i]? with
  | some (.ot d) => noBB ρ = true ∧ tt (ρ.set i (.bd d)) fun b ρ' => ρ' = ρ.set i (.bd d) ∧ Q b ρ
  | _ => tt ρ Q
theorem pdt_lendT (h : ∀ C, PT X e (cOf C tt)) : PT X e (cOf C (dLendB i tt)) := fun pins s σ H Q I q => by
  obtain ⟨ρ, P, Qd, ⟨col0, r0⟩, ht, k⟩ := q
  unfold dLendB at ht
  split at ht
  · rename_i d ei
    obtain ⟨col, r, tp⟩ := r0.norm
    refine h (ldC C col H i) pins s σ H Q I ⟨ρ.set i (.bd d), P, _, ⟨_, r.lendT tp ei⟩, ht.2, fun b ρ' H' R' hq => ?_⟩
    obtain ⟨rfl, q⟩ := hq
    obtain ⟨colx, rx⟩ := R'
    obtain ⟨col2, r2, tp2⟩ := rx.norm
    exact k b ρ H' ⟨_, (r.backT tp ht.1 ei r2 tp2).1⟩ q
  · exact h C pins s σ H Q I ⟨ρ, P, Qd, ⟨col0, r0⟩, ht, k⟩
end
end My
namespace My
open PySem L2
section
variable {X : Cx} {C : DC} {e : Expr} {u : DA} {i : Nat}
def arS (ρ : List Sl) (i : Nat) (m : Md) (a : Ar) : Option PyData := match m, a with
  | .sh, .s j => if j = i then (match ρ[i]? with
    | some (.ot d) => some d
    | _ => none) else none
  | m, a => arD ρ m a
def arsS (ρ : List Sl) (i : Nat) : List Md → List Ar → Option (List PyData)
  | [], [] => some []
  | m :: ms, a :: as => (arS ρ i m a).bind fun d => (arsS ρ i ms as).map (d :: ·)
  | _, _ => none
def dCallS (i : Nat) (ms : List Md) (sp : DSp) (u : DA)  (ρ : List Sl) (Q : PyData → List Sl → Prop) : Prop := u ρ fun as ρ' => bnd (arsS ρ' i ms as) fun ds => sp ds fun d => flatD d = true ∧ Q d ρ'
end
end My
namespace My
open PySem L2
section
variable {C : DC} {col : Addr → Nat} {ρ : List Sl} {σ : St} {P : List Pe} {H H' : Hp} {p : Addr}
end
section
variable {X : Cx} {C : DC} {st : Stmt} {e a b : Expr} {te tk : DE} {pos : Pos}
theorem ThVs.lenD {F : Addr → Prop} {H : Hp} : ∀ {vs : List V} {ds : List PyData}, ThVs F H vs ds → vs.length = ds.length
  | _, _, .nil => rfl
  | _, _, .cons _ t => by rw [List.length_cons, List.length_cons, ThVs.lenD t]
end
section
variable {X : Cx} {C : DC} {st : Stmt}
end
end My
namespace My
open PySem L2
section
variable {X : Cx} {C : DC} {st : Stmt} {i j : Nat}
end
end My
namespace My
open PySem L2
section
variable {X : Cx} {C : DC} {e : Expr} {te tp tl : DE} {i : Nat}
open Classical in
end
end My
namespace My
open PySem L2
open PySem.Spec
section
variable {X : Cx} {C : DC} {a st : Expr} {pos : Pos}
def gSum (ds : List PyData) (Q : PyData → Prop) : Prop := match ds with
  | [.list xs] => bnd (intsD xs) fun ns => Q (.int ns.sum)
  | _ => False
def dRevV (i : Nat) (ρ : List Sl) (Q : List PyData → List Sl → Prop) : Prop := bnd (slotD ρ i) fun a => bnd (listD a) fun xs => Q xs.reverse ρ
end
end My
namespace My
open PySem L2
open PySem.Spec
def set2 (j1 j2 : Nat) (ρ : List Sl) (x y : PyData) : List Sl := (ρ.set j1 (.sh x)).set j2 (.sh y)
def dCompL2S (j1 j2 : Nat) (tt : DT) (te : DE) (ρ : List Sl) (Q : List PyData → Prop) : List PyData → List PyData → Prop
  | [], acc => Q acc
  | .tuple [x, y] :: r, acc => tt (set2 j1 j2 ρ x y) fun b ρ' => ρ' = set2 j1 j2 ρ x y ∧ if b = true then te (set2 j1 j2 ρ x y) fun d ρ'' => ρ'' = set2 j1 j2 ρ x y ∧ dCompL2S j1 j2 tt te ρ Q r (acc ++ [d]) else dCompL2S j1 j2 tt te ρ Q r acc
  | _ :: _, _ => False
def dCompS2 (j1 j2 : Nat) (it : DF) (tt : DT) (te : DE) (ρ : List Sl) (Q : List PyData → List Sl → Prop) : Prop := it ρ fun xs ρ1 => (j1 ≠ j2 ∧ ρ1[j1]? = some .no ∧ ρ1[j2]? = some .no ∧ xs.length ≤ 1000) ∧ dCompL2S j1 j2 tt te ρ1 (fun ds => Q ds ρ1) xs []
def dCompU (j1 j2 : Nat) (it : DF) (tt : DT) (te : DE) (ρ : List Sl) (Q : List PyData → List Sl → Prop) : Prop := dCompS2 j1 j2 it tt te ((ρ.set j1 .no).set j2 .no) Q
section
variable {X : Cx} {C : DC}
end
end My
namespace My
open PySem L2
open PySem.Spec
mutual
def okS : PyData → Bool
  | .none => true
  | .bool _ => true
  | .int _ => true
  | .str _ => true
  | .tuple xs => okSs xs
  | .list xs => okSs xs
  | .dict ks => ks.isEmpty
def okSs : List PyData → Bool
  | [] => true
  | d :: ds => okS d && okSs ds
end
section
variable {X : Cx} {pins : List (Addr × Obj)} {σ : St} {H : Hp} {s : Shared} {F : Addr → Prop}
theorem dict_any {prog : Program} {w : World} {a : Addr} (I : Inv X pins σ H s) (e : H a = some (.dT [])) : (a == sysModules) = false ∧ s.heap.DictOf (mixKind prog w) a [] := by
  obtain ⟨_, hd, xs, rel, o, es, ep, ho, hx, hda, hes, _⟩ := (show ObjOk X.prog X.w H s.heap a (.dT []) from I.hok a _ e)
  cases rel
  have : es = #[] := by
    apply Array.toList_inj.mp
    rw [hes]; rfl
  subst this
  exact ⟨hd, o, #[], ep, ho, hx, hda, fun e h => by simp at h, .nil, List.nodup_nil⟩
theorem RcAt.eqAt {A : Around} {l b : Addr} (h : SeqAt.RcAt A s (.ref l) (.ref b) true) : SeqAt.EqAt A s (.ref l) (.ref b) true := by
  by_cases e : l = b
  · subst e; exact SeqAt.EqAt.same _
  · exact SeqAt.EqAt.of_refs e h
theorem all_true (n : Nat) : (List.range n).all (fun _ => true) = true := by
  rw [List.all_eq_true]; exact fun _ _ => rfl
mutual
theorem eqS (I : Inv X pins σ H s) : ∀ {d : PyData} {v1 v2 : V} {u1 u2 : Value} (A : Around), ThV F H v1 d → ThV F H v2 d → RelV v1 u1 → RelV v2 u2 → okS d = true → A.units + d.depth + 2 < cLine → SeqAt.EqAt A s u1 u2 true
  | _, _, _, _, _, A, .non, .non, r1, r2, _, _ => by
    obtain rfl := (show _ = Value.none from r1)
    obtain rfl := (show _ = Value.none from r2)
    exact SeqAt.EqAt.same _
  | _, _, _, _, _, A, .bl b, .bl _, r1, r2, _, _ => by
    obtain rfl := (show _ = Value.bool b from r1)
    obtain rfl := (show _ = Value.bool b from r2)
    exact SeqAt.EqAt.same _
  | _, _, _, _, _, A, .int i, .int _, ⟨t1, r1⟩, ⟨t2, r2⟩, _, _ => by
    subst r1 r2
    have := SeqAt.EqAt.int_int (A := A) (s := s) i t1 i t2
    rwa [beq_self_eq_true] at this
  | _, _, _, _, _, A, .str x, .str _, ⟨t1, r1⟩, ⟨t2, r2⟩, _, _ => by
    subst r1 r2
    have := SeqAt.EqAt.str_str (A := A) (s := s) x t1 x t2
    rwa [beq_self_eq_true] at this
  | _, _, _, _, _, A, .lst z1 e1 t1, .lst z2 e2 t2, r1, r2, h, hu => by
    cases r1
    cases r2
    rw [okS] at h
    obtain ⟨its1, q1, p1, _⟩ := I.list (SqL.of e1)
    obtain ⟨its2, q2, p2, _⟩ := I.list (SqL.of e2)
    have hl : its1.length = its2.length := by rw [← q1.length, ← q2.length, t1.len, t2.len]
    have := SeqAt.RcAt.lists (A := A) (s := s) (e := fun _ => true) p1.isList p2.isList (by simpa using hl) (by omega) (eqSs I (A.in1) t1 t2 q1 q2 h (by simp only [PyData.depth] at hu; show A.units + 1 + _ + 2 < cLine; omega))
    rw [all_true] at this
    exact RcAt.eqAt this
  | _, _, _, _, _, A, .tup z1 e1 t1, .tup z2 e2 t2, r1, r2, h, hu => by
    cases r1
    cases r2
    rw [okS] at h
    obtain ⟨its1, q1, p1, _⟩ := I.tuple (SqT.of e1)
    obtain ⟨its2, q2, p2, _⟩ := I.tuple (SqT.of e2)
    have hl : its1.length = its2.length := by rw [← q1.length, ← q2.length, t1.len, t2.len]
    have := SeqAt.RcAt.tuples (A := A) (s := s) (e := fun _ => true) p1 p2 (by omega) (eqSs I (A.in1) t1 t2 q1 q2 h (by simp only [PyData.depth] at hu; show A.units + 1 + _ + 2 < cLine; omega))
    rw [all_true, show ((its1.toArray.size == its2.toArray.size) = true) from by simpa using hl] at this
    exact RcAt.eqAt this
  | _, _, _, _, _, A, .dic z1 e1 t1, .dic z2 e2 t2, r1, r2, h, hu => by
    cases r1
    cases r2
    rw [okS, List.isEmpty_iff] at h
    subst h
    generalize hk : ([] : List (PyData × PyData)) = ks at t1 t2
    cases t1 with
    | t =>
      cases t2 with
      | t =>
        exact RcAt.eqAt fun prog w E Q q => by
          obtain ⟨a1, da⟩ := dict_any (prog := prog) (w := w) I e1
          obtain ⟨b1, db⟩ := dict_any (prog := prog) (w := w) I e2
          exact PySem.W.keq_eq (r := true) a1 b1 da db (by omega) (fun _ => .nil) q
    | k i j => cases hk
    | f o ks => cases hk
theorem eqSs (I : Inv X pins σ H s) : ∀ {ds : List PyData} {vs1 vs2 : List V} {us1 us2 : List Value} (A : Around), ThVs F H vs1 ds → ThVs F H vs2 ds → Vals vs1 us1 → Vals vs2 us2 → okSs ds = true → A.units + PyData.depthAll ds + 2 < cLine →
    ∀ (j : Nat) (h1 : j < us1.toArray.size) (h2 : j < us2.toArray.size), SeqAt.EqAt A s us1.toArray[j] us2.toArray[j] true
  | _, _, _, _, _, A, .nil, .nil, .nil, .nil, _, _, j, h1, h2 => by simp at h1
  | _, _, _, _, _, A, .cons x1 t1, .cons x2 t2, .cons r1 q1, .cons r2 q2, h, hu, 0, h1, h2 => by
    rw [okSs, Bool.and_eq_true] at h
    exact eqS I A x1 x2 r1 r2 h.1 (by simp only [PyData.depthAll] at hu; omega)
  | _, _, _, _, _, A, .cons x1 t1, .cons x2 t2, .cons r1 q1, .cons r2 q2, h, hu, j + 1, h1, h2 => by
    rw [okSs, Bool.and_eq_true] at h
    have := eqSs I A t1 t2 q1 q2 h.2 (by simp only [PyData.depthAll] at hu; omega) j (by simpa using h1) (by simpa using h2)
    simpa using this
end
def rNeS (K : PySem.W.Frag) : R2 := fun x y H Q => rEqD K true x y H Q ∨ ∃ (F : Addr → Prop) (d : PyData), ThV F H x d ∧ ThV F H y d ∧ okS d = true ∧ d.depth ≤ 50 ∧ (∃ ds, d = .list ds ∨ d = .tuple ds) ∧ Q (.bl false) H
theorem op_neS (hu : X.A.units + 64 < cLine) : OpR X (compareOp .NotEq) (rNeS X.K) := by
  intro pins s σ H x y v u Q I rx ry h
  rcases h with h | ⟨F, d, t1, t2, ok, dp, ⟨ds, hd⟩, q⟩
  · exact op_neD hu pins s σ H x y v u Q I rx ry h
  · rcases hd with rfl | rfl
    · obtain ⟨a, vs, rfl, _, e1, s1⟩ := th_lst t1
      obtain ⟨b, ws, rfl, _, e2, s2⟩ := th_lst t2
      cases rx
      cases ry
      rw [okS] at ok
      obtain ⟨its1, q1, p1, _⟩ := I.list (SqL.of e1)
      obtain ⟨its2, q2, p2, _⟩ := I.list (SqL.of e2)
      have hl : its1.length = its2.length := by rw [← q1.length, ← q2.length, s1.len, s2.len]
      have := SeqAt.RcNeAt.lists (A := X.A) (s := s) (e := fun _ => true) p1.isList p2.isList (by simpa using hl) (by omega) (eqSs I (X.A.in1) s1 s2 q1 q2 ok (by simp only [PyData.depth] at dp; show X.A.units + 1 + _ + 2 < cLine; omega))
      rw [all_true] at this
      exact this _ _ _ _ ⟨.bl false, H, I, rfl, q⟩
    · obtain ⟨a, vs, rfl, _, e1, s1⟩ := th_tup t1
      obtain ⟨b, ws, rfl, _, e2, s2⟩ := th_tup t2
      cases rx
      cases ry
      rw [okS] at ok
      obtain ⟨its1, q1, p1, _⟩ := I.tuple (SqT.of e1)
      obtain ⟨its2, q2, p2, _⟩ := I.tuple (SqT.of e2)
      have hl : its1.length = its2.length := by rw [← q1.length, ← q2.length, s1.len, s2.len]
      have := SeqAt.RcNeAt.tuples (A := X.A) (s := s) (e := fun _ => true) p1 p2 (by omega) (eqSs I (X.A.in1) s1 s2 q1 q2 ok (by simp only [PyData.depth] at dp; show X.A.units + 1 + _ + 2 < cLine; omega))
      rw [all_true, show ((its1.toArray.size == its2.toArray.size) = true) from by simpa using hl] at this
      exact this _ _ _ _ ⟨.bl false, H, I, rfl, q⟩
end
section
variable {C : DC}
def gNeS (a b : PyData) (Q : PyData → Prop) : Prop := gEq true a b Q ∨ (a = b ∧ okS a = true ∧ a.depth ≤ 50 ∧ (∃ ds, a = .list ds ∨ a = .tuple ds) ∧ Q (.bool false))
theorem ok_neS {K : PySem.W.Frag} : OpOk C (rNeS K) gNeS := by
  intro ρ σ P H v w a b Qd Q R hg k
  rcases hg with hg | ⟨rfl, h1, h2, h3, hg⟩
  · exact .inl (ok_eq R hg k)
  · obtain ⟨col, r, t1, t2⟩ := th2 R
    exact .inr ⟨_, a, t1, t2, h1, h2, h3, k _ _ _ ⟨col, r.push (.bl _)⟩ hg⟩
end
end My
namespace My
open PySem L2
open PySem.Spec PyProof.Rows
section
variable {X : Cx} {C : DC} {st : Stmt} {i : Nat}
open Classical in
theorem RelC.newT {col : Addr → Nat} {ρ : List Sl} {σ : L2.St} {P : List Pe} {H' H2 : Hp} {v : V} {d : PyData} (r : RelC C col ρ σ P H') (tp : ∀ b xs, H' b = some (.tup xs) → col b = 0) (t2 : ThV (fun b => H' b = none ∨ ∃ xs, H' b = some (.tup xs)) H2 v d) (k2 : Kq C.hand H' H2) (h2 : Hq C.hand H2) : Rel C (ρ.set i (.ot d)) (σ.set i (some v)) P H2 := by
  let N : Addr → Prop := fun b => H' b = none ∧ H2 b ≠ none ∧ ∀ xs, H2 b ≠ some (.tup xs)
  have cs : ∀ b, N b → (if N b then 2 * i + 3 else col b) = 2 * i + 3 := fun b h => if_pos h
  have cn : ∀ b, ¬ N b → (if N b then 2 * i + 3 else col b) = col b := fun b h => if_neg h
  have no : ∀ b o, H' b = some o → ¬ N b := fun b o e z => by rw [z.1] at e; cases e
  have up : ∀ b o, col b ≠ 1 → H' b = some o → H2 b = some o := fun b o h e => k2 b o e (r.notH h)
  have r1 := r.mv k2 h2
  refine ⟨fun b => if N b then 2 * i + 3 else col b, RelC.chg r i _ (by rw [List.length_set]; exact r.len) (fun b hb => ?_) (fun b hb => ?_) (fun x hx => ?_) (fun b o c e => ⟨?_, up b o (by omega) e⟩) (fun b o c n e => ⟨?_, k2 b o e n⟩) (fun _ _ _ _ b o c e => ⟨?_, up b o (by omega) e⟩) (fun b o j hj c e => ⟨?_, up b o (by omega) e⟩) (r.kq.trans k2) h2 (fun j hj => by rw [List.getElem?_set_ne (Ne.symm hj)]) fun hl => ?_⟩
  · show (if N b then 2 * i + 3 else col b) = 0
    rw [cn b fun z => z.2.1 hb]; exact r1.fresh b hb
  · have hb : (if N b then 2 * i + 3 else col b) = 0 := hb
    by_cases z : N b
    · rw [cs b z] at hb; omega
    · rw [cn b z] at hb; exact r.inF b hb
  · show (if N x.1 then 2 * i + 3 else col x.1) = 1
    obtain ⟨o', e'⟩ := (r.hq x hx).at1
    rw [cn _ (no _ _ e')]; exact r.hnd x hx
  · show (if N b then 2 * i + 3 else col b) = 0
    rw [cn b (no b o e)]; exact c
  · show (if N b then 2 * i + 3 else col b) ≤ 1
    rw [cn b (no b o e)]; exact c
  · show (if N b then 2 * i + 3 else col b) = _
    rw [cn b (no b o e)]; exact c
  · show (if N b then 2 * i + 3 else col b) = _
    rw [cn b (no b o e)]; exact c
  · have : (σ.set i (some v))[i]?.join = some v := by rw [List.getElem?_set, if_pos rfl, if_pos (by rw [← r.len]; exact hl)]; rfl
    rw [this]
    refine ⟨v, rfl, t2.mv fun b o g e => ⟨?_, e⟩⟩
    rcases g with g | ⟨xs, g⟩
    · by_cases z : ∃ xs, H2 b = some (.tup xs)
      · refine .inr ⟨?_, z⟩
        show (if N b then 2 * i + 3 else col b) = 0
        rw [cn b fun q => absurd z.choose_spec (q.2.2 _)]; exact r.fresh b g
      · exact .inl ⟨cs b ⟨g, (by rw [e]; exact fun q => nomatch q), fun xs q => z ⟨xs, q⟩⟩, r.kq.fr r.hq g⟩
    · have c := tp b xs g
      refine .inr ⟨?_, xs, up b _ (by omega) g⟩
      show (if N b then 2 * i + 3 else col b) = 0
      rw [cn b (no b _ g)]; exact c
theorem Hq.keep2 {h : Option (Addr × Addr)} {H H' : Hp} (q : Hq h H) (k : ∀ b o, H b = some o → H' b = some o) : Hq h H' := fun z hz => by
  obtain ⟨ns, p, b, c, u, v, h1, h2, h3⟩ := q z hz
  exact ⟨ns, p, b, c, u, v, k _ _ h1, h2, k _ _ h3⟩
def dNewP (i ja jb : Nat) (D : DEnds) (ρ : List Sl) : Prop := bnd (slotD ρ ja) fun a => bnd (slotD ρ jb) fun b => bnd (itemsD b) fun es => (flatD a = true ∧ flatL es = true) ∧ D.nx (ρ.set i (.ot (.tuple [a, .list es])))
theorem ds_newP {ja jb : Nat} {K : PySem.W.Frag} (h : PS X st (tAsg (tTup (tCons (tVar ja) (tCons (tCB (rListOf K) (tCons (tVar jb) tNil)) tNil))) (gName i))) : PS X st (sOf C (dNewP i ja jb)) := PS.wk h fun D σ H z => el3 z fun ρ P Dd R ht E => R.elim fun col0 r0 => by
  obtain ⟨a, ha, ht⟩ := bnd_of ht
  obtain ⟨b, hb, ht⟩ := bnd_of ht
  obtain ⟨es, he, ⟨f1, f2⟩, q⟩ := bnd_of ht
  obtain ⟨col, r, tp⟩ := r0.norm
  obtain ⟨va, ea, ta⟩ := r.slot ha
  obtain ⟨vb, eb, tb⟩ := r.slot hb
  obtain ⟨p, vs, rfl, hp, tvs⟩ := items_rd tb he
  have ta : ThV (Z col) H va a := by
    cases ta with
    | th t => exact t
    | ls e t => rw [flatD] at f1; cases f1
  let G : Addr → Prop := fun b => H b = none ∨ ∃ xs, H b = some (.tup xs)
  have ga : ThV G H va a := ThV.flat (fun b xs e => .inr ⟨xs, e⟩) ta f1
  have gs : ThVs G H vs es := ThVs.flat (fun b xs e => .inr ⟨xs, e⟩) tvs f2
  refine ⟨va, ea, _, eb, p, vs, rfl, hp.elim (fun e => .inl (SqL.of e)) (fun e => .inr (SqT.of e)), fun l hl => ⟨by show 2 ≤ sizeLine; decide, fun t ht2 => ?_⟩⟩
  have kp : ∀ b o, H b = some o → upd (upd H l (.lst vs)) t (.tup [va, .ref l]) b = some o := fun b o e => by
    have e1 : upd H l (.lst vs) b = some o := by rw [upd_ne (ne_of_none e hl)]; exact e
    rw [upd_ne (ne_of_none e1 ht2)]; exact e1
  have nt : H t = none := by
    cases z : H t with
    | none => rfl
    | some o =>
      have : upd H l (.lst vs) t = some o := by rw [upd_ne (ne_of_none z hl)]; exact z
      rw [this] at ht2; cases ht2
  have el : upd (upd H l (.lst vs)) t (.tup [va, .ref l]) l = some (.lst vs) := by rw [upd_ne (ne_of_none upd_same ht2)]; exact upd_same
  have mv : ∀ b o, G b → H b = some o → G b ∧ upd (upd H l (.lst vs)) t (.tup [va, .ref l]) b = some o := fun b o g e => ⟨g, kp b o e⟩
  refine E.nx _ _ _ (RelC.newT (i := i) r tp (.tup (.inl nt) upd_same (.cons (ga.mv mv) (.cons (.lst (.inl hl) el (gs.mv mv)) .nil))) (fun b o e _ => kp b o e) (Hq.keep2 r.hq kp)) q
def dNewL (i j : Nat) (sp : DSp) (D : DEnds) (ρ : List Sl) : Prop := match ρ[j]? with
  | some (.ot d) => sp [d] fun d' => D.nx (ρ.set i (.ot d'))
  | _ => False
theorem ds_newL {j : Nat} {sp : DSp} {E : XK} (h : PS X st (tAsg (tCall (spD [.bd] sp) [] E (tCons (tVar j) tNil)) (gName i))) : PS X st (sOf C (dNewL i j sp)) := PS.wk h fun D σ H z => el3 z fun ρ P Dd R ht E => R.elim fun col0 r0 => by
  obtain ⟨col, r, tp⟩ := r0.norm
  unfold dNewL at ht
  split at ht
  · rename_i d ej
    obtain ⟨v, ev, t⟩ := r.sl j _ ej
    refine ⟨v, join_some ev, ?_⟩
    show spD [Md.bd] sp [v] H (fun x H1 => gName i x σ H1 D.nx) E0
    refine ⟨fun b => H b = none ∨ ∃ xs, H b = some (.tup xs), C.hand, [d], _, ⟨fun b hb => .inl hb, fun b xs hb => .inr ⟨xs, hb⟩⟩, fun q hq z => ?_, r.hq, .cons (ThV.mv (fun b o g e => ⟨fun q hq z => ?_, e⟩) t) .nil, ht, fun d' v' H2 q3 t2 k2 h2 => E.nx _ _ _ (RelC.newT (i := i) r tp t2 k2 h2) q3⟩
    · obtain ⟨_, _, _, _, _, _, _, _, ha⟩ := r.hq q hq
      rcases z with z | ⟨xs, z⟩
      · rw [ha] at z; cases z
      · rw [ha] at z; cases z
    · have h1 := r.hnd q hq
      rw [← z] at h1
      rcases g with g | g
      · have := g.1
        omega
      · have : col b = 0 := g.1
        omega
  · exact ht.elim
end
end My
namespace My
open PySem L2
open PySem.Spec PyProof.Rows
section
variable {X : Cx} {C : DC} {a b : Expr} {tl tb : DE} {pos : Pos}
def dNeL (tl tb : DE) (ρ : List Sl) (Q : PyData → List Sl → Prop) : Prop := tl ρ fun a ρ1 => tb ρ1 fun b ρ2 => gEq true a b fun d => Q d ρ2
theorem neL_rd {K : PySem.W.Frag} {σ : L2.St} {H : Hp} {Q : VK} (h : eOf C (dNeL tl tb) σ H Q) : tOp (rEqD K true) (lOf C tl) (eOf C tb) σ H Q := el3 h fun ρ P Qd R ht k => ⟨ρ, P, _, R, ht, fun v a ρ1 H1 R1 h1 => ⟨ρ1, _, _, R1, h1, fun w b ρ2 H2 R2 g => R2.elim fun col r => by
  have t1 := r.le (r.pd _ (List.mem_cons_of_mem _ List.mem_cons_self))
  have t2 : ThV (Z col) H2 w b := r.pd _ List.mem_cons_self
  exact ⟨a, b, t1.dat g.1, t2.dat g.2.1, g.1, g.2.1, g.2.2.1, k _ _ _ _ ⟨col, (r.sub fun _ h => List.mem_cons_of_mem _ (List.mem_cons_of_mem _ h)).push (.bl _)⟩ g.2.2.2⟩⟩⟩
theorem pdt_neL (ho : OpR X (compareOp .NotEq) (rEqD X.K true)) (ha : PE X a (lOf C tl)) (hb : PE X b (eOf C tb)) (hm : behindInMarks .NotEq b = false) : PT X (.Compare a [.NotEq] [b] pos) (cOf C (dT (dNeL tl tb))) := PT.wk (pt_cmpR ho ha hb hm) fun _ _ _ h => neL_rd (dT_rd h)
end
end My
namespace L2
open PySem PySem.Spec PyProof.Rows
def Xo (h : Heap) (a C : Addr) (dd : Option Addr) (tb : Value) : Prop :=
  ∃ o vs, h.get? a = some o ∧ o.cls = .ref C ∧ o.dict = dd ∧ o.data = .fields vs ∧ vs[1]? = some tb
def Te (h base : Heap) (a : Addr) (tb : Value) : Prop :=
  tb = .none ∨ ∃ T o ts, tb = .ref T ∧ base.get? T = none ∧ T ≠ a ∧ h.get? T = some o ∧ o.data = .fields ts ∧ ts[3]? = some .none
structure Fly (base : Heap) (l : List Env) (a C : Addr) (dd : Option Addr) (h : Heap) : Prop where
  stay : base.StaysIn h
  new : base.get? a = none
  fr : h.FunFrames base l
  ob : ∃ tb, Xo h a C dd tb ∧ Te h base a tb
section
variable {M : Model} {A : Around} {E : Value → Shared → Prop} {s : Shared} {base : Heap} {env : Env} {outer : List Env} {L a C : Addr} {dd : Option Addr}
theorem Obj.dict_mf (o : Obj) (f : Array Value → Array Value) : (o.mapFields f).dict = o.dict := by
  obtain ⟨c, d, dt, sl⟩ := o; cases dt <;> rfl
theorem fly_entry {head : Value} {hn : Bool} {Q : Unit → Shared → Prop} (hfr : A.frames = some (env :: outer)) (hf : env.frame = some L)
    (st : base.StaysIn s.heap) (nw : base.get? a = none) (fl : s.heap.FunFrames base (env :: outer)) {o : Obj} {vs : Array Value} (he : s.heap.get? a = some o) (hc : o.cls = .ref C) (hdd : o.dict = dd) (hd : o.data = .fields vs) (sz : 1 < vs.size)
    (k : ∀ h', Fly base (env :: outer) a C dd h' → s.heap.UpToSlots h' → Q () { s with heap := h' }) :
    wpAny M A (do let f ← frameOf env; let pl ← entryPlaceOf L hn; let b ← EntryCells.newEntry head f .none (rawInt L) .none pl; setField (.ref a) 1 b) (fun _ s' => wpAny M A (setFlight (.ref a) none) Q E s') E s := by
  have na : a ∉ (env :: outer).filterMap (·.frame) := fun hm => by
    obtain ⟨_, u, hu, nf⟩ := fl.mem hm
    rw [he] at hu
    exact nf vs (Option.some.inj hu ▸ hd)
  refine wpAny_bind (wpAny_frameOf_fun hfr fl hf fun h1 so => ?_)
  refine wpAny_bind (wpAny_entryPlaceOf fun pl hpl => ?_)
  unfold EntryCells.newEntry newFields
  refine wpAny_bind (wpAny_newObj_type ?_ (hpl.sizeOk5 _ _ _ _ _))
  generalize hw : ([head, .ref L, .none, rawInt L, .none] ++ (if pl.isEmpty then List.replicate 6 Value.none else pl)).toArray = ws
  have w3 : 3 < ws.size := by rw [← hw]; simp only [List.size_toArray, List.length_append, List.length_cons, List.length_nil]; omega
  generalize hob : ({ cls := .type "traceback", dict := none, data := .fields ws } : Obj) = tbo
  have tbd : tbo.data = .fields ws := by rw [← hob]
  have tbf : tbo.isFreed = false := Obj.isFreed_of_fields tbd
  have he1 : h1.get? a = some o := (so.2.1 a na).trans he
  have st1 : base.StaysIn h1 := fun b u hb => (so.2.1 b fun hm => by rw [(fl.mem hm).1] at hb; cases hb).trans (st b u hb)
  have he2 : (h1.push tbo).get? a = some o := Heap.get?_push_of_some tbo he1
  have nT : h1.objs.size ≠ a := Nat.ne_of_gt (Heap.lt_size he1)
  refine wpAny_setField he2 hd sz ?_
  have hd3 := Obj.data_mapFields hd (·.setIfInBounds 1 (Value.ref h1.objs.size))
  have he3 := Heap.get?_update_self (Obj.mapFields (·.setIfInBounds 1 (Value.ref h1.objs.size))) he2 (Obj.isFreed_of_fields hd3)
  have hT := (Heap.get?_update_other (h1.push tbo) (Obj.mapFields (·.setIfInBounds 1 (Value.ref h1.objs.size))) (Ne.symm nT)).trans (Heap.get?_push_at rfl tbf)
  unfold setFlight
  refine wpAny_bind (wpAny_field he3 hd3 (x := .ref h1.objs.size) (by simp [sz]) ?_)
  rw [if_pos (show (Value.ref h1.objs.size != Value.none) = true from by simp)]
  have keep : ∀ b u, b ≠ a → h1.get? b = some u → (((h1.push tbo).update a (Obj.mapFields (·.setIfInBounds 1 (Value.ref h1.objs.size)))).update h1.objs.size (Obj.mapFields (·.setIfInBounds 3 ((none : Option Addr).elim Value.none fun f => rawInt f)))).get? b = some u := fun b u nb hb => by
    rw [Heap.get?_update_other _ _ (Nat.ne_of_gt (Heap.lt_size hb)), Heap.get?_update_other _ _ (Ne.symm nb)]
    exact Heap.get?_push_of_some _ hb
  have nrec : ∀ b u, s.heap.get? b = some u → (∀ vs, u.data ≠ .fields vs) → b ≠ a := fun b u hb nf z => by
    rw [z, he] at hb
    exact nf vs (Option.some.inj hb ▸ hd)
  have hT4 := Heap.get?_update_self (Obj.mapFields (·.setIfInBounds 3 ((none : Option Addr).elim Value.none fun f => rawInt f))) hT (Obj.isFreed_of_fields (Obj.data_mapFields tbd _))
  refine wpAny_setField hT tbd w3 (k _ ⟨fun b u hb => keep b u (fun z => by rw [z, nw] at hb; cases hb) (st1 b u hb), nw, fl.of_keeps fun b u hb nf => ?_, .ref h1.objs.size, ⟨_, _, (Heap.get?_update_other _ _ nT).trans he3, ?_, ?_, hd3, by simp [sz]⟩, .inr ⟨h1.objs.size, _, _, rfl, st1.fresh, nT, hT4, Obj.data_mapFields tbd _, by simp [w3]⟩⟩ fun b u hb nf => ?_)
  · obtain ⟨sl, hs⟩ := so.2.2 b u hb
    exact ⟨_, keep b _ (nrec b u hb nf) hs, rfl⟩
  · exact (Obj.cls_mapFields _ _).trans hc
  · exact (Obj.dict_mf _ _).trans hdd
  · obtain ⟨sl, hs⟩ := so.2.2 b u hb
    exact ⟨sl, keep b _ (nrec b u hb nf) hs⟩
theorem fly_note {Q : Unit → Shared → Prop} (hfr : A.frames = some (env :: outer)) (hf : env.frame = some L) (F : Fly base (env :: outer) a C dd s.heap)
    (k : ∀ h', Fly base (env :: outer) a C dd h' → s.heap.UpToSlots h' → Q () { s with heap := h' }) :
    wpAny M A (noteFrame (.ref a) env) (fun _ s' => wpAny M A (setFlight (.ref a) none) Q E s') E s := by
  obtain ⟨st, nw, fl, tb, ⟨o, vs, he, hc, hdd, hd, h1⟩, ht⟩ := F
  have sz : 1 < vs.size := (Array.getElem?_eq_some_iff.mp h1).1
  unfold noteFrame
  simp only [hf]
  refine wpAny_bind (wpAny_field he hd h1 ?_)
  rcases ht with rfl | ⟨T, oT, ts, rfl, hb, nT, hT, hdT, h3⟩
  · rw [if_neg (by decide)]
    exact fly_entry hfr hf st nw fl he hc hdd hd sz k
  · rw [if_pos (show (Value.ref T != Value.none) = true from by simp)]
    refine wpAny_bind (wpAny_field hT hdT h3 ?_)
    rw [if_neg (show ¬ ((Value.none == rawInt L) = true) from by simp [rawInt])]
    refine wpAny_bind (wpAny_setField hT hdT (Array.getElem?_eq_some_iff.mp h3).1 ?_)
    have other : ∀ b, b ≠ T → (s.heap.update T (Obj.mapFields (·.setIfInBounds 3 Value.none))).get? b = s.heap.get? b := fun b nb => Heap.get?_update_other _ _ (Ne.symm nb)
    have nrec : ∀ b u, s.heap.get? b = some u → (∀ vs, u.data ≠ .fields vs) → b ≠ T := fun b u q nf z => by
      rw [z, hT] at q
      exact nf ts (Option.some.inj q ▸ hdT)
    refine fly_entry hfr hf (fun b u q => (other b fun z => by rw [z, hb] at q; cases q).trans (st b u q)) nw (fl.of_keeps fun b u q nf => ⟨u, (other b (nrec b u q nf)).trans q, rfl⟩) ((other a (Ne.symm nT)).trans he) hc hdd hd sz fun h' F' U => ?_
    exact k h' F' fun b u q nf => U b u ((other b (nrec b u q nf)).trans q) nf
theorem fly_leave {Q : Unit → Shared → Prop} (hfr : A.frames = some (env :: outer)) (hf : env.frame = some L) (F : Fly base (env :: outer) a C dd s.heap)
    (k : ∀ h', Fly base outer a C dd h' → s.heap.UpToSlots h' → Q () { s with heap := h' }) : wpAny M A (leaving env (.ref a)) Q E s := by
  unfold leaving
  exact wpAny_bind (fly_note hfr hf F fun h' F' U => k h' ⟨F'.stay, F'.new, F'.fr.2.2, F'.ob⟩ U)
theorem fly_land {l : List Env} {Q : Unit → Shared → Prop} (F : Fly base l a C dd s.heap)
    (k : ∀ h', Fly base l a C dd h' → s.heap.UpToSlots h' → Q () { s with heap := h' }) : wpAny M A (setFlight (.ref a) none) Q E s := by
  obtain ⟨st, nw, fl, tb, ⟨o, vs, he, hc, hdd, hd, h1⟩, ht⟩ := F
  unfold setFlight
  refine wpAny_bind (wpAny_field he hd h1 ?_)
  rcases ht with rfl | ⟨T, oT, ts, rfl, hb, nT, hT, hdT, h3⟩
  · rw [if_neg (by decide)]
    exact wpAny_pure (k _ ⟨st, nw, fl, .none, ⟨o, vs, he, hc, hdd, hd, h1⟩, .inl rfl⟩ (Heap.UpToSlots.refl _))
  · rw [if_pos (show (Value.ref T != Value.none) = true from by simp)]
    have h3s := (Array.getElem?_eq_some_iff.mp h3).1
    have other : ∀ b, b ≠ T → (s.heap.update T (Obj.mapFields (·.setIfInBounds 3 ((none : Option Addr).elim Value.none fun f => rawInt f)))).get? b = s.heap.get? b := fun b nb => Heap.get?_update_other _ _ (Ne.symm nb)
    have nrec : ∀ b u, s.heap.get? b = some u → (∀ vs, u.data ≠ .fields vs) → b ≠ T := fun b u q nf z => by
      rw [z, hT] at q
      exact nf ts (Option.some.inj q ▸ hdT)
    refine wpAny_setField hT hdT h3s (k _ ⟨fun b u q => (other b fun z => by rw [z, hb] at q; cases q).trans (st b u q), nw, fl.of_keeps fun b u q nf => ⟨u, (other b (nrec b u q nf)).trans q, rfl⟩, .ref T, ⟨o, vs, (other a (Ne.symm nT)).trans he, hc, hdd, hd, h1⟩,
      .inr ⟨T, _, _, rfl, hb, nT, Heap.get?_update_self _ hT (Obj.isFreed_of_fields (Obj.data_mapFields hdT _)), Obj.data_mapFields hdT _, by simp [h3s]⟩⟩ fun b u q nf => ⟨u.slots, (other b (nrec b u q nf)).trans q⟩)
end
end L2
namespace L2
open PySem PySem.Spec PyProof.Rows
abbrev VE : List Value := [.type "ValueError", .type "Exception", .type "BaseException", .type "object"]
structure Xc (h : Heap) (C : Addr) : Prop where
  ob : ∃ (nm q : Str) (N TE : Addr) (bs : List Value) (sn : List Str) (sub : List Value) (ab : Bool) (col : Option Bool) (dd : Option Addr) (k0 k1 k2 k3 k5 : Option Value) (mN : Str → Option Value),
    h.get? C = some (excClassObj nm q C N bs (.ref TE :: VE) true sn sub ab col dd k0 k1 k2 k3 k5 "ValueError.__new__") ∧ h.Ns N mN ∧ OwnTail h VE (.ref TE :: VE)
structure XcK (K : PySem.W.Frag) (C : Addr) : Prop where
  ob : ∃ (nm q : Str) (N TE : Addr) (bs : List Value) (sn : List Str) (sub : List Value) (ab : Bool) (col : Option Bool) (dd : Option Addr) (k0 k1 k2 k3 k5 : Option Value),
    K.lookup C = some (excClassObj nm q C N bs (.ref TE :: VE) true sn sub ab col dd k0 k1 k2 k3 k5 "ValueError.__new__") ∧ PySem.W.nsOkIn K N = true ∧ PySem.W.tailIn K VE (.ref TE :: VE) = true
theorem XcK.xc {K : PySem.W.Frag} {h : Heap} {C : Addr} (x : XcK K C) (X : K.In h) : Xc h C := by
  obtain ⟨nm, q, N, TE, bs, sn, sub, ab, col, dd, k0, k1, k2, k3, k5, l, hn, ht⟩ := x.ob
  exact ⟨nm, q, N, TE, bs, sn, sub, ab, col, dd, k0, k1, k2, k3, k5, _, X _ _ l, .of_isNs (PySem.W.isNs_of_in X hn), PySem.W.tail_of_in X ht⟩
section
variable {prog : Program} {w : World} {A : Around} {E : Value → Shared → Prop} {h : Heap} {g : Array GenState} {d : Drawn} {t : Nat} {os : OsState} {C f : Addr} {rest : List Value}
theorem xc_typecall {Q : Fin → Shared → Prop} (x : Xc h C) (hi : PySem.W.Looks (model prog w) h (typeLookup (.ref C) "__init__") (some (.ref f))) (hb : ∀ self, PySem.W.Looks (model prog w) h (bindSpecial (.ref f) self) (.ref f, [self]))
    (hq : ∀ h' e, h.objs.size ≤ e → Heap.MadeExcOf h h' e (.ref C) rest → wpAny (model prog w) A (call (.ref f) (.ref e :: rest)) (fun r s' => r = .none ∧ Q (.done (.ret (.ref e))) s') E ⟨h', g, d, t, os⟩) (hl : rest.length ≤ sizeLine) :
    wpAny (model prog w) A (Builtin.«type.__call__» ⟨.ref C :: rest, []⟩) Q E ⟨h, g, d, t, os⟩ := by
  obtain ⟨nm, q, N, TE, bs, sn, sub, ab, col, dd, k0, k1, k2, k3, k5, mN, hC, hn, T⟩ := x.ob
  have F := PySem.F.excBase_ValueError
  repeat (first | with_reducible refine wpAny_loadPart_at hC ?_ | with_reducible refine wpAny_madeBy_exc hC ?_ | wp_step)
  refine codeAny_call_builtin_code (Code.quiet_builtin _ F.quiet) (wpAny_check_new_subT F T hC (codeAny_exc_new_subT F T hC ?_ hl))
  show wpAny _ _ _ _ _ _
  generalize ho1 : ({ cls := .type "tuple", data := .seq rest.toArray } : Obj) = o1
  generalize ho2 : ({ cls := .ref C, data := .fields #[.ref h.objs.size, .none, .none, .none, .bool false, .none] } : Obj) = o2
  have kk : ∀ b o, h.get? b = some o → ((h.push o1).push o2).get? b = some o := fun b o e => Heap.get?_push_of_some _ (Heap.get?_push_of_some _ e)
  have hg : ((h.push o1).push o2).get? (h.objs.size + 1) = some o2 := Heap.get?_push_at (by simp only [Heap.size_push]) (by rw [← ho2]; rfl)
  have hg1 : ((h.push o1).push o2).get? h.objs.size = some o1 := Heap.get?_push_of_some _ (Heap.get?_push_at rfl (by rw [← ho1]; rfl))
  have hc2 : o2.cls = .ref C := by rw [← ho2]
  have hcC : (Value.ref C :: Value.ref TE :: VE).contains (.ref C) = true := by simp
  unfold isInstance
  repeat (first | (with_reducible refine wpAny_loadPart_at hg ?_; rw [hc2]) | (with_reducible refine wpAny_isSubtype_exc (kk _ _ hC) ?_; rw [hcC]) | wp_step)
  show wpAny _ _ (typeLookup (.ref C) _) _ _ _
  refine (hi.keeps kk).at ?_
  refine wpAny_holding (wpAny_bind (((hb _).keeps kk).at ?_))
  refine wpAny_bind (wpAny_mono (hq _ (h.objs.size + 1) (Nat.le_succ _) ⟨kk, Heap.get?_none_of_le (Nat.le_succ _), h.objs.size, by rw [ho2]; exact hg, Heap.get?_none_of_le (Nat.le_refl _), by rw [ho1]; exact hg1⟩) (fun r s' hr => ?_) fun _ _ y => y)
  obtain ⟨rfl, hQ⟩ := hr
  wp_walk
  exact hQ
theorem xc_call {Q : Value → Shared → Prop} (x : Xc h C) (hi : PySem.W.Looks (model prog w) h (typeLookup (.ref C) "__init__") (some (.ref f))) (hb : ∀ self, PySem.W.Looks (model prog w) h (bindSpecial (.ref f) self) (.ref f, [self]))
    (hq : ∀ h' e, h.objs.size ≤ e → Heap.MadeExcOf h h' e (.ref C) rest → wpAny (model prog w) (A.under (.builtin "type.__call__" ⟨.ref C :: rest, []⟩)) (call (.ref f) (.ref e :: rest)) (fun r s' => r = .none ∧ Q (.ref e) s') E ⟨h', g, d, t, os⟩) (hl : rest.length ≤ sizeLine) :
    wpAny (model prog w) A (call (.ref C) rest) Q E ⟨h, g, d, t, os⟩ := by
  obtain ⟨nm, q, N, TE, bs, sn, sub, ab, col, dd, k0, k1, k2, k3, k5, mN, hC, hn, T⟩ := id x.ob
  have f1 := tc_lookup
  have f2 := tc_bind (.ref C)
  have hT : (⟨h, g, d, t, os⟩ : Shared).TypeIs (.ref C) "type" := ⟨_, hC, rfl⟩
  refine wpAny_call (codeAny_of_tree ?_)
  show wpAny _ _ (callAny (.ref C) _) _ _ _
  repeat (any_goals (first | assumption | with_reducible refine wpAny_loadPart_at hC ?_ | wp_step))
  refine ⟨rfl, ?_⟩
  exact codeAny_call_builtin_at (Code.quiet_builtin _ (by decide +kernel)) entry_typeCall (wpAny_check_type_call_sub hC (xc_typecall x hi hb (fun h' e hz hm => hq h' e hz hm) hl))
section
variable {nm q : Str} {N TE x : Addr} {bs bmB : List Value} {sn : List Str} {sub : List Value} {ab : Bool} {col : Option Bool} {dd : Option Addr} {k0 k1 k2 k3 k5 : Option Value} {B newId sa owner : String} {o : Obj} {name : Str} {v : Value}
theorem sa_check {M : Model} {nv : Value} {Q : Unit → Shared → Prop} (SF : StoreFacts B bmB sa owner) (hC : h.get? C = some (excClassObj nm q C N bs (.ref TE :: bmB) true sn sub ab col dd k0 k1 k2 k3 k5 newId))
    (hx : h.get? x = some o) (hc : o.cls = .ref C) (hq : Q () ⟨h, g, d, t, os⟩) : wpAny M A (checkBuiltinCall sa ⟨[.ref x, nv, v], []⟩) Q E ⟨h, g, d, t, os⟩ := by
  have hcO : (Value.ref C :: Value.ref TE :: bmB).contains (.type owner) = true := by
    rw [List.contains_cons, List.contains_cons, SF.hasOwner, Bool.or_true, Bool.or_true]
  have ha := SF.args (.ref x) nv v
  simp only [checkBuiltinCall, SF.kind, SF.split]
  refine wpAny_bind ?_
  unfold isInstance
  repeat (first | (with_reducible refine wpAny_loadPart_at hx ?_; rw [hc]) | (with_reducible refine wpAny_isSubtype_exc hC ?_; rw [hcO]) | wp_step)
  cases hsig : Manifest.signature? sa with
  | none => exact wpAny_pure hq
  | some sig =>
    simp only [argsOk, hsig] at ha
    have h2 : Bind.checkArgs sa sig ⟨[.ref x, nv, v], []⟩ = pure () := ha
    show wpAny M A (Bind.checkArgs sa sig ⟨[.ref x, nv, v], []⟩) Q E _
    rw [h2]; exact wpAny_pure hq
theorem sa_run {tk : Tok} {vs : Array Value} {Q : Fin → Shared → Prop} (SF : StoreFacts B bmB sa owner) (hC : h.get? C = some (excClassObj nm q C N bs (.ref TE :: bmB) true sn sub ab col dd k0 k1 k2 k3 k5 newId))
    (hx : h.get? x = some o) (hc : o.cls = .ref C) (hd : o.dict = none) (hv : o.data = .fields vs) (h2 : PySem.W.Looks (model prog w) h (typeLookup (.ref C) name) none)
    (hq : ∀ h' tk' dx, h.get? dx = none → dx ≠ x → h'.get? x = some { o with dict := some dx } → h'.Ns1 dx (fun y => if y = name then some v else none) → (∀ b u, b ≠ x → h.get? b = some u → h'.get? b = some u) → Q (.done (.ret .none)) ⟨h', g, d, tk', os⟩) :
    wpAny (model prog w) A (Builtin.«object.__setattr__» ⟨[.ref x, .str name tk, v], []⟩) Q E ⟨h, g, d, t, os⟩ := by
  have pas := SF.passes (.ref x)
  unfold Builtin.«object.__setattr__»
  repeat (first | rw [refuse_eq] | (rw [refuseLoop_ref, refuseLoop_ref, pas]) | (with_reducible refine wpAny_loadPart_at hx ?_; rw [hc]) | with_reducible refine wpAny_mroOf_exc hC ?_ | with_reducible refine h2.at ?_ | wp_step)
  rw [hd, hv, if_neg (by simp [typeHasDict])]
  dsimp only
  generalize hod : ({ cls := .type "dict", data := .dict #[] } : Obj) = od
  have odf : od.isFreed = false := by rw [← hod]; rfl
  have ne : x ≠ h.objs.size := Nat.ne_of_lt (Heap.lt_size hx)
  have hx1 : (h.push od).get? x = some o := Heap.get?_push_of_some _ hx
  have of : o.isFreed = false := Obj.isFreed_of_fields hv
  refine wpAny_bind (wpAny_alloc' (wpAny_bind (wpAny_update' hx1 ?_)))
  refine wpAny_pure ?_
  generalize hh1 : ((h.push od).update x fun o => { cls := o.cls, dict := some h.objs.size, data := o.data, slots := o.slots }) = h1
  have g1 : h1.get? h.objs.size = some od := by rw [← hh1]; exact (Heap.get?_update_ne _ _ _ _ ne.symm).trans (Heap.get?_push_at rfl odf)
  have g2 : h1.get? x = some { o with dict := some h.objs.size } := by
    rw [← hh1]
    refine Heap.get?_update_self _ hx1 ?_
    obtain ⟨oc, odd, odt, osl⟩ := o
    cases odt <;> first | rfl | exact of
  have nsd : h1.Ns h.objs.size (fun _ => none) := ⟨od, #[], _, g1, by rw [← hod], fun e he => absurd he (by simp), fun _ => rfl⟩
  show wpAny _ _ (Builtin.ObjectAttr.storeInDict h.objs.size (.str name tk) name v) _ _ _
  unfold Builtin.ObjectAttr.storeInDict Builtin.ObjectAttr.newKeyGuard
  refine wpAny_bind (wpAny_pure (wpAny_bind (wpAny_nsSet1 (Heap.Ns1.of_empty nsd) fun h' hn' hs => ?_)))
  obtain ⟨oD, esD, epD, hoD, hdD, hcD⟩ := hn'.count (Within.cons name v Within.nil)
  refine wpAny_bind (wpAny_lookBehind hoD (by rw [hdD]; exact pastItsLine_dict (Nat.le_trans hcD (by rw [List.length_cons, List.length_nil, sizeLine_eq]; omega))) ?_)
  wp_walk
  refine hq h' _ h.objs.size (Heap.get?_none_of_le (Nat.le_refl _)) ne.symm ((hs.2 x ne).trans g2) ?_ fun b u nb hb => ?_
  · exact hn'
  · refine (hs.2 b (Nat.ne_of_lt (Heap.lt_size hb))).trans ?_
    rw [← hh1]
    exact (Heap.get?_update_ne _ _ _ _ nb).trans (Heap.get?_push_of_some _ hb)
theorem sa_all {vs : Array Value} {Q : Unit → Shared → Prop} (SF : StoreFacts B bmB sa owner) (hC : h.get? C = some (excClassObj nm q C N bs (.ref TE :: bmB) true sn sub ab col dd k0 k1 k2 k3 k5 newId))
    (hx : h.get? x = some o) (hc : o.cls = .ref C) (hd : o.dict = none) (hv : o.data = .fields vs) (h1 : PySem.W.Looks (model prog w) h (typeLookup (.ref C) "__setattr__") (some (.builtin sa))) (h2 : PySem.W.Looks (model prog w) h (typeLookup (.ref C) name) none)
    (hq : ∀ h' tk' dx, h.get? dx = none → dx ≠ x → h'.get? x = some { o with dict := some dx } → h'.Ns1 dx (fun y => if y = name then some v else none) → (∀ b u, b ≠ x → h.get? b = some u → h'.get? b = some u) → Q () ⟨h', g, d, tk', os⟩) :
    wpAny (model prog w) A (setAttr (.ref x) name v) Q E ⟨h, g, d, t, os⟩ := by
  have f3 := SF.slot.bind (.ref x)
  unfold setAttr callSpecial? specialOf
  repeat (any_goals (first | assumption | (with_reducible refine wpAny_loadPart_at hx ?_; rw [hc]) | with_reducible refine h1.at ?_ | wp_step))
  refine codeAny_call_builtin SF.slot.plain SF.entry (sa_check SF hC hx hc (sa_run SF hC hx hc hd hv h2 fun h' tk' dx e1 e2 e3 e4 e5 => ?_))
  repeat (any_goals (first | assumption | wp_step))
  exact hq h' tk' dx e1 e2 e3 e4 e5
end
theorem xc_store {x : Addr} {o : Obj} {vs : Array Value} {name : Str} {v : Value} {Q : Unit → Shared → Prop} (X : Xc h C) (hx : h.get? x = some o) (hc : o.cls = .ref C) (hd : o.dict = none) (hv : o.data = .fields vs)
    (h1 : PySem.W.Looks (model prog w) h (typeLookup (.ref C) "__setattr__") (some (.builtin "object.__setattr__"))) (h2 : PySem.W.Looks (model prog w) h (typeLookup (.ref C) name) none)
    (hq : ∀ h' tk' dx, h.get? dx = none → dx ≠ x → h'.get? x = some { o with dict := some dx } → h'.Ns1 dx (fun y => if y = name then some v else none) → (∀ b u, b ≠ x → h.get? b = some u → h'.get? b = some u) → Q () ⟨h', g, d, tk', os⟩) :
    wpAny (model prog w) A (setAttr (.ref x) name v) Q E ⟨h, g, d, t, os⟩ := by
  obtain ⟨nm, q, N, TE, bs, sn, sub, ab, col, dd, k0, k1, k2, k3, k5, mN, hC, hn, T⟩ := X.ob
  exact sa_all PySem.F.store_ValueError hC hx hc hd hv h1 h2 hq
end
end L2
namespace L2
open PySem PySem.Spec PyProof.Rows
abbrev xobj (C : Addr) (dd : Option Addr) (t : Addr) : Obj := { cls := .ref C, dict := dd, data := .fields #[.ref t, .none, .none, .none, .bool false, .none] }
section
variable {M : Model} {A : Around} {E : Value → Shared → Prop} {env : Env}
variable {nm q : Str} {C N : Addr} {bs bm : List Value} {hdct : Bool} {sn : List Str} {sub : List Value} {ab : Bool} {col : Option Bool} {dd : Option Addr} {k0 k1 k2 k3 k5 : Option Value} {newId : String}
theorem xc_raise0 {s : Shared} {x : Sem Value} {Q : Flow → Shared → Prop} (hb : bm.contains (.type "BaseException") = true) (hh : A.handled = none)
    (hw : wpAny M A x (fun v s1 => ∃ e t dx, v = .ref e ∧ s1.heap.get? C = some (excClassObj nm q C N bs bm hdct sn sub ab col dd k0 k1 k2 k3 k5 newId) ∧ s1.heap.get? e = some (xobj C dx t) ∧ E (.ref e) s1) E s) :
    wpAny M A (raiseStmt env (some x) none) Q E s := by
  have hcB : (Value.ref C :: bm).contains (.type "BaseException") = true := by rw [List.contains_cons, hb, Bool.or_true]
  unfold raiseStmt
  refine wpAny_bind (wpAny_mono hw (fun v s1 h1 => ?_) fun _ _ y => y)
  obtain ⟨e, t, dx, rfl, hC, he, hE⟩ := h1
  obtain ⟨hp, g, d, tk, os⟩ := s1
  repeat (first | with_reducible refine wpAny_loadPart_at he ?_ | with_reducible refine wpAny_loadPart_at hC ?_ | (with_reducible refine wpAny_isSubtype_exc hC ?_; rw [hcB]) | wp_step)
  exact wpAny_raiseNew_none hh hE
end
theorem init_ok {P : Program} {w : World} {K : PySem.W.Frag} {mg : Str → Option Value} {base : Heap} {k : Nat} {f : Addr} {name qual : Str} {params : Arguments} {scope : Scope} {dV kV doc pm cdv ct oc : Value} {an od : Option Addr} {osl : Array (Option Value)}
    {me par fld : Str} {p1 p2 p3 p4 : Pos} {C e t : Addr} {A : Around} {outer : List Env} {s : Shared} {H : Hp} {args : Args} {u : Value} {v : V}
    (lk : K.lookup f = some ⟨oc, od, .func (PySem.W.fnOf name qual params [.Assign [.Attribute (.Name me p1) fld p2] (.Name par p3) p4] scope dV kV doc pm an cdv ct), osl⟩) (hcd : PySem.W.codeIn K cdv qual = true) (S : FnScope [me, par] [me, par] scope)
    (d1 : (me == ("__debug__" : Str)) = false) (d2 : (me == ("__classdict__" : Str)) = false) (d3 : (par == ("__debug__" : Str)) = false) (d4 : (par == ("__classdict__" : Str)) = false)
    (sw : ∀ env, swapsWith (.Name par p3) (some (.Attribute (.Name me p1) fld p2)) p4.line env = pure false)
    (f1 : PySem.W.findIn K (.ref C) "__setattr__" = some (some (.builtin "object.__setattr__"))) (f2 : PySem.W.findIn K (.ref C) fld = some none)
    (hr : Room (k + 1) A) (e0 : Env0 P w K mg base A outer s H) (hb : BindsTo s (PySem.W.fnOf name qual params [.Assign [.Attribute (.Name me p1) fld p2] (.Name par p3) p4] scope dV kV doc pm an cdv ct) args [(me, .ref e), (par, u)]) (r : RelV v u)
    (hx : XcK K C) (he : s.heap.get? e = some (xobj C none t)) (hn : H e = none) (hf : e ∉ frs outer) :
    codeAny (model P w) A (.call (.ref f) args) (fun r s' => r = .ok (.ret .none) ∧ s'.os = s.os ∧ AllBare s'.gens ∧ Un (frs outer) [e] H H s.heap s'.heap ∧ HOk P w H s'.heap ∧
      ∃ dx u', s.heap.get? dx = none ∧ dx ≠ e ∧ s'.heap.get? e = some (xobj C (some dx) t) ∧ s'.heap.Ns1 dx (fun y => if y = fld then some u' else none) ∧ RelV v u') s := by
  have KX : K.In s.heap := e0.mod.kin.keeps fun b o e => (e0.bs b o e).1
  have lim : s.heap.NoLimit := e0.mod.nolimit.keeps fun b o e => (e0.bs b o e).1
  have hkind : ∀ y ∈ [(me, Value.ref e), (par, u)], scope.names.lookup y.1 = some .local ∨ (scope.names.lookup y.1 = some .cell ∧ ((cellsFrom (s.heap.objs.size + 1) scope.names []).lookup y.1).isSome = true) := fun ⟨n, x⟩ hy => by
    have hm : n ∈ [me, par] := by
      rcases List.mem_cons.mp hy with z | z
      · cases z; exact List.mem_cons_self
      · cases List.mem_singleton.mp z; exact List.mem_cons_of_mem _ List.mem_cons_self
    rcases S.par n hm with q | q
    · exact .inl q
    · exact .inr ⟨q, PySem.W.cellsFrom_some _ _ _ (.inl q)⟩
  refine codeAny_call_function hr.depth (KX _ _ lk) rfl S.co S.gen rfl (PySem.W.codeRec_of KX hcd) (hb _ _ _ _ ?_)
  refine wpAny_newFunctionEnv_cells S.kind hkind fun env hv s1 x => ?_
  subst hv
  refine ⟨lim.keeps x.toInCall.keep, codeAny_func ?_⟩
  have I : Inv (cxOf (fun _ _ _ _ _ _ => False) P w K mg base [me, par] qual scope f cdv A outer s H fun _ _ _ => True) [] (start [me, par] [V.ref e, v]) H s1 := inv_start (vs := [V.ref e, v]) (us := [Value.ref e, u]) S hr.hd e0 rfl (.cons rfl (.cons r .nil)) x
  generalize hX : (cxOf (fun _ _ _ _ _ _ => False) P w K mg base [me, par] qual scope f cdv A outer s H fun _ _ _ => True) = X at I
  have J := I.wish fun _ _ => False
  have N0 : X.N[0]? = some me := by rw [← hX]; rfl
  have N1 : X.N[1]? = some par := by rw [← hX]; rfl
  have vis : ∀ n ∈ [me, par], Vis X.env.scope n := fun n hn => by
    rw [← hX]
    exact (S.par n hn).elim (fun q => .inl q) fun q => .inr (.inl q)
  have pv := pe_var (X := X.nox) (pos := p3) N1 (vis par (List.mem_cons_of_mem _ List.mem_cons_self)) d3 d4
  have pm := pe_var (X := X.nox) (pos := p1) N0 (vis me List.mem_cons_self) d1 d2
  have hp : X.prog = P := by rw [← hX]; rfl
  have hw : X.w = w := by rw [← hX]; rfl
  have main : wpAny (model X.prog X.w) X.A (execs [.Assign [.Attribute (.Name me p1) fld p2] (.Name par p3) p4] X.env) (fun fl s' => fl = .next ∧ s'.os = s.os ∧ AllBare s'.gens ∧ Un (frs outer) [e] H H s.heap s'.heap ∧ HOk P w H s'.heap ∧
      ∃ dx u', s.heap.get? dx = none ∧ dx ≠ e ∧ s'.heap.get? e = some (xobj C (some dx) t) ∧ s'.heap.Ns1 dx (fun y => if y = fld then some u' else none) ∧ RelV v u') (fun _ _ => False) s1 := by
    refine wpAny_execs_cons (plainObj_wpAny_Assign_Attribute (thn (pv [] s1 _ H (fun x H' => x = v ∧ H' = H) J ⟨v, rfl, rfl, rfl⟩) fun u2 s2 zz => el5 zz fun x2 H2 I2 r2 q2 => ?_) (sw _))
    obtain ⟨rfl, rfl⟩ := q2
    refine thn (pm [] s2 _ H2 (fun x H' => x = .ref e ∧ H' = H2) I2 ⟨.ref e, rfl, rfl, rfl⟩) fun ov s3 zz => el5 zz fun x3 H3 I3 r3 q3 => ?_
    obtain ⟨rfl, rfl⟩ := q3
    obtain rfl : ov = Value.ref e := r3
    have b3 : Un (frs outer) [] H3 H3 s.heap s3.heap := by have := I3.base; rw [← hX] at this; exact this
    have he3 : s3.heap.get? e = some (xobj C none t) := b3.keep e _ he hn hf (by intro z; cases z)
    have K3 : K.In s3.heap := by have := I3.kIn; rw [← hX] at this; exact this
    have bk3 : ∀ b o, base.get? b = some o → s3.heap.get? b = some o := by have := I3.bk; rw [← hX] at this; exact this
    have hk3 : HOk P w H3 s3.heap := by have := I3.hok; rw [← hX] at this; exact this
    have os3' : s3.os = s.os := by have := I3.os; rw [← hX] at this; exact this
    have ba3 := I3.bare
    obtain ⟨h3, g3, dr3, t3, os3⟩ := s3
    refine xc_store (hx.xc K3) he3 rfl rfl rfl (PySem.W.looks_findIn K3 f1) (PySem.W.looks_findIn K3 f2) fun h' tk' dx n1 n2 n3 n4 n5 => ?_
    refine wpAny_execs_nil ⟨rfl, os3', ba3, ?_, ?_, dx, u2, ?_, n2, n3, n4, r2⟩
    · have u2 : Un (frs outer) [e] H3 H3 h3 h' := ⟨fun b o q _ _ nx => n5 b o (fun z => nx (by rw [z]; exact List.mem_cons_self)) q, fun b o q _ _ nx => ⟨o.slots, n5 b o (fun z => nx (by rw [z]; exact List.mem_cons_self)) q⟩, fun _ _ _ n _ => n,
        fun b o q nx => ⟨o, n5 b o (fun z => nx (by rw [z]; exact List.mem_cons_self)) q⟩, fun _ _ q => q, fun _ _ _ q => q, fun _ ps q => ⟨#[], by rw [q]; simp⟩⟩
      exact (b3.mono (fun _ z => z) fun _ z => absurd z (by simp)).trans u2
    · refine fun b o q => (hk3 b o q).stay (fun c u' hc z => n5 c u' (fun y => ?_) z) (fun _ q => q) fun _ _ q => q
      subst y
      rcases hc with y | y
      · rw [y] at hn; rw [hn] at q; cases q
      · rw [hn] at y; cases y
    · cases z : s.heap.get? dx with
      | none => rfl
      | some o =>
        obtain ⟨o', q⟩ := b3.there dx o z (by simp)
        rw [n1] at q; cases q
  have main' : wpAny (model P w) (A.deeper (envOfC qual scope s.heap.objs.size f cdv)) (execs [.Assign [.Attribute (.Name me p1) fld p2] (.Name par p3) p4] (envOfC qual scope s.heap.objs.size f cdv)) (fun fl s' => fl = .next ∧ s'.os = s.os ∧ AllBare s'.gens ∧ Un (frs outer) [e] H H s.heap s'.heap ∧ HOk P w H s'.heap ∧
      ∃ dx u', s.heap.get? dx = none ∧ dx ≠ e ∧ s'.heap.get? e = some (xobj C (some dx) t) ∧ s'.heap.Ns1 dx (fun y => if y = fld then some u' else none) ∧ RelV v u') (fun _ _ => False) s1 := by
    rw [← hX] at main; exact main
  refine wpAny_mono main' (fun fl s' hs => ?_) fun _ _ z => z.elim
  obtain ⟨rfl, hs⟩ := hs
  exact ⟨rfl, hs⟩
def InitP (P : Program) (w : World) (K : PySem.W.Frag) (mg : Str → Option Value) (base : Heap) (k : Nat) (f C : Addr) (fld : Str) : Prop :=
  ∀ (A : Around) (outer : List Env) (s : Shared) (H : Hp) (u : Value) (v : V) (e t : Addr), Room k A → Env0 P w K mg base A outer s H → RelV v u → s.heap.get? e = some (xobj C none t) → H e = none → e ∉ frs outer →
    codeAny (model P w) A (.call (.ref f) ⟨[.ref e, u], []⟩) (fun r s' => r = .ok (.ret .none) ∧ s'.os = s.os ∧ AllBare s'.gens ∧ Un (frs outer) [e] H H s.heap s'.heap ∧ HOk P w H s'.heap ∧
      ∃ dx u', s.heap.get? dx = none ∧ dx ≠ e ∧ s'.heap.get? e = some (xobj C (some dx) t) ∧ s'.heap.Ns1 dx (fun y => if y = fld then some u' else none) ∧ RelV v u') s
theorem initP_of {P : Program} {w : World} {K : PySem.W.Frag} {mg : Str → Option Value} {base : Heap} {k : Nat} {f : Addr} {name qual : Str} {params : Arguments} {scope : Scope} {dV kV doc pm cdv ct oc : Value} {an od : Option Addr} {osl : Array (Option Value)}
    {me par fld : Str} {p1 p2 p3 p4 : Pos} {C : Addr}
    (lk : K.lookup f = some ⟨oc, od, .func (PySem.W.fnOf name qual params [.Assign [.Attribute (.Name me p1) fld p2] (.Name par p3) p4] scope dV kV doc pm an cdv ct), osl⟩) (hcd : PySem.W.codeIn K cdv qual = true) (S : FnScope [me, par] [me, par] scope)
    (d1 : (me == ("__debug__" : Str)) = false) (d2 : (me == ("__classdict__" : Str)) = false) (d3 : (par == ("__debug__" : Str)) = false) (d4 : (par == ("__classdict__" : Str)) = false)
    (sw : ∀ env, swapsWith (.Name par p3) (some (.Attribute (.Name me p1) fld p2)) p4.line env = pure false)
    (f1 : PySem.W.findIn K (.ref C) "__setattr__" = some (some (.builtin "object.__setattr__"))) (f2 : PySem.W.findIn K (.ref C) fld = some none) (hx : XcK K C)
    (hb : Binds K (PySem.W.fnOf name qual params [.Assign [.Attribute (.Name me p1) fld p2] (.Name par p3) p4] scope dV kV doc pm an cdv ct) [me, par] []) : InitP P w K mg base (k + 1) f C fld :=
  fun A outer s H u v e t hr e0 r he hn hf => init_ok lk hcd S d1 d2 d3 d4 sw f1 f2 hr e0 (hb s [.ref e, u] (e0.mod.kin.keeps fun b o q => (e0.bs b o q).1) rfl) r hx he hn hf
section
variable {X : Cx} {pins : List (Addr × Obj)} {σ : St} {H : Hp} {s : Shared} {C f : Addr} {fld : Str} {k : Nat}
theorem ObjOk.there {P : Program} {w : World} {H : Hp} {h : Heap} {a : Addr} {o : HO} (x : ObjOk P w H h a o) : ∃ u, h.get? a = some u := by
  cases o with
  | lst xs => exact x.2.elim fun _ y => y.elim fun _ z => ⟨_, z.2⟩
  | tup xs => exact x.2.elim fun _ z => z.2.elim fun _ y => ⟨_, y.1⟩
  | dK kvs => exact x.2.2.elim fun _ z => z.2.elim fun _ y => y.elim fun _ y => y.elim fun _ y => ⟨_, y.1⟩
  | dT kvs => exact x.2.2.elim fun _ z => z.2.elim fun _ y => y.elim fun _ y => y.elim fun _ y => ⟨_, y.1⟩
  | set S n => exact x.elim fun _ y => y.elim fun _ y => y.elim fun _ y => y.elim fun _ y => ⟨_, y.1⟩
  | ins C dx fs => exact ⟨_, x.2.2.2.1⟩
  | own y => exact x
  | xd fs => exact x.elim fun _ z => z.1.elim fun _ y => y.elim fun _ y => y.elim fun _ y => ⟨_, y.1⟩
  | rng lo hi => exact x.elim fun _ y => y.elim fun _ y => y.elim fun _ y => ⟨_, y⟩
  | frz ob u => exact ⟨_, x.1⟩
  | tbl ps => exact ⟨_, x⟩
  | met f y => exact ⟨_, x⟩
  | ext φ => exact x.2.1
theorem HOk.gone {P : Program} {w : World} {H : Hp} {h : Heap} (x : HOk P w H h) {a : Addr} (e : h.get? a = none) : H a = none := by
  cases q : H a with
  | none => rfl
  | some o =>
    obtain ⟨u, z⟩ := (x a o q).there
    rw [e] at z; cases z
theorem made_init {u : Value} {v : V} {Q : Value → Shared → Prop} (I : Inv X pins σ H s) (hr : Room (k + 1) X.A) (hx : XcK X.K C) (F : InitP X.prog X.w X.K X.mg X.base k f C fld)
    (fi : PySem.W.findIn X.K (.ref C) "__init__" = some (some (.ref f))) (fn : PySem.W.typeIn X.K (.ref f) = some (.type "function")) (r : RelV v u)
    (hq : ∀ a dx t s', Inv X pins σ (upd H dx (.xd [(fld, v)])) s' → s.heap.get? a = none → s.heap.get? dx = none → H dx = none → H a = none → dx ≠ a → s'.heap.get? a = some (xobj C (some dx) t) → Q (.ref a) s') : wpAny (model X.prog X.w) X.A (call (.ref C) [u]) Q X.xe s := by
  have KX := I.kIn
  obtain ⟨h, g, d, t, os⟩ := s
  refine xc_call (hx.xc KX) (PySem.W.looks_findIn KX fi) (fun self => PySem.W.bind_fn KX self fn) (fun h' e hz hm => ?_) (by show 1 ≤ sizeLine; decide)
  have I1 : Inv X pins σ H ⟨h', g, d, t, os⟩ := I.kept (h' := h') (t' := t) hm.keeps
  obtain ⟨t0, he, ht0, htu⟩ := hm.there
  have nfs : e ∉ frs X.stack := fun z => by
    rcases List.mem_cons.mp (I.stkSub e z) with q | q
    · exact absurd (q ▸ I.lt) (Nat.not_lt.mpr hz)
    · exact I.nofs hz q
  refine wpAny_call (codeAny_mono (F _ X.stack ⟨h', g, d, t, os⟩ H u v e t0 (hr.make C [u] []) (I1.env0.make C [u] []) r he (I.hok.fresh hz) nfs) fun rr s' hh => ?_)
  obtain ⟨rfl, hos, hba, hun, hok, dx, u', n1, n2, n3, n4, n5⟩ := hh
  have hd0 : h.get? dx = none := by
    cases z : h.get? dx with
    | none => rfl
    | some o => have := hm.keeps dx o z; rw [n1] at this; cases this
  have hH : H dx = none := HOk.gone I.hok hd0
  have un2 : Un (frs X.stack) [e] H (upd H dx (.xd [(fld, v)])) h' s'.heap := ⟨hun.keep, hun.slot, fun b o q n nx => by rw [upd_ne (fun z => by rw [z, n1] at q; cases q)]; exact hun.free b o q n nx, hun.there,
    fun b xs q => by rw [upd_ne (ne_of_none q hH)]; exact hun.tups b xs q, fun b o u q => by rw [upd_ne (ne_of_none q hH)]; exact hun.frzs b o u q, fun b ps q => by rw [upd_ne (ne_of_none q hH)]; exact hun.tbls b ps q⟩
  have hok2 : HOk X.prog X.w (upd H dx (.xd [(fld, v)])) s'.heap := fun b o q => by
    by_cases hb : b = dx
    · subst hb
      rw [upd_same] at q
      cases q
      refine ⟨_, n4, fun y => ?_⟩
      by_cases hy : y = fld
      · subst hy; simp [RelO, n5]
      · have : (y == fld) = false := beq_eq_false_iff_ne.mpr hy
        simp [RelO, List.lookup, this, hy]
    · rw [upd_ne hb] at q
      refine (hok b o q).stay (fun _ _ _ z => z) (fun c z => ?_) fun c xs z => ?_
      · rw [upd_ne (ne_of_none z hH)]; exact z
      · rw [upd_ne (ne_of_none z hH)]; exact z
  refine ⟨rfl, hq e dx t0 s' (I1.call' hos un2 hok2 hba fun b hb => ?_) hm.new hd0 hH (I.hok.fresh hz) n2 n3⟩
  obtain rfl : b = e := by simpa using hb
  refine ⟨.inr (Nat.le_trans I.sz hz), fun q => absurd (q ▸ I.lt) (Nat.not_lt.mpr hz), fun x c q z => ?_, fun p hp z => ?_⟩
  · obtain ⟨cv, hcv⟩ := I.cell x c q
    exact absurd (z ▸ hcv.lt) (Nat.not_lt.mpr hz)
  · exact absurd (z ▸ Heap.lt_size (I.pin p hp).1) (Nat.not_lt.mpr hz)
end
end L2
namespace L2
open PySem PySem.Spec PyProof.Rows
structure Xs (h : Heap) (a C : Addr) (dd tb : Option Addr) : Prop where
  ob : Xo h a C dd (match tb with | none => .none | some T => .ref T)
  en : ∀ T, tb = some T → T ≠ a ∧ ∃ o ts, h.get? T = some o ∧ o.data = .fields ts ∧ ts[3]? = some .none
def CXe (P : Program) (w : World) : CXT := fun outer H s E e s' => ∃ a C dd tb H', e = .ref a ∧ s'.os = s.os ∧ AllBare s'.gens ∧ Un (frs outer) [] H H' s.heap s'.heap ∧ HOk P w H' s'.heap ∧
  s.heap.get? a = none ∧ (∀ T, tb = some T → s.heap.get? T = none ∧ H' T = none) ∧ H' a = none ∧ Xs s'.heap a C dd tb ∧ E (.ref C) dd H'
section
variable {M : Model} {X : Cx} {pins : List (Addr × Obj)} {σ : St} {H : Hp} {s : Shared} {a C : Addr} {dd tb : Option Addr}
abbrev hidX (X : Cx) (h : Heap) (a : Addr) (tb : Option Addr) : Heap := PySem.W.hideAll h (frs X.stack ++ a :: tb.toList)
theorem Xs.fly (I : Inv X pins σ H s) (x : Xs s.heap a C dd tb) : Fly (hidX X s.heap a tb) X.stack a C dd s.heap where
  stay := fun _ _ e => PySem.W.of_hideAll _ e
  new := PySem.W.hideAll_none _ (List.mem_append_right _ List.mem_cons_self)
  fr := PySem.W.funFrames_hide I.stack fun env he b hb => List.mem_append_left _ (List.mem_filterMap.mpr ⟨env, he, hb⟩)
  ob := by
    refine ⟨_, x.ob, ?_⟩
    cases tb with
    | none => exact .inl rfl
    | some T =>
      obtain ⟨n, o, ts, h1, h2, h3⟩ := x.en T rfl
      exact .inr ⟨T, o, ts, rfl, PySem.W.hideAll_none _ (List.mem_append_right _ (List.mem_cons_of_mem _ (by simp))), n, h1, h2, h3⟩
theorem hidX_keep {h' : Heap} (F : (hidX X s.heap a tb).StaysIn h') {b : Addr} {o : Obj} (e : s.heap.get? b = some o) (n1 : b ∉ frs X.stack) (n2 : b ≠ a) (n3 : tb ≠ some b) : h'.get? b = some o :=
  F b o (PySem.W.hideAll_get _ e fun z => by
    rcases List.mem_append.mp z with z | z
    · exact n1 z
    · rcases List.mem_cons.mp z with z | z
      · exact n2 z
      · cases tb with
        | none => cases z
        | some T => exact n3 (by rw [List.mem_singleton.mp z]))
theorem hidX_hok {h' : Heap} (I : Inv X pins σ H s) (F : (hidX X s.heap a tb).StaysIn h') (ha : H a = none) (ht : ∀ T, tb = some T → H T = none) : HOk X.prog X.w H h' := fun b o q =>
  (I.hok b o q).stay (fun c u hc e => by
    have hs : ∃ y, H c = some y := by
      rcases hc with z | z
      · exact ⟨o, z ▸ q⟩
      · exact ⟨_, z⟩
    obtain ⟨y, hy⟩ := hs
    refine hidX_keep F e (fun z => ?_) (fun z => ?_) fun z => ?_
    · rw [I.stkFree c z] at hy; cases hy
    · rw [z, ha] at hy; cases hy
    · rw [ht c z] at hy; cases hy) (fun _ z => z) fun _ _ z => z
theorem Xs.of_fly {l : List Env} {h' : Heap} (I : Inv X pins σ H s) (F : Fly (hidX X s.heap a tb) l a C dd h') (U : s.heap.UpToSlots h') (nt : ∀ T, tb = some T → X.s₀.heap.get? T = none ∧ H T = none) :
    ∃ tb', Xs h' a C dd tb' ∧ (∀ T, tb' = some T → X.ex = [] → X.s₀.heap.get? T = none ∧ H T = none) ∧ ∀ T, tb' = some T → tb = some T ∨ s.heap.get? T = none := by
  obtain ⟨v, ob, te⟩ := F.ob
  rcases te with rfl | ⟨T, o, ts, rfl, hb, n, h1, h2, h3⟩
  · exact ⟨none, ⟨ob, fun T z => nomatch z⟩, (fun T z => nomatch z), fun T z => nomatch z⟩
  · have key : tb = some T ∨ s.heap.get? T = none := by
      cases hs : s.heap.get? T with
      | none => exact .inr rfl
      | some u =>
        by_cases ht : tb = some T
        · exact .inl ht
        · exfalso
          by_cases hf : T ∈ frs X.stack
          · obtain ⟨_, u', hu, nf⟩ := I.stack.mem hf
            obtain ⟨sl, z⟩ := U T u' hu nf
            rw [h1] at z
            cases z
            exact nf ts h2
          · have z : (hidX X s.heap a tb).get? T = some u := PySem.W.hideAll_get _ hs fun z => by
              rcases List.mem_append.mp z with z | z
              · exact hf z
              · rcases List.mem_cons.mp z with z | z
                · exact n z
                · cases tb with
                  | none => cases z
                  | some T' => exact ht (by rw [List.mem_singleton.mp z])
            rw [hb] at z; cases z
    refine ⟨some T, ⟨ob, fun T' z => ?_⟩, fun T' z hex => ?_, fun T' z => ?_⟩
    · cases z; exact ⟨n, o, ts, h1, h2, h3⟩
    · cases z
      rcases key with ht | hs
      · exact nt T ht
      · refine ⟨?_, HOk.gone I.hok hs⟩
        cases z : X.s₀.heap.get? T with
        | none => rfl
        | some u =>
          obtain ⟨u', y⟩ := I.base.there T u z (by rw [hex]; simp)
          rw [hs] at y; cases y
    · cases z; exact key
theorem leave_exc {E : XK} {E' : Value → Shared → Prop} (I : Inv X pins σ H s) (hst : X.stack = X.env :: X.outer) (hfr : X.env.frame = some X.env.locals) (hex : X.ex = [])
    (x : Xs s.heap a C dd tb) (na : X.s₀.heap.get? a = none) (nt : ∀ T, tb = some T → X.s₀.heap.get? T = none ∧ H T = none) (ha : H a = none) (q : E (.ref C) dd H) :
    wpAny (model X.prog X.w) X.A (leaving X.env (.ref a)) (fun _ s'' => CXe X.prog X.w X.outer X.H₀ X.s₀ E (.ref a) s'') E' s := by
  have F := x.fly I
  rw [hst] at F
  refine fly_leave (by rw [← hst]; exact I.ok.frames) hfr F fun h' F' U => ?_
  obtain ⟨tb', x', nt', _⟩ := Xs.of_fly I F' U nt
  have nl : ∀ b o, X.s₀.heap.get? b = some o → b ∉ X.fs → b ∉ frs X.stack := fun b o e nb z => by
    rw [hst] at z
    unfold frs at z
    rw [List.filterMap_cons, hfr] at z
    rcases List.mem_cons.mp z with z | z
    · exact absurd (z ▸ Heap.lt_size e) (Nat.not_lt.mpr I.ok.above)
    · exact nb z
  have nb : ∀ b o, X.s₀.heap.get? b = some o → b ≠ a ∧ tb ≠ some b := fun b o e => ⟨fun z => (by rw [z, na] at e; cases e), fun z => (by rw [(nt b z).1] at e; cases e)⟩
  have nex : ∀ b, b ∉ X.ex := fun b z => by rw [hex] at z; cases z
  refine ⟨a, C, dd, tb', H, rfl, I.os, I.bare, ⟨fun b o e n nf _ => ?_, fun b o e n hf _ => ?_, fun b o e n _ => I.base.free b o e n (nex b), fun b o e _ => ?_, I.base.tups, I.base.frzs, I.base.tbls⟩, hidX_hok I F'.stay ha fun T z => (nt T z).2, na, fun T z => nt' T z hex, ha, x', q⟩
  · exact hidX_keep F'.stay (I.base.keep b o e n nf (nex b)) (nl b o e nf) (nb b o e).1 (nb b o e).2
  · obtain ⟨sl, e1⟩ := I.base.slot b o e n hf (nex b)
    obtain ⟨_, u, hu, nf⟩ := I.ok.funs.mem hf
    rw [e] at hu
    cases hu
    obtain ⟨sl', e2⟩ := U b _ e1 nf
    exact ⟨sl', e2⟩
  · obtain ⟨u, e1⟩ := I.base.there b o e (nex b)
    by_cases hf : b ∈ frs X.stack
    · obtain ⟨_, u', hu, nf⟩ := I.stack.mem hf
      obtain ⟨sl, z⟩ := U b u' hu nf
      exact ⟨_, z⟩
    · exact ⟨u, hidX_keep F'.stay e1 hf (nb b o e).1 (nb b o e).2⟩
end
def Rzs (X : Cx) (E : XK) : Prop := ∀ (pins : List (Addr × Obj)) (σ : St) (H : Hp) (s : Shared) (a C : Addr) (dd tb : Option Addr), Inv X pins σ H s → Xs s.heap a C dd tb → X.s₀.heap.get? a = none → (∀ T, tb = some T → X.s₀.heap.get? T = none ∧ H T = none) → H a = none →
  (∀ p ∈ X.pn ++ pins, p.1 ≠ a ∧ tb ≠ some p.1) → E (.ref C) dd H → X.xe (.ref a) s
theorem rzs_of {P : Program} {w : World} {K : PySem.W.Frag} {mg : Str → Option Value} {base : Heap} {N : List Str} {qual : Str} {scope : Scope} {f : Addr} {cd : Value} {A : Around} {outer : List Env} {s : Shared} {H : Hp} {E : XK} :
    Rzs (cxOf (CXe P w) P w K mg base N qual scope f cd A outer s H E) E := fun pins σ H' s' a C dd tb I x na nt ha _ q => leave_exc (X := cxOf (CXe P w) P w K mg base N qual scope f cd A outer s H E) I rfl rfl rfl x na nt ha q
section
variable {X : Cx} {E : XK}
theorem passes_of (hex : X.ex = []) (R : Rzs X E) : Passes (CXe X.prog X.w) X E := fun pins σ H s e s' I h => by
  obtain ⟨a, C, dd, tb, H', rfl, os, ba, un, hok, na, nt, ha, x, q⟩ := h
  have old : ∀ b, s.heap.get? b = none → X.s₀.heap.get? b = none := fun b e => by
    cases z : X.s₀.heap.get? b with
    | none => rfl
    | some o =>
      obtain ⟨u, y⟩ := I.base.there b o z (by rw [hex]; simp)
      rw [e] at y; cases y
  exact R pins σ H' s' a C dd tb (I.call' os un hok ba fun b hb => absurd hb (by simp)) x (old a na) (fun T z => ⟨old T (nt T z).1, (nt T z).2⟩) ha (fun p hp => ⟨fun z => (by have := (I.pin p hp).1; rw [z, na] at this; cases this), fun z => (by have := (I.pin p hp).1; rw [(nt _ z).1] at this; cases this)⟩) q
variable {x fld : Str} {p cp pos : Pos} {e : Expr} {t : TA} {C f : Addr} {k : Nat}
def tRz (C : Addr) (fld : Str) (E : XK) (t : TA) : TS := fun _ σ H => t σ H fun vs H1 => ∃ v, vs = [v] ∧ ∀ dx, H1 dx = none → E (.ref C) (some dx) (upd H1 dx (.xd [(fld, v)]))
theorem ps_raise (R : Rzs X E) (hex : X.ex = []) (hcalm : X.calm = true) (hr : Room (k + 1) X.A) (hg : Gl X x) (hm : X.mg x = some (.ref C)) (kp : PySem.W.keepIn X.K (.ref C) = true) (hx : XcK X.K C) (F : InitP X.prog X.w X.K X.mg X.base k f C fld)
    (fi : PySem.W.findIn X.K (.ref C) "__init__" = some (some (.ref f))) (fn : PySem.W.typeIn X.K (.ref f) = some (.type "function")) (ha : PA X [e] t)
    (hdb : (x == ("__debug__" : Str)) = false := by decide) (he : starEach [e] X.env = (false, eval e X.env) :: starEach [] X.env := by rfl) (hpl : (backTo cp (starEach [] X.env)).any (·.1) = false := by rfl) :
    PS X (.Raise (some (.Call (.Name x p) [e] [] cp)) none pos) (tRz C fld E t) := by
  intro pins s σ H D I h
  have hh : X.A.handled = none := I.ok.hd hcalm
  obtain ⟨nm, q, N, TE, bs, sn, sub, ab, col, dd, k0, k1, k2, k3, k5, hC, hn, T⟩ := hx.ob
  rw [arm_exec_Raise]
  refine wpAny_bind (wpAny_standAt (xc_raise0 (C := C) (nm := nm) (q := q) (N := N) (bs := bs) (bm := .ref TE :: VE) (hdct := true) (sn := sn) (sub := sub) (ab := ab) (col := col) (dd := dd) (k0 := k0) (k1 := k1) (k2 := k2) (k3 := k3) (k5 := k5) (newId := "ValueError.__new__") (by rw [List.contains_cons]; rfl) hh ?_))
  refine wpAny_bind (wpAny_mono (Q := fun v s1 => ∃ e t dx, v = .ref e ∧ s1.heap.get? C = some _ ∧ s1.heap.get? e = some (xobj C dx t) ∧ X.xe (.ref e) s1) ?_ (fun v s3 h3 => wpAny_bind (wpAny_standAt (wpAny_pure h3))) fun _ _ y => y)
  refine wpAny_Call_Name_kw (ld_glob I hg hm ?_ hdb)
  refine PySem.W.callWith_K (h₀ := X.base) I.ok.mod.kin kp (thn (ha cp pins s σ H _ I h) fun us s1 zz => el5 zz fun vs H1 I1 r q => ⟨I1.kIn, ?_⟩) he hpl
  obtain ⟨v, rfl, q⟩ := q
  cases r with
  | cons r r' =>
    cases r'
    have old : ∀ b, s1.heap.get? b = none → X.s₀.heap.get? b = none := fun b e => by
      cases z : X.s₀.heap.get? b with
      | none => rfl
      | some o =>
        obtain ⟨u, y⟩ := I1.base.there b o z (by rw [hex]; simp)
        rw [e] at y; cases y
    refine made_init I1 hr hx F fi fn r fun a dx t s' I' na nd hd hA ne ob => ⟨a, t, some dx, rfl, I'.kIn _ _ hC, ob, ?_⟩
    refine R pins σ _ s' a C (some dx) none I' ⟨⟨_, _, ob, rfl, rfl, rfl, rfl⟩, fun T z => nomatch z⟩ (old a na) (fun T z => nomatch z) ?_ (fun p hp => ⟨fun z => (by have := (I1.pin p hp).1; rw [z, na] at this; cases this), fun z => nomatch z⟩) (q dx hd)
    rw [upd_ne (Ne.symm ne)]; exact hA
end
end L2
namespace L2
open PySem PySem.Spec PyProof.Rows
section
variable {X : Cx} {pins : List (Addr × Obj)} {σ : St} {H : Hp} {s : Shared} {C f : Addr} {E : XK}
variable {x : Str} {p cp pos : Pos} {e : Expr} {t : TA}
end
end L2
namespace L2
open PySem PySem.Spec PyProof.Rows
abbrev XO (a C : Addr) (dd : Option Addr) : HO := .ext fun h => ∃ o vs, h.get? a = some o ∧ o.cls = .ref C ∧ o.dict = dd ∧ o.data = .fields vs
theorem xo_ok {P : Program} {w : World} {H : Hp} {h : Heap} {a C : Addr} {dd tb : Option Addr} (x : Xs h a C dd tb) : ObjOk P w H h a (XO a C dd) := by
  obtain ⟨o, vs, h1, h2, h3, h4, _⟩ := x.ob
  exact ⟨⟨o, vs, h1, h2, h3, h4⟩, ⟨o, h1⟩, fun g1 g2 ⟨o, vs, e1, e2, e3, e4⟩ k => ⟨o, vs, k o e1, e2, e3, e4⟩⟩
abbrev Cx.han (X : Cx) (a : Addr) : Cx := { X with A := X.A.mark (some (.ref a)), calm := false, xe := fun _ _ => False }
section
variable {X : Cx} {pins : List (Addr × Obj)} {σ : St} {H : Hp} {s : Shared} {a C : Addr} {dd tb : Option Addr}
theorem Inv.han (I : Inv X pins σ H s) (a : Addr) : Inv (X.han a) pins σ H s :=
  ⟨⟨I.ok.mod, I.ok.kind, I.ok.glob, I.ok.blt, I.ok.above, I.ok.inj, I.ok.has, I.ok.cab, (fun z => nomatch z), I.ok.frames, I.ok.stk, I.ok.exf, I.ok.bs, I.ok.bsz, I.ok.noex, I.ok.exfs, I.ok.funs, I.ok.frf⟩, I.os, I.bare, I.base, I.loc, I.cell, I.free, I.freeC, I.pin, I.hok, I.len⟩
theorem Inv.unhan (I : Inv (X.han a) pins σ H s) (hd : X.calm = true → X.A.handled = none) : Inv X pins σ H s :=
  ⟨⟨I.ok.mod, I.ok.kind, I.ok.glob, I.ok.blt, I.ok.above, I.ok.inj, I.ok.has, I.ok.cab, hd, I.ok.frames, I.ok.stk, I.ok.exf, I.ok.bs, I.ok.bsz, I.ok.noex, I.ok.exfs, I.ok.funs, I.ok.frf⟩, I.os, I.bare, I.base, I.loc, I.cell, I.free, I.freeC, I.pin, I.hok, I.len⟩
theorem Inv.forget (I : Inv X pins σ H s) : Inv X pins (List.replicate X.N.length none) H s := by
  obtain ⟨m, hn, _⟩ := I.loc
  refine ⟨I.ok, I.os, I.bare, I.base, ⟨m, hn, fun i x v _ e _ => ?_⟩, I.cell, I.free, I.freeC, I.pin, I.hok, List.length_replicate⟩
  rw [List.getElem?_replicate] at e
  split at e <;> cases e
theorem Inv.flown {l : List Env} {h' : Heap} (I : Inv X pins σ H s) (x : Xs s.heap a C dd tb) (F : Fly (hidX X s.heap a tb) l a C dd h') (U : s.heap.UpToSlots h') (hex : X.ex = []) (na : X.s₀.heap.get? a = none)
    (nt : ∀ T, tb = some T → X.s₀.heap.get? T = none ∧ H T = none) (ha : H a = none) (np : ∀ p ∈ X.pn ++ pins, p.1 ≠ a ∧ tb ≠ some p.1) : Inv X pins σ H { s with heap := h' } := by
  have nex : ∀ b, b ∉ X.ex := fun b z => by rw [hex] at z; cases z
  have nb : ∀ b o, X.s₀.heap.get? b = some o → b ≠ a ∧ tb ≠ some b := fun b o e => ⟨fun z => (by rw [z, na] at e; cases e), fun z => (by rw [(nt b z).1] at e; cases e)⟩
  have nl : ∀ b, b ≠ X.env.locals → b ∉ X.fs → b ∉ frs X.stack := fun b h1 h2 z => by
    rcases List.mem_cons.mp (I.stkSub b z) with z | z
    · exact h1 z
    · exact h2 z
  have nrec : ∀ b o, s.heap.get? b = some o → (∀ vs, o.data ≠ .fields vs) → b ≠ a ∧ tb ≠ some b := fun b o e nf => by
    obtain ⟨oa, va, h1, _, _, h4, _⟩ := x.ob
    refine ⟨fun z => ?_, fun z => ?_⟩
    · rw [z, h1] at e
      exact nf va (Option.some.inj e ▸ h4)
    · obtain ⟨_, oT, ts, g1, g2, _⟩ := x.en b z
      rw [g1] at e
      exact nf ts (Option.some.inj e ▸ g2)
  have neL : ∀ b o, X.s₀.heap.get? b = some o → b ≠ X.env.locals := fun b o e => Nat.ne_of_lt (Nat.lt_of_lt_of_le (Heap.lt_size e) I.ok.above)
  obtain ⟨m, hn, hl⟩ := I.loc
  have cellK : ∀ y c v, X.env.cells.lookup y = some c → s.heap.IsCell c v → h'.IsCell c v := fun y c v q hc => by
    obtain ⟨o, e, hd⟩ := hc
    obtain ⟨sl, e'⟩ := U c o e fun vs z => by rw [hd] at z; cases z
    exact ⟨_, e', hd⟩
  refine ⟨I.ok, I.os, I.bare, ⟨fun b o e n nf _ => ?_, fun b o e n hf _ => ?_, I.base.free, fun b o e _ => ?_, I.base.tups, I.base.frzs, I.base.tbls⟩, ⟨m, U.ns hn, fun i y v e1 e2 e3 => ?_⟩, fun y c q => ?_, I.free, I.freeC, fun p hp => ?_, hidX_hok I F.stay ha fun T z => (nt T z).2, I.len⟩
  · exact hidX_keep F.stay (I.base.keep b o e n nf (nex b)) (nl b (neL b o e) nf) (nb b o e).1 (nb b o e).2
  · obtain ⟨sl, e1⟩ := I.base.slot b o e n hf (nex b)
    obtain ⟨_, u, hu, nf⟩ := I.ok.funs.mem hf
    rw [e] at hu
    cases hu
    obtain ⟨sl', e2⟩ := U b _ e1 nf
    exact ⟨sl', e2⟩
  · obtain ⟨u, e1⟩ := I.base.there b o e (nex b)
    by_cases hf : b ∈ frs X.stack
    · obtain ⟨_, u', hu, nf⟩ := I.stack.mem hf
      obtain ⟨sl, z⟩ := U b u' hu nf
      exact ⟨_, z⟩
    · exact ⟨u, hidX_keep F.stay e1 hf (nb b o e).1 (nb b o e).2⟩
  · obtain ⟨u, r, lk⟩ := hl i y v e1 e2 e3
    refine ⟨u, r, ?_⟩
    rcases lk with z | ⟨z, c, q, hc⟩
    · exact .inl z
    · exact .inr ⟨z, c, q, cellK y c _ q hc⟩
  · obtain ⟨v, hc⟩ := I.cell y c q
    exact ⟨v, cellK y c v q hc⟩
  · obtain ⟨p1, p2, p3, p4, p5⟩ := I.pin p hp
    exact ⟨hidX_keep F.stay p1 (nl _ p3 p4) (np p hp).1 (np p hp).2, p2, p3, p4, p5⟩
theorem Inv.goes {M : Model} {A : Around} {E : Value → Shared → Prop} {n : Str} {pos : Pos} {Q : Unit → Shared → Prop} (I : Inv X pins σ H s) (hl : X.env.scope.names.lookup n = some .local)
    (h : ∀ s', Inv X pins (List.replicate X.N.length none) H s' → Q () s') : wpAny M A (do bindName X.env n .none; unbindBehindTheSuite X.env n pos) Q E s := by
  obtain ⟨m, hn, _⟩ := id I.loc
  have hcls : (X.env.scope.kind == .class || (X.env.scope.kind == .module && X.env.locals != X.env.globals)) = false := by rw [I.ok.kind]; rfl
  refine wpAny_nameGoes (n := n) hl hn hcls fun h' m' hn' hs => h _ ?_
  obtain ⟨oL, _, _, hoL, _⟩ := id hn
  have neL : ∀ b o, X.s₀.heap.get? b = some o → b ≠ X.env.locals := fun b o e => Nat.ne_of_lt (Nat.lt_of_lt_of_le (Heap.lt_size e) I.ok.above)
  refine ⟨I.ok, I.os, I.bare, ⟨fun b o e n hb hx => (hs.2 b (neL b o e)).trans (I.base.keep b o e n hb hx), fun b o e n hb hx => ?_, I.base.free, fun b o e hx => ?_, I.base.tups, I.base.frzs, I.base.tbls⟩, ⟨m', hn', fun i x v _ e _ => ?_⟩, fun y c q => ?_, I.free, I.freeC, fun p hp => ?_, fun b ob e => ?_, List.length_replicate⟩
  · obtain ⟨sl, e1⟩ := I.base.slot b o e n hb hx
    exact ⟨sl, (hs.2 b (neL b o e)).trans e1⟩
  · obtain ⟨o', e1⟩ := I.base.there b o e hx
    exact ⟨o', (hs.2 b (neL b o e)).trans e1⟩
  · rw [List.getElem?_replicate] at e
    split at e <;> cases e
  · obtain ⟨v, o, e, hd⟩ := I.cell y c q
    exact ⟨v, o, (hs.2 c (I.cne y c q)).trans e, hd⟩
  · obtain ⟨p1, p2, p3, p4, p5⟩ := I.pin p hp
    exact ⟨(hs.2 p.1 p3).trans p1, p2, p3, p4, p5⟩
  · refine (I.hok b ob e).stay (fun c w' hc q => (hs.2 c ?_).trans q) (fun _ q => q) fun _ _ q => q
    intro z
    rw [z] at hc
    rcases hc with y | y
    · rw [← y, I.free] at e; cases e
    · rw [I.free] at y; cases y
end
end L2
namespace L2
open PySem PySem.Spec PyProof.Rows
section
variable {X : Cx} {pins : List (Addr × Obj)} {σ : St} {H : Hp} {s : Shared} {a C : Addr} {dd tb : Option Addr}
abbrev Cx.pinned (X : Cx) (pn : List (Addr × Obj)) (E : Value → Shared → Prop) : Cx := { X with pn := pn, xe := E }
theorem Cx.Ok.pinned (ok : X.Ok) (pn : List (Addr × Obj)) (E : Value → Shared → Prop) : (X.pinned pn E).Ok :=
  ⟨ok.mod, ok.kind, ok.glob, ok.blt, ok.above, ok.inj, ok.has, ok.cab, ok.hd, ok.frames, ok.stk, ok.exf, ok.bs, ok.bsz, ok.noex, ok.exfs, ok.funs, ok.frf⟩
theorem Cx.Ok.unpinned {pn : List (Addr × Obj)} {E : Value → Shared → Prop} (ok : (X.pinned pn E).Ok) : X.Ok :=
  ⟨ok.mod, ok.kind, ok.glob, ok.blt, ok.above, ok.inj, ok.has, ok.cab, ok.hd, ok.frames, ok.stk, ok.exf, ok.bs, ok.bsz, ok.noex, ok.exfs, ok.funs, ok.frf⟩
theorem Inv.pinX (I : Inv X pins σ H s) (E : Value → Shared → Prop) : Inv (X.pinned (X.pn ++ pins) E) [] σ H s :=
  ⟨I.ok.pinned _ E, I.os, I.bare, I.base, I.loc, I.cell, I.free, I.freeC, fun p hp => I.pin p (by rwa [List.append_nil] at hp), I.hok, I.len⟩
theorem Inv.unpinX {ps : List (Addr × Obj)} {E : Value → Shared → Prop} (I : Inv (X.pinned (X.pn ++ pins) E) ps σ H s) : Inv X pins σ H s :=
  ⟨I.ok.unpinned, I.os, I.bare, I.base, I.loc, I.cell, I.free, I.freeC, fun p hp => I.pin p (List.mem_append_left _ hp), I.hok, I.len⟩
theorem Inv.trackX (I : Inv X pins σ H s) (x : Xs s.heap a C dd tb) (hex : X.ex = []) (na : X.s₀.heap.get? a = none) (ha : H a = none) (np : ∀ p ∈ X.pn ++ pins, p.1 ≠ a) : Inv X pins σ (upd H a (XO a C dd)) s := by
  obtain ⟨oa, va, h1, _, _, h4, _⟩ := x.ob
  have nrec : ∀ b o, s.heap.get? b = some o → (∀ vs, o.data ≠ .fields vs) → b ≠ a := fun b o e nf z => by
    rw [z, h1] at e
    exact nf va (Option.some.inj e ▸ h4)
  obtain ⟨m, hn, hl⟩ := id I.loc
  have nL : X.env.locals ≠ a := by
    obtain ⟨o, es, ep, e, hd, _⟩ := id hn
    exact nrec _ o e fun vs z => by rw [hd] at z; cases z
  refine ⟨I.ok, I.os, I.bare, ⟨I.base.keep, I.base.slot, fun b o e n nx => ?_, I.base.there, fun b xs q => ?_, fun b o u q => ?_, fun b ps q => ?_⟩, I.loc, I.cell, ?_, fun y c q => ?_, fun p hp => ?_, fun b o q => ?_, I.len⟩
  · rw [upd_ne (fun z => by rw [z, na] at e; cases e)]; exact I.base.free b o e n nx
  · have := I.base.tups b xs q
    rw [upd_ne (ne_of_none this ha)]; exact this
  · have := I.base.frzs b o u q
    rw [upd_ne (ne_of_none this ha)]; exact this
  · obtain ⟨more, this⟩ := I.base.tbls b ps q
    exact ⟨more, by rw [upd_ne (ne_of_none this ha)]; exact this⟩
  · rw [upd_ne nL]; exact I.free
  · obtain ⟨v, o, e, hd⟩ := I.cell y c q
    rw [upd_ne (nrec c o e fun vs z => by rw [hd] at z; cases z)]; exact I.freeC y c q
  · obtain ⟨p1, p2, p3, p4, p5⟩ := I.pin p hp
    exact ⟨p1, by rw [upd_ne (np p hp)]; exact p2, p3, p4, p5⟩
  · by_cases hb : b = a
    · subst hb; rw [upd_same] at q; cases q; exact xo_ok x
    · rw [upd_ne hb] at q
      refine (I.hok b o q).stay (fun _ _ _ z => z) (fun c z => ?_) fun c xs z => ?_
      · rw [upd_ne (ne_of_none z ha)]; exact z
      · rw [upd_ne (ne_of_none z ha)]; exact z
def tTry (K : PySem.W.Frag) (TE : Addr) (len i : Nat) (E : XK) (tb : TS) (th : Addr → TS) : TS := fun D σ H => tb D σ H ∧
  ∀ (C : Addr) (dd : Option Addr) (H' : Hp) (a : Addr), E (.ref C) dd H' → H' a = none → PySem.W.exmOne K (.ref C) (.ref TE) = some true ∧ th a { nx := fun _ _ => False, rt := D.rt } ((List.replicate len none).set i (some (.ref a))) (upd H' a (XO a C dd))
theorem ps_try {E : XK} {body suite : List Stmt} {b₀ : Stmt} {tn n : Str} {tp hp pos : Pos} {tb : TS} {th : Addr → TS} {i : Nat} {TE : Addr} (hN : X.N.Nodup) (hi : X.N[i]? = some n) (hl : X.env.scope.names.lookup n = some .local) (hex : X.ex = [])
    (hst : X.stack = X.env :: X.outer) (hfr : X.env.frame = some X.env.locals) (hg : Gl X tn) (hm : X.mg tn = some (.ref TE)) (hb : ∀ pn Eh, Rzs (X.pinned pn Eh) E → PSs (X.pinned pn Eh) body tb) (hs : ∀ a, PSs (X.han a) (b₀ :: suite) (th a))
    (hdb : (tn == ("__debug__" : Str)) = false := by decide) :
    PS X (.Try body [.ExceptHandler (some (.Name tn tp)) (some n) (b₀ :: suite) hp] [] [] pos) (tTry X.K TE X.N.length i E tb th) := by
  intro pins s σ H D I h
  obtain ⟨h1, h2⟩ := h
  refine wpAny_Try_except ?_
  refine wpAny_mono (hb (X.pn ++ pins) _ (fun pins' σ' H' s' a C dd tb I' x na nt ha np q => ?_) [] s σ H D (I.pinX _) h1) (fun f s1 q => ?_) fun _ _ z => z
  · have J : Inv X pins σ' H' s' := I'.unpinX
    have np' : ∀ p ∈ X.pn ++ pins, p.1 ≠ a ∧ tb ≠ some p.1 := fun p hp => np p (List.mem_append_left _ hp)
    have F := x.fly J
    have F' := F
    rw [hst] at F'
    refine fly_note (by rw [← hst]; exact J.ok.frames) hfr F' fun g1 F1 U1 => ?_
    have J1 := J.flown x F1 U1 hex na nt ha np'
    obtain ⟨tb1, x1, nt1, nw1⟩ := Xs.of_fly J F1 U1 nt
    have np1 : ∀ p ∈ X.pn ++ pins, p.1 ≠ a ∧ tb1 ≠ some p.1 := fun p hp => ⟨(np' p hp).1, fun z => by
      rcases nw1 _ z with y | y
      · exact (np' p hp).2 y
      · have := (J.pin p hp).1
        rw [y] at this; cases this⟩
    obtain ⟨oa, va, e1, e2, e3, e4, _⟩ := x1.ob
    obtain ⟨em, hth⟩ := h2 C dd H' a q ha
    refine wpAny_handleBy_cons (codeAny_handlers_test ?_) (by intro z; cases z)
    refine ld_glob (J1.han a) hg hm ?_ hdb
    have LT : PySem.W.Looks (model X.prog X.w) g1 (typeOf (.ref a)) (.ref C) := e2 ▸ (PySem.W.Looks.ld e1).andThen .now
    refine (PySem.W.exm_one J1.kIn LT em).here ?_
    refine codeAny_handlers_suite_as ?_
    have F2 := x1.fly J1
    refine fly_land F2 fun g2 F2' U2 => ?_
    have J2 := J1.flown x1 F2' U2 hex na (fun T z => nt1 T z hex) ha np1
    obtain ⟨tb2, x2, nt2, nw2⟩ := Xs.of_fly J1 F2' U2 (fun T z => nt1 T z hex)
    have J3 := (J2.trackX x2 hex na ha fun p hp => (np1 p hp).1).forget
    refine store_ok J3 hN hi (.inl hl) (show RelV (.ref a) (.ref a) from rfl) (fun s4 J4 => ?_) (.inr hl)
    refine wpAny_mono (hs a pins s4 _ _ _ (J4.han a) hth) (fun f s5 q5 => ?_) fun _ _ z => z.elim
    cases f with
    | next => exact (q5.elim fun _ y => y.elim fun _ y => y.2).elim
    | brk => exact (q5.elim fun _ y => y.elim fun _ y => y.2).elim
    | cont => exact (q5.elim fun _ y => y.elim fun _ y => y.2).elim
    | ret u =>
      obtain ⟨v, σ5, H5, J5, r5, d5⟩ := q5
      exact (J5.unhan I.ok.hd).goes hl fun s6 J6 => ⟨v, _, H5, J6, r5, d5⟩
  · cases f with
    | next =>
      obtain ⟨σ', H', J, d⟩ := q
      exact wpAny_execs_nil ⟨σ', H', J.unpinX, d⟩
    | brk => obtain ⟨σ', H', J, d⟩ := q; exact ⟨σ', H', J.unpinX, d⟩
    | cont => obtain ⟨σ', H', J, d⟩ := q; exact ⟨σ', H', J.unpinX, d⟩
    | ret u => obtain ⟨v, σ', H', J, r, d⟩ := q; exact ⟨v, σ', H', J.unpinX, r, d⟩
end
end L2
namespace L2
open PySem PySem.Spec PyProof.Rows
section
variable {prog : Program} {w : World} {A : Around} {E : Value → Shared → Prop} {h : Heap} {g : Array GenState} {d : Drawn} {t : Nat} {os : OsState} {C x : Addr} {ox : Obj} {od : Option Obj} {K : PySem.W.Frag}
variable {nm q : Str} {N TE : Addr} {bs bmB : List Value} {sn : List Str} {sub : List Value} {ab : Bool} {col : Option Bool} {dd : Option Addr} {k0 k1 k2 k3 k5 : Option Value} {newId : String} {name : Str} {tk : Tok}
def XcO (K : PySem.W.Frag) (C : Addr) : Prop := ∃ (nm q : Str) (N TE : Addr) (bs : List Value) (sn : List Str) (sub : List Value) (ab : Bool) (col : Option Bool) (dd : Option Addr) (k0 k1 k2 k3 k5 : Option Value) (newId : String), K.lookup C = some (excClassObj nm q C N bs (.ref TE :: VE) true sn sub ab col dd k0 k1 k2 k3 k5 newId)
theorem xg_kind : builtinKind "BaseException.__getattribute__" = some Manifest.AttrKind.slot := by decide +kernel
theorem xg_split : splitId "BaseException.__getattribute__" = some ("BaseException", "__getattribute__") := by decide +kernel
theorem xg_plain : plainId "BaseException.__getattribute__" = true := by decide +kernel
theorem xg_check {M : Model} {nv : Value} {Q : Unit → Shared → Prop} (hC : h.get? C = some (excClassObj nm q C N bs (.ref TE :: VE) true sn sub ab col dd k0 k1 k2 k3 k5 newId))
    (hx : h.get? x = some ox) (hc : ox.cls = .ref C) (hq : Q () ⟨h, g, d, t, os⟩) : wpAny M A (checkBuiltinCall "BaseException.__getattribute__" ⟨[.ref x, nv], []⟩) Q E ⟨h, g, d, t, os⟩ := by
  have hcO : (Value.ref C :: Value.ref TE :: VE).contains (.type "BaseException") = true := by
    rw [List.contains_cons, List.contains_cons]; simp
  have ha := PySem.F.args_bexc_ga (.ref x) nv
  simp only [checkBuiltinCall, xg_kind, xg_split]
  refine wpAny_bind ?_
  unfold isInstance
  repeat (first | (with_reducible refine wpAny_loadPart_at hx ?_; rw [hc]) | (with_reducible refine wpAny_isSubtype_exc hC ?_; rw [hcO]) | wp_step)
  exact hq
theorem xg_value {v : Value} {Q : PySem.Fin → Shared → Prop} (X : K.In h) (I : PySem.W.InstAt h x ox C od) (fo : PySem.W.findObj K C od name = some (.value v)) (hq : Q (.done (.ret v)) ⟨h, g, d, t, os⟩) :
    wpAny (model prog w) A (Builtin.«object.__getattribute__» ⟨[.ref x, .str name tk], []⟩) Q E ⟨h, g, d, t, os⟩ := by
  have hx := I.at_
  have hc := I.cls
  unfold Builtin.«object.__getattribute__» slotArgs
  repeat (first | (with_reducible refine wpAny_loadPart_at hx ?_; rw [hc]) | with_reducible refine (PySem.W.looks_find X I fo).at ?_ | wp_step)
  exact hq
theorem xg_class {Q : PySem.Fin → Shared → Prop} (X : K.In h) (I : PySem.W.InstAt h x ox C od) (fo : PySem.W.findObj K C od name = some (.bind (.builtin "getset_descriptor.__get__") (.builtin "object.__class__"))) (mo : PySem.W.mroIn K C (.type "object") = some true) (hq : Q (.done (.ret (.ref C))) ⟨h, g, d, t, os⟩) :
    wpAny (model prog w) A (Builtin.«object.__getattribute__» ⟨[.ref x, .str name tk], []⟩) Q E ⟨h, g, d, t, os⟩ := by
  have hx := I.at_
  have hc := I.cls
  unfold Builtin.«object.__getattribute__» slotArgs
  repeat (first | (with_reducible refine wpAny_loadPart_at hx ?_; rw [hc]) | with_reducible refine (PySem.W.looks_find X I fo).at ?_ | wp_step)
  refine PySem.W.class_get (s := ⟨h, g, d, t, os⟩) (ox := ox) (od := od) X I mo ?_
  exact wpAny_pure hq
theorem xg_by {v : Value} {fill expr : Bool} {Q : Value → Shared → Prop} (X : K.In h) (I : PySem.W.InstAt h x ox C od) (g1 : PySem.W.findIn K (.ref C) "__getattribute__" = some (some (.builtin "BaseException.__getattribute__"))) (g2 : PySem.W.findIn K (.ref C) "__getattr__" = some none)
    (hcall : ∀ (A : Around) (R : Result → Shared → Prop), R (.ok (.ret v)) ⟨h, g, d, t, os⟩ → codeAny (model prog w) A (.call (.builtin "BaseException.__getattribute__") ⟨[.ref x, .str name tk], []⟩) R ⟨h, g, d, t, os⟩) (hv : PySem.W.handedIn v = true) (hq : Q v ⟨h, g, d, t, os⟩) :
    wpAny (model prog w) A (getAttrBy (.ref x) (.str name tk) fill expr) Q E ⟨h, g, d, t, os⟩ := by
  have hx := I.at_
  have hc := I.cls
  have f3 := (PySem.F.excAttr_ValueError).ga.bind (.ref x)
  unfold getAttrBy getAttrByItsOwn hookBefore callGetattribute boundAndCalled
  repeat (first | assumption | (with_reducible refine wpAny_loadPart_at hx ?_; rw [hc]) | with_reducible refine (PySem.W.looks_findIn X g1).at ?_ | with_reducible refine (PySem.W.looks_findIn X g2).at ?_ | wp_step)
  rw [if_neg (by rw [show onTheHeap (Value.builtin "BaseException.__getattribute__") = false from rfl, Bool.and_false]; exact Bool.false_ne_true), f3]
  repeat (first | wp_step)
  refine hcall _ _ ?_
  exact PySem.W.handed_on hv hq
theorem xg_call {v : Value} {A : Around} {R : Result → Shared → Prop} (hC : h.get? C = some (excClassObj nm q C N bs (.ref TE :: VE) true sn sub ab col dd k0 k1 k2 k3 k5 newId)) (X : K.In h) (I : PySem.W.InstAt h x ox C od) (fo : PySem.W.findObj K C od name = some (.value v))
    (hq : R (.ok (.ret v)) ⟨h, g, d, t, os⟩) : codeAny (model prog w) A (.call (.builtin "BaseException.__getattribute__") ⟨[.ref x, .str name tk], []⟩) R ⟨h, g, d, t, os⟩ :=
  codeAny_call_builtin xg_plain PySem.F.entry_bexc_ga (xg_check hC I.at_ I.cls (xg_value X I fo hq))
theorem xg_callC {A : Around} {R : Result → Shared → Prop} (hC : h.get? C = some (excClassObj nm q C N bs (.ref TE :: VE) true sn sub ab col dd k0 k1 k2 k3 k5 newId)) (X : K.In h) (I : PySem.W.InstAt h x ox C od) (fo : PySem.W.findObj K C od name = some (.bind (.builtin "getset_descriptor.__get__") (.builtin "object.__class__"))) (mo : PySem.W.mroIn K C (.type "object") = some true)
    (hq : R (.ok (.ret (.ref C))) ⟨h, g, d, t, os⟩) : codeAny (model prog w) A (.call (.builtin "BaseException.__getattribute__") ⟨[.ref x, .str name tk], []⟩) R ⟨h, g, d, t, os⟩ :=
  codeAny_call_builtin xg_plain PySem.F.entry_bexc_ga (xg_check hC I.at_ I.cls (xg_class X I fo mo hq))
end
structure XCl (K : PySem.W.Frag) (C : Addr) : Prop where
  g1 : PySem.W.findIn K (.ref C) "__getattribute__" = some (some (.builtin "BaseException.__getattribute__"))
  g2 : PySem.W.findIn K (.ref C) "__getattr__" = some none
  ob : XcO K C
  hd : PySem.W.hasDictIn K C = true
  ha : PySem.W.findIn K (.ref C) "__class__" = some (some (.builtin "object.__class__"))
  hn : PySem.W.specialIn K (.builtin "object.__class__") "__get__" = some (some (.builtin "getset_descriptor.__get__"))
  tk : PySem.W.takesIn K (.builtin "object.__class__") = some true
  hm : PySem.W.mroIn K C (.type "object") = some true
theorem kitx_exc {K : PySem.W.Frag} {C a : Addr} (x : XCl K C) : PySem.W.KitX K (.ref a) (.ref C) (fun h => ∃ ox od, PySem.W.InstAt h a ox C od) where
  ty := fun _ _ _ I => I.elim fun _ I => I.elim fun _ I => I.type
  it := fun _ _ X _ => by
    obtain ⟨cd, hc, _⟩ := PySem.W.any_some x.hd
    unfold PySem.W.clsIn at hc
    split at hc
    · rename_i ho
      intro A' Q' E' s' k q
      unfold isType loadHead
      exact wpAny_bind (wpAny_loadPart (k _ _ (X _ _ ho)) (wpAny_pure q))
    · cases hc
  ne := fun h tp dd its n sl X htp => by
    obtain ⟨cd, hc, _⟩ := PySem.W.any_some x.hd
    refine Bool.eq_false_iff.mpr fun q => ?_
    cases Value.ref.inj (beq_iff_eq.mp q)
    unfold PySem.W.clsIn at hc
    split at hc
    · rename_i ho
      have z := (X _ _ ho).symm.trans htp
      cases z
    · cases hc
  ca := fun {prog w A E Q s} X I k => by
    obtain ⟨ox, od, I⟩ := I
    have hf : PySem.W.findObj K C od "__class__" = some (.bind (.builtin "getset_descriptor.__get__") (.builtin "object.__class__")) := by
      obtain ⟨cd, hc, _⟩ := PySem.W.any_some x.hd
      unfold PySem.W.findObj
      rw [hc, Option.bind_some, x.ha, Option.bind_some]
      simp only [x.hn, Option.bind_some, x.tk]
    obtain ⟨nm, q, N, TE, bs, sn, sub, ab, col, dd, k0, k1, k2, k3, k5, nid, hC⟩ := x.ob
    obtain ⟨hp, g, d, t, os⟩ := s
    unfold getAttr? getAttrBy?
    refine wpAny_bind (wpAny_mkText ?_)
    refine wpAny_bind (wpAny_attempt ?_)
    refine xg_by X I x.g1 x.g2 (fun A R hR => xg_callC (X _ _ hC) X I hf x.hm hR) rfl (wpAny_pure k)
section
variable {X : Cx} {pins : List (Addr × Obj)} {σ : St} {H : Hp} {s : Shared} {a C : Addr} {dd : Option Addr}
theorem xo_at (I : Inv X pins σ H s) (e : H a = some (XO a C dd)) (hd : ∀ dx, dd = some dx → ∃ o, H dx = some o) : ∃ ox od, PySem.W.InstAt s.heap a ox C od := by
  obtain ⟨⟨o, vs, h1, h2, h3, h4⟩, _, _⟩ := (show ObjOk X.prog X.w H s.heap a (XO a C dd) from I.hok a _ e)
  have nc : PySem.W.notCls o = true := by unfold PySem.W.notCls; rw [h4]
  cases dd with
  | none => exact ⟨o, none, h1, h2, nc, by rw [h3]; trivial⟩
  | some dx =>
    obtain ⟨u, hu⟩ := hd dx rfl
    obtain ⟨od, z⟩ := (I.hok dx u hu).there
    exact ⟨o, some od, h1, h2, nc, by rw [h3]; exact z⟩
abbrev rIsx (K : PySem.W.Frag) : List V → Hp → VK → Prop := fun xs H Q => ∃ a C dd c T b, xs = [.ref a, c] ∧ (c = .ref T ∧ PySem.W.kitOne K (.ref C) (.ref T) = some b) ∧ H a = some (XO a C dd) ∧ (∀ dx, dd = some dx → ∃ o, H dx = some o) ∧ XCl K C ∧ Q (.bl b) H
theorem call_isx : CallR X (.builtin "isinstance") (rIsx X.K) := by
  intro pins s σ H xs us Q I r h
  obtain ⟨a, C, dd, c, T, b, rfl, ⟨rfl, k⟩, e, hd, xc, q⟩ := h
  obtain ⟨u, w', rfl, r1, r2⟩ := vals2 r
  obtain rfl : u = Value.ref a := r1
  obtain rfl : w' = Value.ref T := r2
  exact PySem.W.kia_one (kitx_exc xc) I.kIn (xo_at I e hd) k (fun z => nomatch z) fun tk => ⟨.bl b, H, I.tok tk, rfl, q⟩
abbrev rIst (K : PySem.W.Frag) : List V → Hp → VK → Prop := fun xs H Q => ∃ a C dd c T b, xs = [.ref a, c] ∧ (c = .ty T ∧ PySem.W.kitOne K (.ref C) (.type T) = some b) ∧ H a = some (XO a C dd) ∧ (∀ dx, dd = some dx → ∃ o, H dx = some o) ∧ XCl K C ∧ Q (.bl b) H
theorem call_ist : CallR X (.builtin "isinstance") (rIst X.K) := by
  intro pins s σ H xs us Q I r h
  obtain ⟨a, C, dd, c, T, b, rfl, ⟨rfl, k⟩, e, hd, xc, q⟩ := h
  obtain ⟨u, w', rfl, r1, r2⟩ := vals2 r
  obtain rfl : u = Value.ref a := r1
  obtain rfl : w' = Value.type T := r2
  exact PySem.W.kia_one (kitx_exc xc) I.kIn (xo_at I e hd) k (fun z => nomatch z) fun tk => ⟨.bl b, H, I.tok tk, rfl, q⟩
abbrev rIsu (K : PySem.W.Frag) : List V → Hp → VK → Prop := fun xs H Q => ∃ (a C : Addr) (dd : Option Addr) (tp : Addr) (Ts : List Addr) (b : Bool), xs = [.ref a, .ref tp] ∧ H tp = some (.tup (Ts.map V.ref)) ∧ PySem.W.kitAny K (.ref C) (Ts.map Value.ref) = some b ∧ H a = some (XO a C dd) ∧ (∀ dx, dd = some dx → ∃ o, H dx = some o) ∧ XCl K C ∧ Q (.bl b) H
theorem vals_refs : ∀ {Ts : List Addr} {us : List Value}, Vals (Ts.map V.ref) us → us = Ts.map Value.ref
  | [], _, .nil => rfl
  | _ :: _, _, .cons r t => by rw [vals_refs t]; exact congrArg (· :: _) r
theorem call_isu : CallR X (.builtin "isinstance") (rIsu X.K) := by
  intro pins s σ H xs us Q I r h
  obtain ⟨a, C, dd, tp, Ts, b, rfl, ht, k, e, hd, xc, q⟩ := h
  obtain ⟨u, w', rfl, r1, r2⟩ := vals2 r
  obtain rfl : u = Value.ref a := r1
  obtain rfl : w' = Value.ref tp := r2
  obtain ⟨_, its, rv, o, h1, h2, n, h3⟩ := (show ObjOk X.prog X.w H s.heap tp (.tup (Ts.map V.ref)) from I.hok tp _ ht)
  cases vals_refs rv
  obtain ⟨oc, od, odt, osl⟩ := o
  dsimp only at h2 h3
  subst h2 h3
  exact PySem.W.kia_tup (kitx_exc xc) I.kIn (xo_at I e hd) h1 k (fun z => nomatch z) fun tk => ⟨.bl b, H, I.tok tk, rfl, q⟩
def tXf (K : PySem.W.Frag) (ta : TE) (f : Str) : TE := fun σ H Q => ta σ H fun x H1 => ∃ a C dx v, x = .ref a ∧ H1 a = some (XO a C (some dx)) ∧ H1 dx = some (.xd [(f, v)]) ∧ XCl K C ∧ NoAttr K C f ∧ Q v H1
theorem pe_xf {e : Expr} {f : Str} {pos : Pos} {ta : TE} (he : PE X e ta) (hb : attributeBase e f X.env (eval e X.env) = eval e X.env) : PE X (.Attribute e f pos) (tXf X.K ta f) := by
  intro pins s σ H Q I h
  refine attr_of hb (thn (he pins s σ H _ I h) fun u s1 zz => el5 zz fun x H1 I1 rx q => ?_)
  obtain ⟨a, C, dx, v, rfl, e1, e2, xc, nf, q⟩ := q
  obtain rfl : u = Value.ref a := rx
  obtain ⟨⟨o, vs, h1, h2, h3, h4⟩, _, _⟩ := (show ObjOk X.prog X.w H1 s1.heap a (XO a C (some dx)) from I1.hok a _ e1)
  obtain ⟨mA, hn, hr⟩ := (show ObjOk X.prog X.w H1 s1.heap dx (.xd [(f, v)]) from I1.hok dx _ e2)
  obtain ⟨od, ho, hl⟩ := lookIn_ns hn
  have nc : PySem.W.notCls o = true := by unfold PySem.W.notCls; rw [h4]
  have J : PySem.W.InstAt s1.heap a o C (some od) := ⟨h1, h2, nc, by rw [h3]; exact ho⟩
  obtain ⟨u, hu, ru⟩ := RelO.some_of (v := v) (o := mA f) (by have := hr f; simpa [List.lookup] using this)
  obtain ⟨nm, q', N, TE, bs, sn, sub, ab, col, dd, k0, k1, k2, k3, k5, nid, hC⟩ := xc.ob
  have KX := I1.kIn
  have I2 := I1.tok (s1.toks + 1)
  obtain ⟨hp, g, d, t, os⟩ := s1
  unfold getAttr
  refine wpAny_bind (wpAny_mkText ?_)
  exact xg_by KX J xc.g1 xc.g2 (fun A R hR => xg_call (KX _ _ hC) KX J (PySem.W.findObj_own xc.hd nf rfl (by rw [hl, hu])) hR) (handed_of ru) ⟨v, H1, I2, ru, q⟩
end
end L2
namespace L2
open PySem PySem.Spec PyProof.Rows
structure RoomN (k : Nat) (A : Around) : Prop where
  dp : A.depth + 3 * k + 5 < recursionLimit
  un : A.units + 16 * k + 200 < cLine
  gd : A.guards = some []
theorem Room.han {k : Nat} {X : Cx} (r : Room k X.A) (a : Addr) : RoomN k (X.han a).A := ⟨r.dp, r.un, r.gd⟩
theorem RoomN.deeper {k : Nat} {A : Around} (r : RoomN (k + 1) A) (env : Env) : RoomN k (A.deeper env) :=
  ⟨by have := r.dp; show A.depth + 1 + 3 * k + 5 < _; lia, by have := r.un; show A.units + 3 + 16 * k + 200 < _; lia, r.gd⟩
theorem RoomN.depth {k : Nat} {A : Around} (r : RoomN k A) : A.depth < recursionLimit := by have := r.dp; lia
theorem RoomN.mono {j k : Nat} {A : Around} (r : RoomN k A) (h : j ≤ k) : RoomN j A := ⟨by have := r.dp; lia, by have := r.un; lia, r.gd⟩
abbrev cxN (P : Program) (w : World) (K : PySem.W.Frag) (mg : Str → Option Value) (base : Heap) (N : List Str) (qual : Str) (scope : Scope) (f : Addr) (cd : Value) (A : Around) (outer : List Env) (s : Shared) (H : Hp) : Cx :=
  { cxOf (fun _ _ _ _ _ _ => False) P w K mg base N qual scope f cd A outer s H (fun _ _ _ => False) with calm := false, xe := fun _ _ => False }
abbrev SpN := List V → Hp → VK → Prop
structure FnOkN (P : Program) (w : World) (K : PySem.W.Frag) (mg : Str → Option Value) (base : Heap) (k : Nat) (f : Addr) (fd : FuncData) (ps : List Str) (sp : SpN) : Prop where
  len : ∀ vs H Q, sp vs H Q → vs.length = ps.length
  run : ∀ (A : Around) (outer : List Env) (s : Shared) (H : Hp) (args : Args) (us : List Value) (vs : List V) (Q : VK), RoomN k A → Env0 P w K mg base A outer s H → BindsTo s fd args (ps.zip us) → Vals vs us → sp vs H Q →
    codeAny (model P w) A (.call (.ref f) args) (fun r s' => ∃ u, r = .ok (.ret u) ∧ CE outer P w H s Q u s') s
theorem fn_ofN {P : Program} {w : World} {K : PySem.W.Frag} {mg : Str → Option Value} {base : Heap} {k : Nat} {f : Addr} {name qual : Str} {params : Arguments} {body : List Stmt} {scope : Scope} {dV kV doc pm cdv ct oc : Value} {an od : Option Addr}
    {osl : Array (Option Value)} {N ps : List Str} {sp : SpN} (lk : K.lookup f = some ⟨oc, od, .func (PySem.W.fnOf name qual params body scope dV kV doc pm an cdv ct), osl⟩) (hcd : PySem.W.codeIn K cdv qual = true) (S : FnScope N ps scope)
    (len : ∀ vs H Q, sp vs H Q → vs.length = ps.length)
    (hbody : ∀ (A : Around) (outer : List Env) (s : Shared) (H : Hp) (vs : List V) (Q : VK), RoomN k (A.deeper (envOfC qual scope s.heap.objs.size f cdv)) → sp vs H Q →
      ∃ t, PSs (cxN P w K mg base N qual scope f cdv A outer s H) body t ∧ t { nx := fun _ H' => Q .non H', rt := Q } (start N vs) H) :
    FnOkN P w K mg base (k + 1) f (PySem.W.fnOf name qual params body scope dV kV doc pm an cdv ct) ps sp := by
  refine ⟨len, fun A outer s H args us vs Q hr e0 hb r hsp => ?_⟩
  have hl := len _ _ _ hsp
  have KX : K.In s.heap := e0.mod.kin.keeps fun b o e => (e0.bs b o e).1
  have lim : s.heap.NoLimit := e0.mod.nolimit.keeps fun b o e => (e0.bs b o e).1
  have hkind : ∀ y ∈ ps.zip us, scope.names.lookup y.1 = some .local ∨ (scope.names.lookup y.1 = some .cell ∧ ((cellsFrom (s.heap.objs.size + 1) scope.names []).lookup y.1).isSome = true) := fun ⟨n, v⟩ hy => by
    rcases S.par n (List.of_mem_zip hy).1 with q | q
    · exact .inl q
    · exact .inr ⟨q, PySem.W.cellsFrom_some _ _ _ (.inl q)⟩
  refine codeAny_call_function hr.depth (KX _ _ lk) rfl S.co S.gen rfl (PySem.W.codeRec_of KX hcd) (hb _ _ _ _ ?_)
  refine wpAny_newFunctionEnv_cells S.kind hkind fun env he s1 x => ?_
  subst he
  refine ⟨lim.keeps x.toInCall.keep, codeAny_func ?_⟩
  obtain ⟨t, ht, hq⟩ := hbody A outer s H vs Q (hr.deeper _) hsp
  have I0 : Inv (cxOf (fun _ _ _ _ _ _ => False) P w K mg base N qual scope f cdv { A with handled := none } outer s H fun _ _ _ => False) [] (start N vs) H s1 :=
    inv_start S rfl ⟨e0.frames, e0.mod, e0.bs, e0.bsz, e0.funs, e0.frf, e0.hok, e0.bare⟩ hl r x
  have I : Inv (cxN P w K mg base N qual scope f cdv A outer s H) [] (start N vs) H s1 :=
    ⟨⟨I0.ok.mod, I0.ok.kind, I0.ok.glob, I0.ok.blt, I0.ok.above, I0.ok.inj, I0.ok.has, I0.ok.cab, (fun z => nomatch z), I0.ok.frames, I0.ok.stk, I0.ok.exf, I0.ok.bs, I0.ok.bsz, I0.ok.noex, I0.ok.exfs, I0.ok.funs, I0.ok.frf⟩, I0.os, I0.bare, I0.base, I0.loc, I0.cell, I0.free, I0.freeC, I0.pin, I0.hok, I0.len⟩
  refine wpAny_mono (ht [] s1 (start N vs) H _ I hq) (fun fl s' hs => ?_) fun e s' hs => hs.elim
  have fin : ∀ {σ' : St} {H' : Hp} {v : V} {u : Value}, Inv (cxN P w K mg base N qual scope f cdv A outer s H) [] σ' H' s' → RelV v u → Q v H' → CE outer P w H s Q u s' :=
    fun {σ' H' v u} J rv q => ⟨v, H', J.os, J.bare, J.base, J.hok, rv, q⟩
  cases fl with
  | ret u =>
    obtain ⟨v, σ', H', J, rv, q⟩ := hs
    exact ⟨u, rfl, fin J rv q⟩
  | next =>
    obtain ⟨σ', H', J, q⟩ := hs
    exact ⟨.none, rfl, fin (v := V.non) (u := Value.none) J rfl q⟩
  | brk =>
    obtain ⟨_, _, _, q⟩ := hs
    exact False.elim q
  | cont =>
    obtain ⟨_, _, _, q⟩ := hs
    exact False.elim q
section
variable {X : Cx} {k : Nat} {f : Addr} {fd : FuncData} {ps : List Str} {sp : SpN} {x : Str} {p pos : Pos} {e : Expr} {es : List Expr} {t : TA}
def tCallN (sp : SpN) (t : TA) : TE := fun σ H Q => t σ H fun vs H1 => sp vs H1 Q
theorem pe_callN (F : FnOkN X.prog X.w X.K X.mg X.base k f fd ps sp) (hr : RoomN k X.A) (hg : Gl X x) (hm : X.mg x = some (.ref f)) (hk : PySem.W.keepIn X.K (.ref f) = true) (hb : Binds X.K fd ps [])
    (ha : PA X (e :: es) t) (hdb : (x == ("__debug__" : Str)) = false := by decide) (he : starEach (e :: es) X.env = (false, eval e X.env) :: starEach es X.env := by rfl) (hpl : (backTo pos (starEach es X.env)).any (·.1) = false := by rfl) :
    PE X (.Call (.Name x p) (e :: es) [] pos) (tCallN sp t) := by
  intro pins s σ H Q I h
  refine wpAny_Call_Name_kw (ld_glob I hg hm ?_ hdb)
  refine PySem.W.callWith_K (h₀ := X.base) I.ok.mod.kin hk (thn (ha pos pins s σ H _ I h) fun us s1 zz => el5 zz fun vs H1 I1 r q => ⟨I1.kIn, ?_⟩) he hpl
  have hl : (us ++ []).length = ps.length := by rw [List.append_nil, ← r.length]; exact F.len _ _ _ q
  have hb' := hb s1 us I1.kIn hl
  rw [List.append_nil] at hb'
  refine wpAny_call (codeAny_mono (F.run X.A X.stack s1 H1 ⟨us, []⟩ us vs Q hr I1.env0 hb' r q) fun r s' hq => ?_)
  obtain ⟨u, rfl, hc⟩ := hq
  exact I1.after hc
end
end L2
namespace My
open PySem L2
open PySem.Spec
abbrev DSpX := List PyData → (PyData → Prop) → (Addr → Int → Prop) → Prop
def spDX (ms : List Md) (fld : Str) (sp : DSpX) : Sp := fun vs H Q E => ∃ F hand ds Qd Ex, ((∀ b, H b = none → F b) ∧ ∀ b xs, H b = some (.tup xs) → F b) ∧ (∀ q, hand = some q → ¬ F q.1) ∧ Hq hand H ∧ ArgsR F hand H ms vs ds ∧ sp ds Qd Ex ∧
  (∀ d v H', Qd d → ThV F H' v d → Kq hand H H' → Hq hand H' → Q v H') ∧ ∀ (C : Addr) (k : Int) (dx : Addr) (H' : Hp), Ex C k → Kq hand H H' → Hq hand H' → H' dx = some (.xd [(fld, .int k)]) → E (.ref C) (some dx) H'
def ExOk (C : DC) (fld : Str) (Ex : Addr → Int → Prop) (E : XK) : Prop := ∀ (Cl : Addr) (k : Int) (dx : Addr) (ρ : List Sl) (σ : St) (P : List Pe) (H' : Hp), Ex Cl k → Rel C ρ σ P H' → H' dx = some (.xd [(fld, .int k)]) → E (.ref Cl) (some dx) H'
section
variable {P : Program} {w : World} {K : PySem.W.Frag} {mg : Str → Option Value} {base : Heap}
open Classical in
theorem fn_dX {x qual fld : Str} {st : Stmt} {f : Addr} {fd : FuncData} {N ps : List Str} {k : Nat} {sp : DSpX} {ms : List Md} (F : Fun K x qual st f fd) (S : FnScope N ps (defScope st)) (hm : ms.length = ps.length)
    (hb : ∀ (C : DC) (cdv : Value) (A : Around) (outer : List Env) (s : Shared) (H : Hp) (E : XK) (Ex : Addr → Int → Prop), ExOk C fld Ex E → Room k (A.deeper (PyProof.Rows.envOfC qual (defScope st) s.heap.objs.size f cdv)) →
      ∃ t, PSs (cxOf (CXe P w) P w K mg base N qual (defScope st) f cdv A outer s H E) (defBody st) (sOf C t) ∧ ∀ ds Q, ds.length = ms.length → sp ds Q Ex → t { nx := fun _ => Q .none, rt := Q } (startN N ms ds)) :
    FnOk P w K mg base (CXe P w) (k + 1) f fd ps (spDX ms fld sp) := by
  obtain ⟨oc, od, kV, doc, pm, an, cdv, ct, osl, rfl, lk, hcd⟩ := F.ex
  refine fn_of lk hcd S (fun vs H Q E h => ?_) (fun A outer s H vs Q E hr h => ?_)
  · obtain ⟨_, _, _, _, _, _, _, _, a, _⟩ := h
    rw [a.len.1, hm]
  · obtain ⟨G, hand, ds, Qd, Ex, h1, h2, h3, a, h4, h5, h6⟩ := h
    obtain ⟨t, ht, q⟩ := hb ⟨G, hand, H⟩ cdv A outer s H E Ex (fun Cl k dx ρ σ P H' e r z => by obtain ⟨col, r⟩ := r; exact h6 Cl k dx H' e r.kq r.hq z) hr
    have hN : ps.length ≤ N.length := by have := congrArg List.length S.pre; rw [List.length_take] at this; lia
    let col : Addr → Nat := fun b => if G b then 0 else 1
    have c0 : ∀ b, G b → col b = 0 := fun b hb => if_pos hb
    have c1 : ∀ b, ¬ G b → col b = 1 := fun b hb => if_neg hb
    have lo : ∀ b, col b ≤ 1 := fun b => by
      by_cases z : G b
      · rw [c0 b z]; lia
      · rw [c1 b z]; lia
    refine ⟨_, ht, startD N.length ms ds, [], ⟨fun _ => Qd .none, Qd, fun _ => False, fun _ => False, fun _ => False⟩, ⟨col, fun b hb => c0 b (h1.1 b hb), fun b hb => ?_, fun q hq => c1 _ (h2 q hq), fun i s e => start_sl (C := ⟨G, hand, H⟩) rfl rfl c0 lo a i s e i, fun p hp => (nomatch hp), Kq.refl, h3, h3, h1, ?_⟩, by rw [← startN_eq (by lia) a.len.2]; exact q ds Qd a.len.2 h4, ⟨fun ρ' σ' H' R h => ?_, fun v d ρ' σ' H' R h => ?_, fun _ _ _ _ h => h.elim, fun _ _ _ _ h => h.elim, fun _ _ _ _ _ _ _ _ h => h.elim⟩⟩
    · by_cases z : G b
      · exact z
      · rw [c1 b z] at hb; cases hb
    · rw [start_len a (by lia)]
      unfold L2.start
      rw [List.length_append, List.length_map, List.length_replicate, a.len.1]
      lia
    · obtain ⟨col', r⟩ := R
      exact h5 _ _ _ h .non r.kq r.hq
    · obtain ⟨col', r⟩ := R
      exact h5 _ _ _ h (ThV.mv (fun b o z e => ⟨r.inF b z, e⟩) (r.pd _ List.mem_cons_self)) r.kq r.hq
end
section
variable {X : Cx} {C : DC} {st : Stmt} {e : Expr} {te : DE} {u : DA} {E : XK} {Ex : Addr → Int → Prop} {fld : Str} {ms : List Md} {sp : DSpX} {Cl : Addr}
def xkD (Ex : Addr → Int → Prop) (Cl : Addr) (d : PyData) : Prop := match d with
  | .int k => Ex Cl k
  | _ => False
def xkL (Ex : Addr → Int → Prop) (Cl : Addr) (ds : List PyData) : Prop := match ds with
  | [d] => xkD Ex Cl d
  | _ => False
def dRz (Cl : Addr) (Ex : Addr → Int → Prop) (te : DE) (_ : DEnds) (ρ : List Sl) : Prop := te ρ fun d _ => xkD Ex Cl d
theorem ds_raise (hE : ExOk C fld Ex E) (h : PS X st (tRz Cl fld E (vOf C (dCons te dNil)))) : PS X st (sOf C (dRz Cl Ex te)) := PS.wk h fun D σ H zz => el3 zz fun ρ P Dd R ht ER => by
  refine ⟨ρ, P, fun ds _ => xkL Ex Cl ds, R, ht, fun vs ds ρ' P' H' R' hs hp hq => ?_⟩
  obtain ⟨col, r⟩ := R'
  have t := Pds.th r hp
  cases t with
  | nil => exact hq.elim
  | cons t1 t2 =>
    cases t2 with
    | cons _ _ => exact hq.elim
    | nil =>
      cases t1 with
      | int k => exact ⟨.int k, rfl, fun dx hd => hE Cl k dx ρ' σ P' _ hq ⟨col, r.lay hd⟩ upd_same⟩
      | non => exact hq.elim
      | bl b => exact hq.elim
      | str x => exact hq.elim
      | lst _ _ _ => exact hq.elim
      | tup _ _ _ => exact hq.elim
      | dic _ _ _ => exact hq.elim
def dCallX (ms : List Md) (sp : DSpX) (Ex : Addr → Int → Prop) (u : DA) (ρ : List Sl) (Q : PyData → List Sl → Prop) : Prop := u ρ fun as ρ' => bnd (arsD ρ' ms as) fun ds => sp ds (fun d => Q d ρ') Ex
end
end My
namespace My
open PySem L2
open PySem.Spec
section
variable {X : Cx} {C : DC} {u : DA} {fld : Str} {ms : List Md} {sp : DSpX} {Cl0 : Addr}
theorem Hq.keep {h : Option (Addr × Addr)} {H H' : Hp} (q : Hq h H) (k : ∀ b o, H b = some o → H' b = some o) : Hq h H' := fun z hz => by
  obtain ⟨ns, p, b, c, u, v, h1, h2, h3⟩ := q z hz
  exact ⟨ns, p, b, c, u, v, k _ _ h1, h2, k _ _ h3⟩
def dTry (Cl0 : Addr) (ms : List Md) (sp : DSpX) (u : DA) (D : DEnds) (ρ : List Sl) : Prop := dCallX ms sp (fun Cl k => Cl = Cl0 ∧ D.rt (.int k)) u ρ fun _ ρ' => D.nx ρ'
theorem ds_try {ce : Expr} {cpos : Pos} {suite : List Stmt} {b₀ : Stmt} {tn n : Str} {tp hp pos : Pos} {th : Addr → TS} {i : Nat} {TE : Addr} (hN : X.N.Nodup) (hi : X.N[i]? = some n) (hl : X.env.scope.names.lookup n = some .local) (hex : X.ex = [])
    (hst : X.stack = X.env :: X.outer) (hfr : X.env.frame = some X.env.locals) (hg : Gl X tn) (hm : X.mg tn = some (.ref TE)) (hem : PySem.W.exmOne X.K (.ref Cl0) (.ref TE) = some true)
    (hc : ∀ E pn Eh, Rzs (X.pinned pn Eh) E → PE (X.pinned pn Eh) ce (tCall (spDX ms fld sp) [] E (aOf C u))) (hs : ∀ a, PSs (X.han a) (b₀ :: suite) (th a))
    (hth : ∀ (a dx : Addr) (k : Int) (H : Hp) (D : Ends) (σ : St), H a = some (XO a Cl0 (some dx)) → H dx = some (.xd [(fld, .int k)]) → σ[i]? = some (some (.ref a)) → (∀ H', (∀ b o, H b = some o → H' b = some o) → D.rt (.int k) H') → th a D σ H)
    (hsw : swapsWith ce none cpos.line X.env = pure false := by rfl) (hdb : (tn == ("__debug__" : Str)) = false := by decide) :
    PS X (.Try [.Expr ce cpos] [.ExceptHandler (some (.Name tn tp)) (some n) (b₀ :: suite) hp] [] [] pos) (sOf C (dTry Cl0 ms sp u)) := by
  intro pins s σ H D I h
  obtain ⟨ρ, P, Dd, R, ht, ER⟩ := h
  let E0 : XK := fun c dd H' => ∃ k dx ρ' σ', c = .ref Cl0 ∧ dd = some dx ∧ H' dx = some (.xd [(fld, .int k)]) ∧ Dd.rt (.int k) ∧ Rel C ρ' σ' P H'
  refine ps_try (E := E0) (tb := tDrop (tCall (spDX ms fld sp) [] E0 (aOf C u))) (th := th) hN hi hl hex hst hfr hg hm (fun pn Eh R => pss_one (ps_expr (hc E0 pn Eh R) hsw)) hs hdb pins s σ H D I ⟨?_, ?_⟩
  · refine ⟨ρ, P, _, R, ht, fun vs as ρ' P' H' zz s p q => ?_⟩
    obtain ⟨col, r⟩ := zz
    obtain ⟨ds, hds, q⟩ := bnd_of q
    rw [List.append_nil]
    obtain ⟨col, r, tp⟩ := r.norm
    refine ⟨Z col, C.hand, ds, _, _, ⟨r.fresh, tp⟩, fun q hq z => ?_, r.hq, ars_ok r p hds, q, fun d v H2 q2 t2 k2 h2 => ER.nx ρ' σ H2 ⟨col, (r.mv k2 h2).sub s⟩ q2, fun Cl k dx H2 e k2 h2 z => ⟨k, dx, ρ', σ, congrArg Value.ref e.1, rfl, z, e.2, ⟨col, (r.mv k2 h2).sub s⟩⟩⟩
    have := r.hnd q hq
    rw [show col q.1 = 0 from z] at this
    cases this
  · intro C' dd H' a e ha
    obtain ⟨k, dx, ρ', σ', e1, rfl, e3, e4, col, r⟩ := e
    cases e1
    refine ⟨hem, hth a dx k _ _ _ upd_same (by rw [upd_ne (ne_of_none e3 ha)]; exact e3) ?_ fun H'' kk => ?_⟩
    · rw [List.getElem?_set]
      have : i < X.N.length := (List.getElem?_eq_some_iff.mp hi).1
      simp [this]
    · have kp : ∀ b o, H' b = some o → H'' b = some o := fun b o z => kk b o (by rw [upd_ne (ne_of_none z ha)]; exact z)
      exact ER.rt (.int k) (.int k) ρ' σ' H'' ⟨col, (r.mv (fun b o z _ => kp b o z) (Hq.keep r.hq kp)).push (.int k)⟩ e4
end
end My
namespace L2
open PySem PySem.Spec PyProof.Rows
section
variable {K : PySem.W.Frag} {C T N TE : Addr} {oc : Value} {od dd : Option Addr} {sl : Array (Option Value)} {cd : ClassData} {b : Bool}
theorem nsOk_of {es : Array DictEntry} {ep : Nat} (h : K.lookup N = some ⟨oc, od, .dict es ep, sl⟩) (ha : (es.toList.all fun e => match e.key with | .str _ _ => true | _ => false) = true) : PySem.W.nsOkIn K N = true := by
  unfold PySem.W.nsOkIn
  rw [h]
  rw [Array.all_toList] at ha
  exact ha
theorem tail_of (h : K.lookup TE = some ⟨oc, dd, .cls cd, sl⟩) (h1 : PySem.W.nsOkIn K cd.ns = true) (h2 : PySem.W.nsIn K cd.ns "__init__" = some none) : PySem.W.tailIn K VE (.ref TE :: VE) = true := by
  have e : PySem.W.tailIn K VE VE = true := by
    show PySem.W.tailIn K VE (.type "ValueError" :: [.type "Exception", .type "BaseException", .type "object"]) = true
    rw [PySem.W.tailIn]
    · rw [beq_self_eq_true]; rfl
    · intro A z; cases z
  rw [PySem.W.tailIn.eq_2, h]
  dsimp only
  rw [h1, e]
  have : (PySem.W.nsIn K cd.ns (Str.ofString "__init__") == some none) = true := by rw [h2]; rfl
  rw [this]; simp
theorem kit_self : PySem.W.kitOne K (.ref C) (.ref C) = some true := by
  unfold PySem.W.kitOne
  rw [if_pos (beq_self_eq_true _)]
theorem kitCls_ref (h : K.lookup T = some ⟨.type "type", dd, .cls cd, sl⟩) (m : PySem.W.mroIn K C (.ref T) = some b) : PySem.W.kitCls K (.ref C) (.ref T) = some b := by
  have e1 : PySem.W.clsIn K T = some cd := by unfold PySem.W.clsIn; rw [h]
  have e2 : PySem.W.typeIn K (.ref T) = some (.type "type") := by unfold PySem.W.typeIn; dsimp only; rw [h]; rfl
  unfold PySem.W.kitCls
  dsimp only
  rw [e1, e2, if_pos (by rw [beq_self_eq_true]; rfl)]
  exact m
theorem kit_ref (h : K.lookup T = some ⟨.type "type", dd, .cls cd, sl⟩) (m : PySem.W.mroIn K C (.ref T) = some b) (ne : (Value.ref C == Value.ref T) = false) : PySem.W.kitOne K (.ref C) (.ref T) = some b := by
  unfold PySem.W.kitOne
  rw [if_neg (by rw [ne]; exact Bool.false_ne_true)]
  exact kitCls_ref h m
theorem kit_ve (m : PySem.W.mroIn K C (.type "ValueError") = some b) : PySem.W.kitOne K (.ref C) (.type "ValueError") = some b := by
  unfold PySem.W.kitOne
  rw [if_neg (by simp)]
  unfold PySem.W.kitCls
  dsimp only
  rw [if_pos (by decide +kernel)]
  exact m
theorem exm_of (h : K.lookup T = some ⟨.type "type", dd, .cls cd, sl⟩) (m : PySem.W.mroIn K C (.ref T) = some b) (mb : PySem.W.mroIn K T (.type "BaseException") = some true) : PySem.W.exmOne K (.ref C) (.ref T) = some b := by
  unfold PySem.W.exmOne
  rw [if_pos (by unfold PySem.W.subIn; dsimp only; rw [mb]; rfl)]
  exact kitCls_ref h m
structure XcI (K : PySem.W.Frag) (C TE xi : Addr) (fld : Str) : Prop where
  xc : XcK K C
  kp : PySem.W.keepIn K (.ref C) = true
  fi : PySem.W.findIn K (.ref C) "__init__" = some (some (.ref xi))
  fn : PySem.W.typeIn K (.ref xi) = some (.type "function")
  f1 : PySem.W.findIn K (.ref C) "__setattr__" = some (some (.builtin "object.__setattr__"))
  f2 : PySem.W.findIn K (.ref C) fld = some none
  cl : XCl K C
  em : PySem.W.exmOne K (.ref C) (.ref TE) = some true
  ve : PySem.W.kitOne K (.ref C) (.type "ValueError") = some true
theorem XcI.of {xi TN : Addr} {fld : Str} {nm q : Str} {bs : List Value} {sn : List Str} {sub : List Value} {ab : Bool} {col : Option Bool} {k0 k1 k2 k3 k5 : Option Value} {oc1 oc2 : Value} {od1 od2 : Option Addr} {es1 es2 : Array DictEntry} {ep1 ep2 : Nat} {sl1 sl2 : Array (Option Value)} {dT : Option Addr} {cdT : ClassData} {slT : Array (Option Value)}
    (e2 : K.lookup C = some (excClassObj nm q C N bs (.ref TE :: VE) true sn sub ab col dd k0 k1 k2 k3 k5 "ValueError.__new__"))
    (e3 : K.lookup N = some ⟨oc1, od1, .dict es1 ep1, sl1⟩) (a3 : (es1.toList.all fun e => match e.key with | .str _ _ => true | _ => false) = true)
    (e4 : K.lookup TE = some ⟨.type "type", dT, .cls cdT, slT⟩) (n4 : cdT.ns = TN) (e5 : K.lookup TN = some ⟨oc2, od2, .dict es2 ep2, sl2⟩) (a5 : (es2.toList.all fun e => match e.key with | .str _ _ => true | _ => false) = true) (e6 : PySem.W.nsIn K TN "__init__" = some none)
    (kp : PySem.W.keepIn K (.ref C) = true) (fi : PySem.W.findIn K (.ref C) "__init__" = some (some (.ref xi))) (fn : PySem.W.typeIn K (.ref xi) = some (.type "function"))
    (f1 : PySem.W.findIn K (.ref C) "__setattr__" = some (some (.builtin "object.__setattr__"))) (f2 : PySem.W.findIn K (.ref C) fld = some none)
    (g1 : PySem.W.findIn K (.ref C) "__getattribute__" = some (some (.builtin "BaseException.__getattribute__"))) (g2 : PySem.W.findIn K (.ref C) "__getattr__" = some none)
    (hd : PySem.W.hasDictIn K C = true) (ha : PySem.W.findIn K (.ref C) "__class__" = some (some (.builtin "object.__class__")))
    (hn : PySem.W.specialIn K (.builtin "object.__class__") "__get__" = some (some (.builtin "getset_descriptor.__get__"))) (tk : PySem.W.takesIn K (.builtin "object.__class__") = some true)
    (m1 : PySem.W.mroIn K C (.type "object") = some true) (m2 : PySem.W.mroIn K C (.type "ValueError") = some true) (m3 : PySem.W.mroIn K C (.ref TE) = some true) (m4 : PySem.W.mroIn K TE (.type "BaseException") = some true) : XcI K C TE xi fld :=
  ⟨⟨nm, q, N, TE, bs, sn, sub, ab, col, dd, k0, k1, k2, k3, k5, e2, nsOk_of e3 a3, tail_of e4 (n4 ▸ nsOk_of e5 a5) (n4 ▸ e6)⟩, kp, fi, fn, f1, f2,
    ⟨g1, g2, ⟨nm, q, N, TE, bs, sn, sub, ab, col, dd, k0, k1, k2, k3, k5, "ValueError.__new__", e2⟩, hd, ha, hn, tk, m1⟩, exm_of e4 m3 m4, kit_ve m2⟩
theorem XcI.init {P : Program} {w : World} {mg : Str → Option Value} {base : Heap} {k : Nat} {f : Addr} {fld qual me par : Str} {st : Stmt} {fd : FuncData} {p1 p2 p3 p4 : Pos} (X : XcI K C TE f fld) (F : Fun K "__init__" qual st f fd)
    (hbody : defBody st = [.Assign [.Attribute (.Name me p1) fld p2] (.Name par p3) p4]) (S : FnScope [me, par] [me, par] (defScope st))
    (hb : Binds K fd [me, par] []) (d1 : (me == ("__debug__" : Str)) = false := by decide) (d2 : (me == ("__classdict__" : Str)) = false := by decide) (d3 : (par == ("__debug__" : Str)) = false := by decide) (d4 : (par == ("__classdict__" : Str)) = false := by decide)
    (sw : ∀ env, swapsWith (.Name par p3) (some (.Attribute (.Name me p1) fld p2)) p4.line env = pure false := by intro _; rfl) : InitP P w K mg base (k + 1) f C fld := by
  obtain ⟨oc, od, kV, doc, pm, an, cdv, ct, osl, rfl, lk, hcd⟩ := F.ex
  rw [hbody] at lk hb
  exact initP_of lk hcd S d1 d2 d3 d4 sw X.f1 X.f2 X.xc hb
end
end L2
namespace My
open PySem L2
open PySem.Spec
section
variable {P : Program} {w : World} {K : PySem.W.Frag} {mg : Str → Option Value} {base : Heap}
theorem fnX_0 {k : Nat} {f : Addr} {fd : FuncData} {ps : List Str} {ms : List Md} {fld : Str} {sp : DSpX} (F : FnOk P w K mg base (CXe P w) k f fd ps (spDX ms fld sp)) : FnOk P w K mg base CX0 k f fd ps (spD ms fun ds Q => sp ds Q fun _ _ => False) := by
  have key : ∀ vs H Q E, spD ms (fun ds Q => sp ds Q fun _ _ => False) vs H Q E → spDX ms fld sp vs H Q fun _ _ _ => False := fun vs H Q E h => by
    obtain ⟨G, hand, ds, Qd, h1, h2, h3, a, h4, h5⟩ := h
    exact ⟨G, hand, ds, Qd, fun _ _ => False, h1, h2, h3, a, h4, h5, fun _ _ _ _ z => z.elim⟩
  refine ⟨fun vs H Q E h => F.len vs H Q _ (key vs H Q E h), fun A outer s H args us vs Q E hr e0 hb r h => ?_⟩
  refine codeAny_mono (F.run A outer s H args us vs Q _ hr e0 hb r (key vs H Q E h)) fun r s' q => ?_
  cases r with
  | error e =>
    obtain ⟨_, _, _, _, _, _, _, _, _, _, _, _, _, _, z⟩ := (show CXe P w outer H s (fun _ _ _ => False) e s' from q)
    exact z.elim
  | ok f => cases f <;> exact q
end
end My
namespace L2
open PySem PySem.Spec PyProof.Rows
def clsAt (i : Nat) : Stmt → Stmt
  | .ClassDef _ _ _ body _ _ _ _ _ _ _ => body.getD i (.Pass ⟨0, 0, 0, 0⟩)
  | s => s
theorem bt_ValueError : bootBuiltins "ValueError" = some (.type "ValueError") := by decide +kernel
section
variable {P : Program} {w : World} {K : PySem.W.Frag} {mg : Str → Option Value} {base : Heap}
theorem Fun.okN {x qual : Str} {st : Stmt} {f : Addr} {fd : FuncData} {N ps : List Str} {k : Nat} {sp : SpN} (F : Fun K x qual st f fd) (S : FnScope N ps (defScope st)) (len : ∀ vs H Q, sp vs H Q → vs.length = ps.length)
    (hbody : ∀ (cdv : Value) (A : Around) (outer : List Env) (s : Shared) (H : Hp) (vs : List V) (Q : VK), RoomN k (A.deeper (envOfC qual (defScope st) s.heap.objs.size f cdv)) → sp vs H Q →
      ∃ t, PSs (cxN P w K mg base N qual (defScope st) f cdv A outer s H) (defBody st) t ∧ t { nx := fun _ H' => Q .non H', rt := Q } (start N vs) H) : FnOkN P w K mg base (k + 1) f fd ps sp := by
  obtain ⟨oc, od, kV, doc, pm, an, cdv, ct, osl, rfl, lk, hcd⟩ := F.ex
  exact fn_ofN lk hcd S len fun A outer s H vs Q hr hsp => hbody cdv A outer s H vs Q hr hsp
end
end L2
namespace My
open PySem L2
def spWhN : SpN := fun vs H Q => ∃ k : Int, vs = [.int k] ∧ Q (.bl true) H
end My
namespace L2
open PySem PySem.Spec PyProof.Rows
section
variable {K : PySem.W.Frag} {i : Nat} {a C T dx : Addr} {b : Bool} {σ : St} {H : Hp} {o : HO} {k : Int} {fld : Str}
theorem kitAny_no : ∀ {Ts : List Addr}, (∀ T ∈ Ts, PySem.W.kitOne K (.ref C) (.ref T) = some false) → PySem.W.kitAny K (.ref C) (Ts.map Value.ref) = some false
  | [], _ => by first | rfl | (unfold PySem.W.kitAny; rfl)
  | T :: Ts, h => by
    rw [List.map_cons]
    unfold PySem.W.kitAny
    rw [h T List.mem_cons_self]
    exact kitAny_no fun T' h' => h T' (List.mem_cons_of_mem _ h')
structure Hat (K : PySem.W.Frag) (i : Nat) (σ : St) (H : Hp) (a C dx : Addr) (fld : Str) (k : Int) : Prop where
  h1 : H a = some (XO a C (some dx))
  h2 : H dx = some (.xd [(fld, .int k)])
  h3 : σ[i]? = some (some (.ref a))
  cl : XCl K C
  na : NoAttr K C fld
theorem Hat.hd (h : Hat K i σ H a C dx fld k) : ∀ d, some dx = some d → ∃ o, H d = some o := fun _ z => by cases z; exact ⟨_, h.h2⟩
theorem Hat.lay (h : Hat K i σ H a C dx fld k) {p : Addr} {o : HO} (e : H p = none) : Hat K i σ (upd H p o) a C dx fld k :=
  ⟨by rw [upd_ne (ne_of_none h.h1 e)]; exact h.h1, by rw [upd_ne (ne_of_none h.h2 e)]; exact h.h2, h.h3, h.cl, h.na⟩
theorem Hat.isx {Q : Bool → Hp → Prop} (h : Hat K i σ H a C dx fld k) (kk : PySem.W.kitOne K (.ref C) (.ref T) = some b) (q : Q b H) : tB (tCB (rIsx K) (tCons (tVar i) (tCons (tC (.ref T)) tNil))) σ H Q :=
  ⟨_, h.h3, a, C, some dx, _, T, b, rfl, ⟨rfl, kk⟩, h.h1, h.hd, h.cl, b, rfl, q⟩
theorem Hat.ist {S : String} {Q : Bool → Hp → Prop} (h : Hat K i σ H a C dx fld k) (kk : PySem.W.kitOne K (.ref C) (.type S) = some b) (q : Q b H) : tB (tCB (rIst K) (tCons (tVar i) (tCons (tC (.ty S)) tNil))) σ H Q :=
  ⟨_, h.h3, a, C, some dx, _, S, b, rfl, ⟨rfl, kk⟩, h.h1, h.hd, h.cl, b, rfl, q⟩
theorem Hat.isu4 {T1 T2 T3 T4 : Addr} {Q : Bool → Hp → Prop} (h : Hat K i σ H a C dx fld k) (k1 : PySem.W.kitOne K (.ref C) (.ref T1) = some false) (k2 : PySem.W.kitOne K (.ref C) (.ref T2) = some false) (k3 : PySem.W.kitOne K (.ref C) (.ref T3) = some false) (k4 : PySem.W.kitOne K (.ref C) (.ref T4) = some false)
    (q : ∀ p, H p = none → Q false (upd H p (.tup [.ref T1, .ref T2, .ref T3, .ref T4]))) : tB (tCB (rIsu K) (tCons (tVar i) (tCons (tTup (tCons (tC (.ref T1)) (tCons (tC (.ref T2)) (tCons (tC (.ref T3)) (tCons (tC (.ref T4)) tNil))))) tNil))) σ H Q :=
  ⟨_, h.h3, by show 4 ≤ sizeLine; decide, fun p hp => ⟨a, C, some dx, p, [T1, T2, T3, T4], false, rfl, upd_same, kitAny_no fun T ht => by
    rcases List.mem_cons.mp ht with rfl | ht
    · exact k1
    · rcases List.mem_cons.mp ht with rfl | ht
      · exact k2
      · rcases List.mem_cons.mp ht with rfl | ht
        · exact k3
        · cases List.mem_singleton.mp ht; exact k4, (h.lay hp).h1, (h.lay hp).hd, h.cl, false, rfl, q p hp⟩⟩
theorem Hat.xf {Q : VK} (h : Hat K i σ H a C dx fld k) (q : Q (.int k) H) : tXf K (tVar i) fld σ H Q := ⟨_, h.h3, a, C, dx, .int k, rfl, h.h1, h.h2, h.cl, h.na, q⟩
theorem Hat.wh {Q : Bool → Hp → Prop} (h : Hat K i σ H a C dx fld k) (q : Q true H) : tB (tCallN My.spWhN (tCons (tXf K (tVar i) fld) tNil)) σ H Q := h.xf ⟨k, rfl, true, rfl, q⟩
theorem iteNo {p q : Prop} (h : q) : if false = true then p else q := by rw [if_neg Bool.false_ne_true]; exact h
theorem iteNt {p q : Prop} (h : q) : if (!true) = true then p else q := iteNo h
theorem tryC {T1 T2 T3 T4 : Addr} {D : Ends} (h : Hat K i σ H a C dx fld k) (k0 : PySem.W.kitOne K (.ref C) (.ref C) = some true) (k1 : PySem.W.kitOne K (.ref C) (.ref T1) = some false) (k2 : PySem.W.kitOne K (.ref C) (.ref T2) = some false) (k3 : PySem.W.kitOne K (.ref C) (.ref T3) = some false) (k4 : PySem.W.kitOne K (.ref C) (.ref T4) = some false)
    (ve : PySem.W.kitOne K (.ref C) (.type "ValueError") = some true) (q : ∀ H', (∀ b o, H b = some o → H' b = some o) → D.rt (.int k) H') :
    tSeq (tIfS (tOr (tNot (tB (tCB (rIsx K) (tCons (tVar i) (tCons (tC (.ref C)) tNil))))) (tB (tCB (rIsu K) (tCons (tVar i) (tCons (tTup (tCons (tC (.ref T1)) (tCons (tC (.ref T2)) (tCons (tC (.ref T3)) (tCons (tC (.ref T4)) tNil))))) tNil))))) (tRet (tTup tNil)) tNext)
      (tSeq (tIfS (tOr (tNot (tB (tCB (rIst K) (tCons (tVar i) (tCons (tC (.ty "ValueError")) tNil))))) (tNot (tB (tCallN My.spWhN (tCons (tXf K (tVar i) fld) tNil))))) (tRet (tTup tNil)) tNext) (tRet (tXf K (tVar i) fld))) D σ H := by
  refine h.isx k0 (iteNt (h.isu4 k1 k2 k3 k4 fun p hp => iteNo ((h.lay hp).ist ve (iteNt ?_))))
  refine (h.lay hp).wh (iteNt ((h.lay hp).xf (q _ fun b o e => ?_)))
  rw [upd_ne (ne_of_none e hp)]; exact e
end
end L2
namespace My
open PySem L2
theorem us_c {us : List Value} {n : Nat} (h : us.length = n + 1) : ∃ a r, us = a :: r ∧ r.length = n := by
  cases us with
  | nil => cases h
  | cons a r => exact ⟨a, r, rfl, Nat.succ.inj h⟩
theorem usl0 {us : List Value} (h : us.length = 0) : us = [] := by
  cases List.eq_nil_of_length_eq_zero h
  exact rfl
theorem usl1 {us : List Value} (h : us.length = 1) : ∃ a0, us = [a0] := by
  obtain ⟨a0, u0, rfl, h0⟩ := us_c h
  cases List.eq_nil_of_length_eq_zero h0
  exact ⟨a0, rfl⟩
theorem usl2 {us : List Value} (h : us.length = 2) : ∃ a0 a1, us = [a0, a1] := by
  obtain ⟨a0, u0, rfl, h0⟩ := us_c h
  obtain ⟨a1, u1, rfl, h1⟩ := us_c h0
  cases List.eq_nil_of_length_eq_zero h1
  exact ⟨a0, a1, rfl⟩
theorem usl3 {us : List Value} (h : us.length = 3) : ∃ a0 a1 a2, us = [a0, a1, a2] := by
  obtain ⟨a0, u0, rfl, h0⟩ := us_c h
  obtain ⟨a1, u1, rfl, h1⟩ := us_c h0
  obtain ⟨a2, u2, rfl, h2⟩ := us_c h1
  cases List.eq_nil_of_length_eq_zero h2
  exact ⟨a0, a1, a2, rfl⟩
theorem usl4 {us : List Value} (h : us.length = 4) : ∃ a0 a1 a2 a3, us = [a0, a1, a2, a3] := by
  obtain ⟨a0, u0, rfl, h0⟩ := us_c h
  obtain ⟨a1, u1, rfl, h1⟩ := us_c h0
  obtain ⟨a2, u2, rfl, h2⟩ := us_c h1
  obtain ⟨a3, u3, rfl, h3⟩ := us_c h2
  cases List.eq_nil_of_length_eq_zero h3
  exact ⟨a0, a1, a2, a3, rfl⟩
theorem usl5 {us : List Value} (h : us.length = 5) : ∃ a0 a1 a2 a3 a4, us = [a0, a1, a2, a3, a4] := by
  obtain ⟨a0, u0, rfl, h0⟩ := us_c h
  obtain ⟨a1, u1, rfl, h1⟩ := us_c h0
  obtain ⟨a2, u2, rfl, h2⟩ := us_c h1
  obtain ⟨a3, u3, rfl, h3⟩ := us_c h2
  obtain ⟨a4, u4, rfl, h4⟩ := us_c h3
  cases List.eq_nil_of_length_eq_zero h4
  exact ⟨a0, a1, a2, a3, a4, rfl⟩
theorem usl6 {us : List Value} (h : us.length = 6) : ∃ a0 a1 a2 a3 a4 a5, us = [a0, a1, a2, a3, a4, a5] := by
  obtain ⟨a0, u0, rfl, h0⟩ := us_c h
  obtain ⟨a1, u1, rfl, h1⟩ := us_c h0
  obtain ⟨a2, u2, rfl, h2⟩ := us_c h1
  obtain ⟨a3, u3, rfl, h3⟩ := us_c h2
  obtain ⟨a4, u4, rfl, h4⟩ := us_c h3
  obtain ⟨a5, u5, rfl, h5⟩ := us_c h4
  cases List.eq_nil_of_length_eq_zero h5
  exact ⟨a0, a1, a2, a3, a4, a5, rfl⟩
theorem usl7 {us : List Value} (h : us.length = 7) : ∃ a0 a1 a2 a3 a4 a5 a6, us = [a0, a1, a2, a3, a4, a5, a6] := by
  obtain ⟨a0, u0, rfl, h0⟩ := us_c h
  obtain ⟨a1, u1, rfl, h1⟩ := us_c h0
  obtain ⟨a2, u2, rfl, h2⟩ := us_c h1
  obtain ⟨a3, u3, rfl, h3⟩ := us_c h2
  obtain ⟨a4, u4, rfl, h4⟩ := us_c h3
  obtain ⟨a5, u5, rfl, h5⟩ := us_c h4
  obtain ⟨a6, u6, rfl, h6⟩ := us_c h5
  cases List.eq_nil_of_length_eq_zero h6
  exact ⟨a0, a1, a2, a3, a4, a5, a6, rfl⟩
theorem usl8 {us : List Value} (h : us.length = 8) : ∃ a0 a1 a2 a3 a4 a5 a6 a7, us = [a0, a1, a2, a3, a4, a5, a6, a7] := by
  obtain ⟨a0, u0, rfl, h0⟩ := us_c h
  obtain ⟨a1, u1, rfl, h1⟩ := us_c h0
  obtain ⟨a2, u2, rfl, h2⟩ := us_c h1
  obtain ⟨a3, u3, rfl, h3⟩ := us_c h2
  obtain ⟨a4, u4, rfl, h4⟩ := us_c h3
  obtain ⟨a5, u5, rfl, h5⟩ := us_c h4
  obtain ⟨a6, u6, rfl, h6⟩ := us_c h5
  obtain ⟨a7, u7, rfl, h7⟩ := us_c h6
  cases List.eq_nil_of_length_eq_zero h7
  exact ⟨a0, a1, a2, a3, a4, a5, a6, a7, rfl⟩
def top (i : Nat) : Stmt := PySem.Challenge.pw_trudge_k21_what_is_a_land.main.body.getD i (.Pass ⟨0, 0, 0, 0⟩)
abbrev i_BadLand : Stmt := clsAt 0 (top 2)
abbrev s_is_whole : Stmt := top 8
abbrev s_is_place : Stmt := top 17
abbrev s_is_change : Stmt := top 18
abbrev s_is_way : Stmt := top 19
abbrev s_is_frame : Stmt := top 20
abbrev s_land_of : Stmt := top 21
abbrev s_hand : Stmt := top 23
abbrev s_next : Stmt := top 24
abbrev s_take : Stmt := top 25
abbrev s_draw : Stmt := top 26
abbrev s_scale : Stmt := top 27
abbrev s_change : Stmt := top 28
abbrev s_land : Stmt := top 29
abbrev s_law_is_whole : Stmt := top 30
abbrev s_odd : Stmt := top 31
abbrev s_law_is_way : Stmt := top 32
abbrev s_fault : Stmt := top 33
abbrev s_spoilt : Stmt := top 34
abbrev s_refused : Stmt := top 35
abbrev s_taken : Stmt := top 36
abbrev s_law : Stmt := top 37
set_option genInjectivity false in
set_option genSizeOf false in
structure Txt (K : PySem.W.Frag) (mg : Str → Option Value) where
  n_ValueError : mg "ValueError" = none
  n_abs : mg "abs" = none
  n_bool : mg "bool" = none
  n_enumerate : mg "enumerate" = none
  n_int : mg "int" = none
  n_isinstance : mg "isinstance" = none
  n_len : mg "len" = none
  n_list : mg "list" = none
  n_range : mg "range" = none
  n_tuple : mg "tuple" = none
  c_TrudgeError : Addr
  mg_TrudgeError : mg "TrudgeError" = some (.ref c_TrudgeError)
  c_BadLand : Addr
  mg_BadLand : mg "BadLand" = some (.ref c_BadLand)
  c_BadTrip : Addr
  mg_BadTrip : mg "BadTrip" = some (.ref c_BadTrip)
  c_BadWay : Addr
  mg_BadWay : mg "BadWay" = some (.ref c_BadWay)
  c_TooMany : Addr
  mg_TooMany : mg "TooMany" = some (.ref c_TooMany)
  c_BadGoal : Addr
  mg_BadGoal : mg "BadGoal" = some (.ref c_BadGoal)
  xi_BadLand : Addr
  xd_BadLand : FuncData
  F_BadLand : Fun K "__init__" "BadLand.__init__" i_BadLand xi_BadLand xd_BadLand
  xc_BadLand : XcI K c_BadLand c_TrudgeError xi_BadLand "at"
  k_BadLand_BadGoal : PySem.W.kitOne K (.ref c_BadLand) (.ref c_BadGoal) = some false
  k_BadLand_BadLand : PySem.W.kitOne K (.ref c_BadLand) (.ref c_BadLand) = some true
  k_BadLand_BadTrip : PySem.W.kitOne K (.ref c_BadLand) (.ref c_BadTrip) = some false
  k_BadLand_BadWay : PySem.W.kitOne K (.ref c_BadLand) (.ref c_BadWay) = some false
  k_BadLand_TooMany : PySem.W.kitOne K (.ref c_BadLand) (.ref c_TooMany) = some false
  t_MANY : Tok
  mg_MANY : mg "MANY" = some (.int 0 t_MANY)
  t_WAYS : Tok
  mg_WAYS : mg "WAYS" = some (.int 1 t_WAYS)
  t_START : Tok
  mg_START : mg "START" = some (.int 0 t_START)
  t_END : Tok
  mg_END : mg "END" = some (.int 1 t_END)
  t_CHANGE : Tok
  mg_CHANGE : mg "CHANGE" = some (.int 2 t_CHANGE)
  t_MOST_PLACES : Tok
  mg_MOST_PLACES : mg "MOST_PLACES" = some (.int 12 t_MOST_PLACES)
  t_MOST_WAYS : Tok
  mg_MOST_WAYS : mg "MOST_WAYS" = some (.int 40 t_MOST_WAYS)
  a_is_whole : Addr
  d_is_whole : FuncData
  F_is_whole : Fun K "is_whole" "is_whole" s_is_whole a_is_whole d_is_whole
  mg_is_whole : mg "is_whole" = some (.ref a_is_whole)
  kp_is_whole : PySem.W.keepIn K (.ref a_is_whole) = true
  a_is_place : Addr
  d_is_place : FuncData
  F_is_place : Fun K "is_place" "is_place" s_is_place a_is_place d_is_place
  mg_is_place : mg "is_place" = some (.ref a_is_place)
  kp_is_place : PySem.W.keepIn K (.ref a_is_place) = true
  a_is_change : Addr
  d_is_change : FuncData
  F_is_change : Fun K "is_change" "is_change" s_is_change a_is_change d_is_change
  mg_is_change : mg "is_change" = some (.ref a_is_change)
  kp_is_change : PySem.W.keepIn K (.ref a_is_change) = true
  a_is_way : Addr
  d_is_way : FuncData
  F_is_way : Fun K "is_way" "is_way" s_is_way a_is_way d_is_way
  mg_is_way : mg "is_way" = some (.ref a_is_way)
  kp_is_way : PySem.W.keepIn K (.ref a_is_way) = true
  a_is_frame : Addr
  d_is_frame : FuncData
  F_is_frame : Fun K "is_frame" "is_frame" s_is_frame a_is_frame d_is_frame
  mg_is_frame : mg "is_frame" = some (.ref a_is_frame)
  kp_is_frame : PySem.W.keepIn K (.ref a_is_frame) = true
  a_land_of : Addr
  d_land_of : FuncData
  F_land_of : Fun K "land_of" "land_of" s_land_of a_land_of d_land_of
  mg_land_of : mg "land_of" = some (.ref a_land_of)
  kp_land_of : PySem.W.keepIn K (.ref a_land_of) = true
  a_hand : Addr
  d_hand : FuncData
  F_hand : Fun K "_law_hand" "_law_hand" s_hand a_hand d_hand
  mg_hand : mg "_law_hand" = some (.ref a_hand)
  kp_hand : PySem.W.keepIn K (.ref a_hand) = true
  a_next : Addr
  d_next : FuncData
  F_next : Fun K "_law_next" "_law_next" s_next a_next d_next
  mg_next : mg "_law_next" = some (.ref a_next)
  kp_next : PySem.W.keepIn K (.ref a_next) = true
  a_take : Addr
  d_take : FuncData
  F_take : Fun K "_law_take" "_law_take" s_take a_take d_take
  mg_take : mg "_law_take" = some (.ref a_take)
  kp_take : PySem.W.keepIn K (.ref a_take) = true
  a_draw : Addr
  d_draw : FuncData
  F_draw : Fun K "_law_draw" "_law_draw" s_draw a_draw d_draw
  mg_draw : mg "_law_draw" = some (.ref a_draw)
  kp_draw : PySem.W.keepIn K (.ref a_draw) = true
  a_scale : Addr
  d_scale : FuncData
  F_scale : Fun K "_law_scale" "_law_scale" s_scale a_scale d_scale
  mg_scale : mg "_law_scale" = some (.ref a_scale)
  kp_scale : PySem.W.keepIn K (.ref a_scale) = true
  a_change : Addr
  d_change : FuncData
  F_change : Fun K "_law_change" "_law_change" s_change a_change d_change
  mg_change : mg "_law_change" = some (.ref a_change)
  kp_change : PySem.W.keepIn K (.ref a_change) = true
  a_land : Addr
  d_land : FuncData
  F_land : Fun K "_law_land" "_law_land" s_land a_land d_land
  mg_land : mg "_law_land" = some (.ref a_land)
  kp_land : PySem.W.keepIn K (.ref a_land) = true
  a_law_is_whole : Addr
  d_law_is_whole : FuncData
  F_law_is_whole : Fun K "_law_is_whole" "_law_is_whole" s_law_is_whole a_law_is_whole d_law_is_whole
  mg_law_is_whole : mg "_law_is_whole" = some (.ref a_law_is_whole)
  kp_law_is_whole : PySem.W.keepIn K (.ref a_law_is_whole) = true
  a_odd : Addr
  d_odd : FuncData
  F_odd : Fun K "_law_odd" "_law_odd" s_odd a_odd d_odd
  mg_odd : mg "_law_odd" = some (.ref a_odd)
  kp_odd : PySem.W.keepIn K (.ref a_odd) = true
  a_law_is_way : Addr
  d_law_is_way : FuncData
  F_law_is_way : Fun K "_law_is_way" "_law_is_way" s_law_is_way a_law_is_way d_law_is_way
  mg_law_is_way : mg "_law_is_way" = some (.ref a_law_is_way)
  kp_law_is_way : PySem.W.keepIn K (.ref a_law_is_way) = true
  a_fault : Addr
  d_fault : FuncData
  F_fault : Fun K "_law_fault" "_law_fault" s_fault a_fault d_fault
  mg_fault : mg "_law_fault" = some (.ref a_fault)
  kp_fault : PySem.W.keepIn K (.ref a_fault) = true
  a_spoilt : Addr
  d_spoilt : FuncData
  F_spoilt : Fun K "_law_spoilt" "_law_spoilt" s_spoilt a_spoilt d_spoilt
  mg_spoilt : mg "_law_spoilt" = some (.ref a_spoilt)
  kp_spoilt : PySem.W.keepIn K (.ref a_spoilt) = true
  a_refused : Addr
  d_refused : FuncData
  F_refused : Fun K "_law_refused" "_law_refused" s_refused a_refused d_refused
  mg_refused : mg "_law_refused" = some (.ref a_refused)
  kp_refused : PySem.W.keepIn K (.ref a_refused) = true
  a_taken : Addr
  d_taken : FuncData
  F_taken : Fun K "_law_taken" "_law_taken" s_taken a_taken d_taken
  mg_taken : mg "_law_taken" = some (.ref a_taken)
  kp_taken : PySem.W.keepIn K (.ref a_taken) = true
  a_law : Addr
  d_law : FuncData
  F_law : Fun K "law" "law" s_law a_law d_law
  mg_law : mg "law" = some (.ref a_law)
  kp_law : PySem.W.keepIn K (.ref a_law) = true
theorem sc_is_whole : FnScope ["thing"] ["thing"] (defScope s_is_whole) := ⟨rfl, rfl, rfl, by decide +kernel, rfl, by decide +kernel, by decide +kernel⟩
theorem sc_is_place : FnScope ["many", "thing"] ["many", "thing"] (defScope s_is_place) := ⟨rfl, rfl, rfl, by decide +kernel, rfl, by decide +kernel, by decide +kernel⟩
theorem sc_is_change : FnScope ["thing"] ["thing"] (defScope s_is_change) := ⟨rfl, rfl, rfl, by decide +kernel, rfl, by decide +kernel, by decide +kernel⟩
theorem sc_is_way : FnScope ["many", "thing"] ["many", "thing"] (defScope s_is_way) := ⟨rfl, rfl, rfl, by decide +kernel, rfl, by decide +kernel, by decide +kernel⟩
theorem sc_is_frame : FnScope ["thing"] ["thing"] (defScope s_is_frame) := ⟨rfl, rfl, rfl, by decide +kernel, rfl, by decide +kernel, by decide +kernel⟩
theorem sc_land_of : FnScope ["thing", "number", "way"] ["thing"] (defScope s_land_of) := ⟨rfl, rfl, rfl, by decide +kernel, rfl, by decide +kernel, by decide +kernel⟩
theorem sc_hand : FnScope ["_law_script"] ["_law_script"] (defScope s_hand) := ⟨rfl, rfl, rfl, by decide +kernel, rfl, by decide +kernel, by decide +kernel⟩
theorem sc_next : FnScope ["_law_hand_here"] ["_law_hand_here"] (defScope s_next) := ⟨rfl, rfl, rfl, by decide +kernel, rfl, by decide +kernel, by decide +kernel⟩
theorem sc_take : FnScope ["_law_hand_here", "_law_cell"] ["_law_hand_here"] (defScope s_take) := ⟨rfl, rfl, rfl, by decide +kernel, rfl, by decide +kernel, by decide +kernel⟩
theorem sc_draw : FnScope ["_law_hand_here", "_law_many", "_law_got", "_law_value", "_law_size"] ["_law_hand_here", "_law_many"] (defScope s_draw) := ⟨rfl, rfl, rfl, by decide +kernel, rfl, by decide +kernel, by decide +kernel⟩
theorem sc_scale : FnScope ["_law_hand_here"] ["_law_hand_here"] (defScope s_scale) := ⟨rfl, rfl, rfl, by decide +kernel, rfl, by decide +kernel, by decide +kernel⟩
theorem sc_change : FnScope ["_law_hand_here", "_law_scale_here"] ["_law_hand_here", "_law_scale_here"] (defScope s_change) := ⟨rfl, rfl, rfl, by decide +kernel, rfl, by decide +kernel, by decide +kernel⟩
theorem sc_land : FnScope ["_law_hand_here", "_law_places", "_law_ways", "_law_scale_here", "_law_many", "_law_rows", "_law_k", "_law_start", "_law_end"] ["_law_hand_here", "_law_places", "_law_ways", "_law_scale_here"] (defScope s_land) := ⟨rfl, rfl, rfl, by decide +kernel, rfl, by decide +kernel, by decide +kernel⟩
theorem sc_law_is_whole : FnScope ["_law_thing"] ["_law_thing"] (defScope s_law_is_whole) := ⟨rfl, rfl, rfl, by decide +kernel, rfl, by decide +kernel, by decide +kernel⟩
theorem sc_odd : FnScope ["_law_hand_here", "_law_many", "_law_far", "_law_some"] ["_law_hand_here", "_law_many"] (defScope s_odd) := ⟨rfl, rfl, rfl, by decide +kernel, rfl, by decide +kernel, by decide +kernel⟩
theorem sc_law_is_way : FnScope ["_law_many", "_law_thing", "_law_number"] ["_law_many", "_law_thing"] (defScope s_law_is_way) := ⟨rfl, rfl, rfl, by decide +kernel, rfl, by decide +kernel, by decide +kernel⟩
theorem sc_fault : FnScope ["_law_thing", "_law_many", "_law_ways", "_law_k"] ["_law_thing"] (defScope s_fault) := ⟨rfl, rfl, rfl, by decide +kernel, rfl, by decide +kernel, by decide +kernel⟩
theorem sc_spoilt : FnScope ["_law_hand_here", "_law_many", "_law_ways", "_law_k", "_law_some", "_law_long"] ["_law_hand_here", "_law_many", "_law_ways"] (defScope s_spoilt) := ⟨rfl, rfl, rfl, by decide +kernel, rfl, by decide +kernel, by decide +kernel⟩
theorem sc_refused : FnScope ["_law_thing", "e"] ["_law_thing"] (defScope s_refused) := ⟨rfl, rfl, rfl, by decide +kernel, rfl, by decide +kernel, by decide +kernel⟩
theorem sc_taken : FnScope ["_law_many", "_law_ways", "_law_handed", "_law_found"] ["_law_many", "_law_ways"] (defScope s_taken) := ⟨rfl, rfl, rfl, by decide +kernel, rfl, by decide +kernel, by decide +kernel⟩
theorem sc_law : FnScope ["_law_script", "_law_hand_here", "_law_places", "_law_many", "_law_ways", "_law_thing", "_law_due", "_law_kept"] ["_law_script"] (defScope s_law) := ⟨rfl, rfl, rfl, by decide +kernel, rfl, by decide +kernel, by decide +kernel⟩
theorem sc_i_BadLand : FnScope ["self", "at"] ["self", "at"] (defScope i_BadLand) := ⟨rfl, rfl, rfl, by decide +kernel, rfl, by decide +kernel, by decide +kernel⟩
theorem bd_is_whole {K : PySem.W.Frag} {mg : Str → Option Value} (T : Txt K mg) : Binds K T.d_is_whole ["thing"] [] := T.F_is_whole.binds fun _ _ _ _ _ _ us hl => by obtain ⟨_, rfl⟩ := usl1 hl; rfl
theorem bd_is_place {K : PySem.W.Frag} {mg : Str → Option Value} (T : Txt K mg) : Binds K T.d_is_place ["many", "thing"] [] := T.F_is_place.binds fun _ _ _ _ _ _ us hl => by obtain ⟨_, _, rfl⟩ := usl2 hl; rfl
theorem bd_is_change {K : PySem.W.Frag} {mg : Str → Option Value} (T : Txt K mg) : Binds K T.d_is_change ["thing"] [] := T.F_is_change.binds fun _ _ _ _ _ _ us hl => by obtain ⟨_, rfl⟩ := usl1 hl; rfl
theorem bd_is_way {K : PySem.W.Frag} {mg : Str → Option Value} (T : Txt K mg) : Binds K T.d_is_way ["many", "thing"] [] := T.F_is_way.binds fun _ _ _ _ _ _ us hl => by obtain ⟨_, _, rfl⟩ := usl2 hl; rfl
theorem bd_is_frame {K : PySem.W.Frag} {mg : Str → Option Value} (T : Txt K mg) : Binds K T.d_is_frame ["thing"] [] := T.F_is_frame.binds fun _ _ _ _ _ _ us hl => by obtain ⟨_, rfl⟩ := usl1 hl; rfl
theorem bd_land_of {K : PySem.W.Frag} {mg : Str → Option Value} (T : Txt K mg) : Binds K T.d_land_of ["thing"] [] := T.F_land_of.binds fun _ _ _ _ _ _ us hl => by obtain ⟨_, rfl⟩ := usl1 hl; rfl
theorem bd_hand {K : PySem.W.Frag} {mg : Str → Option Value} (T : Txt K mg) : Binds K T.d_hand ["_law_script"] [] := T.F_hand.binds fun _ _ _ _ _ _ us hl => by obtain ⟨_, rfl⟩ := usl1 hl; rfl
theorem bd_next {K : PySem.W.Frag} {mg : Str → Option Value} (T : Txt K mg) : Binds K T.d_next ["_law_hand_here"] [] := T.F_next.binds fun _ _ _ _ _ _ us hl => by obtain ⟨_, rfl⟩ := usl1 hl; rfl
theorem bd_take {K : PySem.W.Frag} {mg : Str → Option Value} (T : Txt K mg) : Binds K T.d_take ["_law_hand_here"] [] := T.F_take.binds fun _ _ _ _ _ _ us hl => by obtain ⟨_, rfl⟩ := usl1 hl; rfl
theorem bd_draw {K : PySem.W.Frag} {mg : Str → Option Value} (T : Txt K mg) : Binds K T.d_draw ["_law_hand_here", "_law_many"] [] := T.F_draw.binds fun _ _ _ _ _ _ us hl => by obtain ⟨_, _, rfl⟩ := usl2 hl; rfl
theorem bd_scale {K : PySem.W.Frag} {mg : Str → Option Value} (T : Txt K mg) : Binds K T.d_scale ["_law_hand_here"] [] := T.F_scale.binds fun _ _ _ _ _ _ us hl => by obtain ⟨_, rfl⟩ := usl1 hl; rfl
theorem bd_change {K : PySem.W.Frag} {mg : Str → Option Value} (T : Txt K mg) : Binds K T.d_change ["_law_hand_here", "_law_scale_here"] [] := T.F_change.binds fun _ _ _ _ _ _ us hl => by obtain ⟨_, _, rfl⟩ := usl2 hl; rfl
theorem bd_land {K : PySem.W.Frag} {mg : Str → Option Value} (T : Txt K mg) : Binds K T.d_land ["_law_hand_here", "_law_places", "_law_ways", "_law_scale_here"] [] := T.F_land.binds fun _ _ _ _ _ _ us hl => by obtain ⟨_, _, _, _, rfl⟩ := usl4 hl; rfl
theorem bd_law_is_whole {K : PySem.W.Frag} {mg : Str → Option Value} (T : Txt K mg) : Binds K T.d_law_is_whole ["_law_thing"] [] := T.F_law_is_whole.binds fun _ _ _ _ _ _ us hl => by obtain ⟨_, rfl⟩ := usl1 hl; rfl
theorem bd_odd {K : PySem.W.Frag} {mg : Str → Option Value} (T : Txt K mg) : Binds K T.d_odd ["_law_hand_here", "_law_many"] [] := T.F_odd.binds fun _ _ _ _ _ _ us hl => by obtain ⟨_, _, rfl⟩ := usl2 hl; rfl
theorem bd_law_is_way {K : PySem.W.Frag} {mg : Str → Option Value} (T : Txt K mg) : Binds K T.d_law_is_way ["_law_many", "_law_thing"] [] := T.F_law_is_way.binds fun _ _ _ _ _ _ us hl => by obtain ⟨_, _, rfl⟩ := usl2 hl; rfl
theorem bd_fault {K : PySem.W.Frag} {mg : Str → Option Value} (T : Txt K mg) : Binds K T.d_fault ["_law_thing"] [] := T.F_fault.binds fun _ _ _ _ _ _ us hl => by obtain ⟨_, rfl⟩ := usl1 hl; rfl
theorem bd_spoilt {K : PySem.W.Frag} {mg : Str → Option Value} (T : Txt K mg) : Binds K T.d_spoilt ["_law_hand_here", "_law_many", "_law_ways"] [] := T.F_spoilt.binds fun _ _ _ _ _ _ us hl => by obtain ⟨_, _, _, rfl⟩ := usl3 hl; rfl
theorem bd_refused {K : PySem.W.Frag} {mg : Str → Option Value} (T : Txt K mg) : Binds K T.d_refused ["_law_thing"] [] := T.F_refused.binds fun _ _ _ _ _ _ us hl => by obtain ⟨_, rfl⟩ := usl1 hl; rfl
theorem bd_taken {K : PySem.W.Frag} {mg : Str → Option Value} (T : Txt K mg) : Binds K T.d_taken ["_law_many", "_law_ways"] [] := T.F_taken.binds fun _ _ _ _ _ _ us hl => by obtain ⟨_, _, rfl⟩ := usl2 hl; rfl
theorem bd_law {K : PySem.W.Frag} {mg : Str → Option Value} (T : Txt K mg) : Binds K T.d_law ["_law_script"] [] := T.F_law.binds fun _ _ _ _ _ _ us hl => by obtain ⟨_, rfl⟩ := usl1 hl; rfl
theorem bd_i_BadLand {K : PySem.W.Frag} {mg : Str → Option Value} (T : Txt K mg) : Binds K T.xd_BadLand ["self", "at"] [] := T.F_BadLand.binds fun _ _ _ _ _ _ us hl => match us, hl with | [_, _], _ => rfl
theorem in_BadLand {P : Program} {w : World} {K : PySem.W.Frag} {mg : Str → Option Value} {base : Heap} (T : Txt K mg) : InitP P w K mg base 1 T.xi_BadLand T.c_BadLand "at" := T.xc_BadLand.init T.F_BadLand rfl sc_i_BadLand (bd_i_BadLand T)
section
variable {P : Program} {w : World} {K : PySem.W.Frag} {mg : Str → Option Value} {base : Heap}
theorem ok_hand (T : Txt K mg) : FnOk P w K mg base CX0 1 T.a_hand T.d_hand ["_law_script"] (spHand K) := by
  refine T.F_hand.ok sc_hand (fun vs H Q E h => ?_) (fun cdv A outer s H vs Q E hr h => ?_)
  · obtain ⟨a, ns, rfl, _⟩ := h
    rfl
  · obtain ⟨a, ns, rfl, hS, k⟩ := h
    refine ⟨_, (pss_one (ps_ret (pe_lst (pa_cons (pe_callTy call_list_of rfl T.n_list bt_list (pa_cons (pe_slice sl_list (pv 0) po_none (po_some pe_int)) pa_nil se_Subscript) (he := se_Subscript) (hpl := np_nil)) (pa_cons pe_int (pa_cons pe_int (pa_cons pe_int (pa_cons pe_int (pa_cons pe_int pa_nil se_Constant) se_Constant) se_Constant) se_Constant) se_Constant) se_Call)))), ?_⟩
    refine ⟨_, rfl, _, rfl, a, _, rfl, hS, fun p1 h1 => ⟨p1, _, rfl, .inl (SqL.of upd_same), fun l hl => ⟨(by show 6 ≤ sizeLine; decide), fun p hp => ?_⟩⟩⟩
    have n1 : p ≠ p1 := (ne_of_none (H := upd (upd H p1 _) l _) (by rw [upd_ne (ne_of_none upd_same hl)]; exact upd_same) hp).symm
    have n2 : p ≠ l := (ne_of_none (H := upd (upd H p1 _) l _) upd_same hp).symm
    have hp0 : H p = none := by rw [upd_ne n2, upd_ne n1] at hp; exact hp
    have hl0 : H l = none := by
      have nl : l ≠ p1 := (ne_of_none upd_same hl).symm
      rw [upd_ne nl] at hl; exact hl
    refine k p l _ hp0 hl0 ⟨(ns.drop (HT.sIx (ns.map V.int).length 0 none)).take (HT.sIx (ns.map V.int).length (ns.map V.int).length (some 63) - HT.sIx (ns.map V.int).length 0 none), 0, 0, 0, 20011, 40009, ?_, Int.le_refl _, upd_same⟩ (((Same.refl H).lay h1).lay hl |>.lay hp)
    rw [upd_ne n2.symm, upd_same]
    unfold cutV
    rw [List.map_take, List.map_drop]
theorem ok_next (T : Txt K mg) : FnOk P w K mg base CX0 1 T.a_next T.d_next ["_law_hand_here"] spNext := by
  refine T.F_next.ok sc_next (fun vs H Q E h => ?_) (fun cdv A outer s H vs Q E hr h => ?_)
  · obtain ⟨a, l, rfl, _⟩ := h
    rfl
  · obtain ⟨a, l, rfl, ⟨ns, p, b, c, u, v, hl, hp, ha⟩, k⟩ := h
    have ne := ne_hand hl ha
    refine ⟨_, (pss_cons (ps_asg (pe_op op_mod (pe_op op_mul (pe_ix ix_list (pv 0) pe_int (fun _ _ => rfl)) pe_int) pe_int) (pg_sub (pv 0) pe_int set_list))
      (pss_cons (ps_asg (pe_op op_mod (pe_op op_mul (pe_ix ix_list (pv 0) pe_int (fun _ _ => rfl)) pe_int) pe_int) (pg_sub (pv 0) pe_int set_list))
      (pss_one (ps_ret (pe_op op_add (pe_ix ix_list (pv 0) pe_int (fun _ _ => rfl)) (pe_ix ix_list (pv 0) pe_int (fun _ _ => rfl))))))), ?_⟩
    refine ⟨_, rfl, a, _, _, _, rfl, rfl, SqL.of ha, rfl, _, _, rfl, rfl, .inr ⟨by decide, by decide⟩, _, _, rfl, rfl, (by first | decide | (dsimp only; decide)), _, rfl, a, _, _, _, rfl, rfl, ha, rfl, ?_⟩
    refine ⟨_, rfl, a, _, _, _, rfl, rfl, SqL.of upd_same, rfl, _, _, rfl, rfl, .inr ⟨by decide, by decide⟩, _, _, rfl, rfl, (by first | decide | (dsimp only; decide)), _, rfl, a, _, _, _, rfl, rfl, upd_same, rfl, ?_⟩
    refine ⟨_, rfl, a, _, _, _, rfl, rfl, SqL.of upd_same, rfl, _, rfl, a, _, _, _, rfl, rfl, SqL.of upd_same, rfl, _, _, rfl, rfl, ?_⟩
    exact k _ _ ⟨ns, p, b, c, _, _, by rw [upd_ne ne, upd_ne ne]; exact hl, hp, upd_same⟩ fun b o e nb => by rw [upd_ne nb, upd_ne nb]; exact e
theorem ok_take (T : Txt K mg) : FnOk P w K mg base CX0 2 T.a_take T.d_take ["_law_hand_here"] spTake := by
  have G_next : FnOk P w K mg base CX0 1 T.a_next T.d_next ["_law_hand_here"] spNext := ok_next T
  have b_next := bd_next T
  refine T.F_take.ok sc_take (fun vs H Q E h => ?_) (fun cdv A outer s H vs Q E hr h => ?_)
  · obtain ⟨a, l, rfl, _⟩ := h
    rfl
  · obtain ⟨a, l, rfl, ⟨ns, p, b, c, u, v, hl, hp, ha⟩, k⟩ := h
    have ne := ne_hand hl ha
    refine ⟨_, (pss_cons (ps_set (i := 1) sc_take.nd rfl (Or.inl rfl) pe_int)
      (pss_cons (ps_mid (ps_if (pt_cmpR op_lt (pe_ix ix_list (pv 0) pe_int (fun _ _ => rfl)) (pe_callB call_len_seq rfl T.n_len bt_len (pa_cons (pe_ix ix_list (pv 0) pe_int (fun _ _ => rfl)) pa_nil se_Subscript) (he := se_Subscript) (hpl := np_nil)) (nomark _))
      (pss_one (ps_set (i := 1) sc_take.nd rfl (Or.inl rfl) (pe_callB call_abs rfl T.n_abs bt_abs (pa_cons (pe_ix ix_list (pe_ix ix_list (pv 0) pe_int (fun _ _ => rfl)) (pe_ix ix_list (pv 0) pe_int (fun _ _ => rfl)) (fun _ _ => rfl)) pa_nil se_Subscript) (he := se_Subscript) (hpl := np_nil))))
      pss_nil))
      (pss_cons (ps_augS (pv 0) pe_int get_list pe_int ip_add set_list)
      (pss_cons (ps_mid (ps_if (pt_cmpR op_ge (pv 1) (pe_op op_pow pe_int pe_int) (nomark _))
      (pss_one (ps_asg (pv 1) (pg_sub (pv 0) pe_int set_list)))
      (pss_one (ps_asg pe_int (pg_sub (pv 0) pe_int set_list)))))
      (pss_cons (ps_asg (pe_op op_add (pe_op op_mod (pe_op op_add (pe_ix ix_list (pv 0) pe_int (fun _ _ => rfl)) (pe_op op_mod (pv 1) pe_int)) pe_int) pe_int) (pg_sub (pv 0) pe_int set_list))
      (pss_cons (ps_asg (pe_op op_add (pe_op op_mod (pe_op op_add (pe_op op_mul (pe_ix ix_list (pv 0) pe_int (fun _ _ => rfl)) pe_int) (pe_op op_mod (pv 1) pe_int)) pe_int) pe_int) (pg_sub (pv 0) pe_int set_list))
      (pss_cons (ps_expr (pe_call G_next (hr.mono (by decide)) rfl T.mg_next T.kp_next b_next .nil pass0 (pa_cons (pv 0) pa_nil se_Name) (he := se_Name) (hpl := np_nil)))
      (pss_one (ps_expr (pe_call G_next (hr.mono (by decide)) rfl T.mg_next T.kp_next b_next .nil pass0 (pa_cons (pv 0) pa_nil se_Name) (he := se_Name) (hpl := np_nil))))))))))), ?_⟩
    refine ⟨fun σ H1 => H = H1 ∧ ∃ z : Int, σ = [some (.ref a), some (.int z)], ?_, ?_⟩
    · refine ⟨_, rfl, a, _, _, _, rfl, rfl, SqL.of ha, rfl, _, rfl, a, _, _, _, rfl, rfl, SqL.of ha, rfl, l, _, rfl, .inl (SqL.of hl), _, _, rfl, rfl, _, rfl, ?_⟩
      refine ite2 (fun hlt => ?_) (fun _ => ⟨rfl, _, rfl⟩)
      have hlt' : p < (ns.length : Int) := by simpa using hlt
      obtain ⟨z, hz⟩ := atI_ints hp hlt'
      exact ⟨_, rfl, a, _, _, _, rfl, rfl, SqL.of ha, rfl, _, rfl, a, _, _, _, rfl, rfl, SqL.of ha, rfl, l, _, _, _, rfl, rfl, SqL.of hl, hz, _, rfl, rfl, _, rfl⟩
    · rintro σ H1 ⟨rfl, z, rfl⟩
      refine ⟨_, rfl, a, _, _, _, rfl, rfl, (by first | decide | (dsimp only; decide)), SqL.of ha, rfl, _, _, rfl, rfl, a, _, _, _, rfl, rfl, ha, rfl, ?_⟩
      refine ⟨fun σ H1 => σ = [some (.ref a), some (.int z)] ∧ Hd H1 a l ∧ Kp a H H1, ?_, ?_⟩
      · refine ⟨_, rfl, _, _, rfl, rfl, ⟨by decide, by decide, by decide⟩, _, _, rfl, rfl, _, rfl, ?_⟩
        refine ite2 (fun _ => ?_) (fun _ => ?_)
        · refine ⟨_, rfl, _, rfl, a, _, _, _, rfl, rfl, upd_same, rfl, rfl, ⟨ns, p + 1, _, _, _, _, by rw [upd_ne ne, upd_ne ne]; exact hl, by omega, upd_same⟩, fun b o e nb => by rw [upd_ne nb, upd_ne nb]; exact e⟩
        · refine ⟨_, rfl, a, _, _, _, rfl, rfl, upd_same, rfl, rfl, ⟨ns, p + 1, _, _, _, _, by rw [upd_ne ne, upd_ne ne]; exact hl, by omega, upd_same⟩, fun b o e nb => by rw [upd_ne nb, upd_ne nb]; exact e⟩
      · rintro σ H1 ⟨rfl, ⟨ns, p, b, c, u, v, hl, hp, ha⟩, k1⟩
        have ne := ne_hand hl ha
        refine ⟨_, rfl, a, _, _, _, rfl, rfl, SqL.of ha, rfl, _, rfl, _, _, rfl, rfl, (by first | decide | (dsimp only; decide)), _, _, rfl, rfl, _, _, rfl, rfl, (by first | decide | (dsimp only; decide)), _, _, rfl, rfl, _, rfl, a, _, _, _, rfl, rfl, ha, rfl, ?_⟩
        refine ⟨_, rfl, a, _, _, _, rfl, rfl, SqL.of upd_same, rfl, _, _, rfl, rfl, .inr ⟨by decide, by decide⟩, _, rfl, _, _, rfl, rfl, (by first | decide | (dsimp only; decide)), _, _, rfl, rfl, _, _, rfl, rfl, (by first | decide | (dsimp only; decide)), _, _, rfl, rfl, _, rfl, a, _, _, _, rfl, rfl, upd_same, rfl, ?_⟩
        refine ⟨_, rfl, a, l, rfl, ⟨ns, p, _, _, _, _, by rw [upd_ne ne, upd_ne ne]; exact hl, hp, upd_same⟩, fun r H2 h2 k2 => ?_⟩
        refine ⟨_, rfl, a, l, rfl, h2, fun r H3 h3 k3 => ?_⟩
        exact k H3 h3 (((k1.trans fun b o e nb => by rw [upd_ne nb, upd_ne nb]; exact e).trans k2).trans k3)
theorem ok_draw (T : Txt K mg) : FnOk P w K mg base CX0 3 T.a_draw T.d_draw ["_law_hand_here", "_law_many"] spDraw := by
  have G_next : FnOk P w K mg base CX0 1 T.a_next T.d_next ["_law_hand_here"] spNext := ok_next T
  have G_take : FnOk P w K mg base CX0 2 T.a_take T.d_take ["_law_hand_here"] spTake := ok_take T
  have b_next := bd_next T
  have b_take := bd_take T
  refine T.F_draw.ok sc_draw (fun vs H Q E h => ?_) (fun cdv A outer s H vs Q E hr h => ?_)
  · obtain ⟨a, l, m, rfl, _⟩ := h
    rfl
  · obtain ⟨a, l, m, rfl, hd, hm0, hm1, k⟩ := h
    refine ⟨_, (pss_cons (ps_mid (ps_if (PW.pt (pw_and (pt_cmpR op_eq (pe_ix ix_list (pv 0) pe_int (fun _ _ => rfl)) pe_int (nomark _)) (pw_and1 (pt_cmpR op_eq (pe_ix ix_list (pv 0) pe_int (fun _ _ => rfl)) pe_int (nomark _)))))
      (pss_one (ps_expr (pe_call G_take (hr.mono (by decide)) rfl T.mg_take T.kp_take b_take .nil pass0 (pa_cons (pv 0) pa_nil se_Name) (he := se_Name) (hpl := np_nil))))
      pss_nil))
      (pss_cons (ps_mid (ps_if (pt_cmpR op_gt (pe_ix ix_list (pv 0) pe_int (fun _ _ => rfl)) pe_int (nomark _))
      (pss_cons (ps_set (i := 2) sc_draw.nd rfl (Or.inl rfl) (pe_op op_mod (pe_ix ix_list (pv 0) pe_int (fun _ _ => rfl)) (pv 1)))
      (pss_cons (ps_asg (pe_op op_fdivB (pe_ix ix_list (pv 0) pe_int (fun _ _ => rfl)) (pv 1)) (pg_sub (pv 0) pe_int set_list))
      (pss_one (ps_ret (pv 2)))))
      pss_nil))
      (pss_cons (ps_augS (pv 0) pe_int get_list pe_int ip_sub set_list)
      (pss_cons (ps_set (i := 3) sc_draw.nd rfl (Or.inl rfl) (pe_call G_next (hr.mono (by decide)) rfl T.mg_next T.kp_next b_next .nil pass0 (pa_cons (pv 0) pa_nil se_Name) (he := se_Name) (hpl := np_nil)))
      (pss_cons (ps_set (i := 4) sc_draw.nd rfl (Or.inl rfl) pe_int)
      (pss_cons (ps_while PassesOwn.never (pt_cmpR op_lt (pv 4) (pv 1) (nomark _))
      (pss_cons (ps_set (i := 3) sc_draw.nd rfl (Or.inl rfl) (pe_op op_add (pe_op op_mul (pv 3) pe_int) (pe_call G_next (hr.mono (by decide)) rfl T.mg_next T.kp_next b_next .nil pass0 (pa_cons (pv 0) pa_nil se_Name) (he := se_Name) (hpl := np_nil))))
      (pss_one (ps_set (i := 4) sc_draw.nd rfl (Or.inl rfl) (pe_op op_mul (pv 4) pe_int)))))
      (pss_one (ps_ret (pe_op op_mod (pv 3) (pv 1)))))))))), ?_⟩
    refine ⟨fun σ H1 => σ = [some (.ref a), some (.int m), none, none, none] ∧ Hd H1 a l ∧ Kp a H H1, ?_, ?_⟩
    · obtain ⟨ns, p, b, c, u, v, hl, hp, ha⟩ := id hd
      refine ⟨_, rfl, a, _, _, _, rfl, rfl, SqL.of ha, rfl, rfl, _, rfl, ?_⟩
      refine ite2 (fun _ => ?_) (fun _ => iteF ⟨rfl, hd, .refl a H⟩)
      refine ⟨_, rfl, a, _, _, _, rfl, rfl, SqL.of ha, rfl, rfl, _, rfl, ?_⟩
      refine ite2 (fun _ => ?_) (fun _ => ⟨rfl, hd, .refl a H⟩)
      exact ⟨_, rfl, a, l, rfl, hd, fun H1 h1 k1 => ⟨rfl, h1, k1⟩⟩
    · rintro σ H1 ⟨rfl, ⟨ns, p, b, c, u, v, hl, hp, ha⟩, k1⟩
      have ne := ne_hand hl ha
      refine ⟨fun σ H2 => H1 = H2 ∧ σ = [some (.ref a), some (.int m), none, none, none], ?_, ?_⟩
      · refine ⟨_, rfl, a, _, _, _, rfl, rfl, SqL.of ha, rfl, _, _, rfl, rfl, _, rfl, ?_⟩
        refine ite2 (fun _ => ?_) (fun _ => ⟨rfl, rfl⟩)
        refine ⟨_, rfl, a, _, _, _, rfl, rfl, SqL.of ha, rfl, _, rfl, _, _, rfl, rfl, hm0, ?_⟩
        refine ⟨_, rfl, a, _, _, _, rfl, rfl, SqL.of ha, rfl, _, rfl, _, _, rfl, rfl, ⟨hm0, hm1⟩, _, rfl, a, _, _, _, rfl, rfl, ha, rfl, ?_⟩
        refine ⟨_, rfl, ?_⟩
        exact k _ _ (Int.emod_nonneg _ (by omega)) (Int.emod_lt_of_pos _ hm0) ⟨ns, p, _, _, _, _, by rw [upd_ne ne]; exact hl, hp, upd_same⟩ (k1.trans fun b o e nb => by rw [upd_ne nb]; exact e)
      · rintro σ H2 ⟨rfl, rfl⟩
        refine ⟨_, rfl, a, _, _, _, rfl, rfl, (by first | decide | (dsimp only; decide)), SqL.of ha, rfl, _, _, rfl, rfl, a, _, _, _, rfl, rfl, ha, rfl, ?_⟩
        refine ⟨_, rfl, a, l, rfl, ⟨ns, p, _, _, _, _, by rw [upd_ne ne]; exact hl, hp, upd_same⟩, fun r H3 h3 k3 => ?_⟩
        have k3' : Kp a H H3 := (k1.trans fun b o e nb => by rw [upd_ne nb]; exact e).trans k3
        refine while_by (fun σ H4 => ∃ (val sz : Int), σ = [some (.ref a), some (.int m), none, some (.int val), some (.int sz)] ∧ Hd H4 a l ∧ Kp a H H4 ∧ 0 < sz)
          (fun σ _ => match σ with | [_, _, _, _, some (.int sz)] => (m - sz).toNat | _ => 0) ⟨r, 4294967296, rfl, h3, k3', by decide⟩ ?_ (fun σ H Q Q' f ⟨v, e1, u, e2, i, j, e3, e4, c, e5, q⟩ => ⟨v, e1, u, e2, i, j, e3, e4, c, e5, f _ _ q⟩)
        rintro σ H4 ⟨val, sz, rfl, h4, k4, hsz⟩
        refine ⟨_, rfl, _, rfl, _, _, rfl, rfl, _, rfl, ?_⟩
        refine ite2 (fun hlt => ?_) (fun _ => ?_)
        · have hlt' : sz < m := by simpa using hlt
          refine ⟨_, rfl, _, _, rfl, rfl, .inr ⟨by decide, by decide⟩, _, rfl, a, l, rfl, h4, fun r H5 h5 k5 => ⟨_, _, rfl, rfl, ?_⟩⟩
          refine ⟨_, rfl, _, _, rfl, rfl, .inr ⟨by decide, by decide⟩, ?_⟩
          refine ⟨⟨_, sz * 4294967296, rfl, h5, k4.trans k5, by omega⟩, ?_⟩
          show (m - sz * 4294967296).toNat < (m - sz).toNat
          omega
        · refine ⟨_, rfl, _, rfl, _, _, rfl, rfl, hm0, ?_⟩
          exact k _ _ (Int.emod_nonneg _ (by omega)) (Int.emod_lt_of_pos _ hm0) h4 k4
end
local macro_rules | `(tactic| decreasing_tactic) => `(tactic| try dsimp only [dSeq, dSeqG, dSet, dOwn, dOp, dVar, dIfS, dT, dRet, dDrop, dCb, dCons, dNil, dC, dF, dLst, dTup, dNeg, dNot, dAnd, dOr, dAndV, dOrV, dNotV, dBV, dIf, dChain, dIx, dIxV, dLenV, dListV, dList, dSlV, dSl, dCat, dRep, dIsiV, dIsi, dCall, aNil, aV, aS, arsD, arD, isSl, slotD, bnd_some, ixD, lenD, listD, itemsD, gI, gI0, gAdd, gMns, gMul, gMod, gDiv, gPow, gLt, gLe, gGt, gGe, gEq, gIsN, isN, gLen, gMin, gMax, gI2, gAbs, gInt, gAll, gAny, dNext, dLrev, dApp, dIns, dEqV, dSetI, dAsg, gN, gT2, gT3, gT5, gInS, strsD, gMaxP, dPopI, dLrng, dZip, dCompT2, dComp, dCompT3, dIndexV, gIn, gB2, oN, oS, startN, slOf, a1_0, a2_0, a2_1, a3_0, a3_1, a3_2, isiD, tyD, List.tail_cons, List.tail_nil, List.getElem?_cons_zero, List.getElem?_cons_succ, List.set_cons_zero, List.set_cons_succ, List.length_cons, List.length_nil, Option.bind_some, Option.map_some, List.cons_append, List.nil_append, iteTT, iteFF, iteTB, iteFB, iteTI, iteFI, Bool.not_true, Bool.not_false, dTupV, dTupE, dDict0, dNewP, dNewL, dNeL, gSum, dRevV, dCompU, dCompS2, dTry, dCallX, dRz, xkD, dLVar, lentD, dIxL, dFlat, flatD, dLenL, dIsiL, dIsNL, dListL, dLendE, dLendB, noBB, dNewT, flatM, dMutA, dMutN, dMutC, aW, dNinD, dCallS, arsS, arS])
local macro_rules | `(tactic| array_get_dec) => `(tactic| try dsimp only [dFor, dIl, dIv, dIt, dRng1, dRng2, dEnum, dIrev, dIL, dEnumL, dSeq, dSeqG, dSet, dOwn, dOp, dVar, dIfS, dT, dRet, dDrop, dCb, dCons, dNil, dC, dF, dLst, dTup, dNeg, dNot, dAnd, dOr, dAndV, dOrV, dNotV, dBV, dIf, dChain, dIx, dIxV, dLenV, dListV, dList, dSlV, dSl, dCat, dRep, dIsiV, dIsi, dCall, aNil, aV, aS, arsD, arD, isSl, slotD, bnd_some, ixD, lenD, listD, itemsD, gI, gI0, gAdd, gMns, gMul, gMod, gDiv, gPow, gLt, gLe, gGt, gGe, gEq, gIsN, isN, gLen, gMin, gMax, gI2, gAbs, gInt, gAll, gAny, dNext, dLrev, dApp, dIns, dEqV, dSetI, dAsg, gN, gT2, gT3, gT5, gInS, strsD, gMaxP, dPopI, dLrng, dZip, dCompT2, dComp, dCompT3, dIndexV, gIn, gB2, oN, oS, startN, slOf, a1_0, a2_0, a2_1, a3_0, a3_1, a3_2, isiD, tyD, List.tail_cons, List.tail_nil, List.getElem?_cons_zero, List.getElem?_cons_succ, List.set_cons_zero, List.set_cons_succ, List.length_cons, List.length_nil, Option.bind_some, Option.map_some, List.cons_append, List.nil_append, iteTT, iteFF, iteTB, iteFB, iteTI, iteFI, Bool.not_true, Bool.not_false, dTupV, dTupE, dDict0, dNewP, dNewL, dNeL, gSum, dRevV, dCompU, dCompS2, dTry, dCallX, dRz, xkD, dLVar, lentD, dIxL, dFlat, flatD, dLenL, dIsiL, dIsNL, dListL, dLendE, dLendB, noBB, dNewT, flatM, dMutA, dMutN, dMutC, aW, dNinD, dCallS, arsS, arS])
local macro_rules | `(tactic| sizeOf_list_dec) => `(tactic| try dsimp only [Blk, dSeq, dSeqG, dSet, dOwn, dOp, dVar, dIfS, dT, dRet, dDrop, dCb, dCons, dNil, dC, dF, dLst, dTup, dNeg, dNot, dAnd, dOr, dAndV, dOrV, dNotV, dBV, dIf, dChain, dIx, dIxV, dLenV, dListV, dList, dSlV, dSl, dCat, dRep, dIsiV, dIsi, dCall, aNil, aV, aS, arsD, arD, isSl, slotD, bnd_some, ixD, lenD, listD, itemsD, gI, gI0, gAdd, gMns, gMul, gMod, gDiv, gPow, gLt, gLe, gGt, gGe, gEq, gIsN, isN, gLen, gMin, gMax, gI2, gAbs, gInt, gAll, gAny, dNext, dLrev, dApp, dIns, dEqV, dSetI, dAsg, gN, gT2, gT3, gT5, gInS, strsD, gMaxP, dPopI, dLrng, dZip, dCompT2, dComp, dCompT3, dIndexV, gIn, gB2, oN, oS, startN, slOf, a1_0, a2_0, a2_1, a3_0, a3_1, a3_2, isiD, tyD, List.tail_cons, List.tail_nil, List.getElem?_cons_zero, List.getElem?_cons_succ, List.set_cons_zero, List.set_cons_succ, List.length_cons, List.length_nil, Option.bind_some, Option.map_some, List.cons_append, List.nil_append, iteTT, iteFF, iteTB, iteFB, iteTI, iteFI, Bool.not_true, Bool.not_false, dTupV, dTupE, dDict0, dNewP, dNewL, dNeL, gSum, dRevV, dCompU, dCompS2, dTry, dCallX, dRz, xkD, dLVar, lentD, dIxL, dFlat, flatD, dLenL, dIsiL, dIsNL, dListL, dLendE, dLendB, noBB, dNewT, flatM, dMutA, dMutN, dMutC, aW, dNinD, dCallS, arsS, arS])
theorem units_of {k : Nat} {A : Around} (hr : Room k A) : A.units + 64 < cLine := hr.units
def spDrawD : DSp := fun ds Q => ∃ m : Int, ds = [.none, .int m] ∧ 0 < m ∧ m < 100000000000000000000000000000000000000000000000000000000000000 ∧ ∀ r : Int, 0 ≤ r → r < m → Q (.int r)
theorem hd_args {F : Addr → Prop} {hand : Option (Addr × Addr)} {H : Hp} {vs : List V} {ds : List PyData} {ms : List Md} (a : ArgsR F hand H (.hd :: ms) vs ds) : ∃ q vs' d ds', hand = some q ∧ vs = .ref q.1 :: vs' ∧ ds = d :: ds' ∧ ArgsR F hand H ms vs' ds' := by
  cases a with
  | cons x t =>
    obtain ⟨q, e, rfl⟩ := x
    exact ⟨q, _, _, _, e, rfl, rfl, t⟩
section
variable {P : Program} {w : World} {K : PySem.W.Frag} {mg : Str → Option Value} {base : Heap}
theorem ok_drawD (T : Txt K mg) : FnOk P w K mg base CX0 3 T.a_draw T.d_draw ["_law_hand_here", "_law_many"] (spD [.hd, .sh] spDrawD) := (ok_draw T).imp fun vs H Q E h => by
  obtain ⟨F, hand, ds, Qd, h1, h2, h3, a, ⟨m, rfl, m0, m1, hr⟩, h5⟩ := h
  obtain ⟨q, vs', d, ds', e, rfl, e2, a⟩ := hd_args a
  cases e2
  subst e
  cases a with
  | cons x t =>
    cases t
    cases (show ThV F H _ (.int m) from x)
    exact ⟨q.1, q.2, m, rfl, h3 q rfl, m0, m1, fun r H' r0 r1 hd kp => h5 _ _ _ (hr r r0 r1) (.int r) (fun b o eb n => kp b o eb (n q rfl)) fun q' e' => by cases e'; exact hd⟩
end
def oD : Option Int → PyData
  | none => .none
  | some i => .int i
def tabL (t : List (Option Int)) : List PyData := t.map oD
def wayD (w : Wy) : PyData := .tuple [.int ((w.1 : Nat) : Int), .int ((w.2.1 : Nat) : Int), .int w.2.2]
def landD (m : Nat) (ws : List Wy) : PyData := .tuple [.int ((m : Nat) : Int), .list (ws.map wayD)]
def onD : Option Nat → PyData := fun _ => .none
def effD : Option Nat → PyData := fun _ => .none
def rowD : Option Nat → PyData := fun _ => .none
def partD : Option Nat → PyData := fun _ => .none
theorem len_tab {t : List (Option Int)} : (tabL t).length = t.length := by unfold tabL; rw [List.length_map]
theorem tab_at {t : List (Option Int)} {p : Nat} (h : p < t.length) : atI (tabL t) ((p : Nat) : Int) = some (oD (gt t p)) := atI_nat (by unfold tabL; rw [List.getElem?_map, gt_at h]; rfl)
theorem ixN_nat {n j : Nat} (h : j < n) : ixN n ((j : Nat) : Int) = some j := by
  unfold ixN
  rw [if_pos (by omega), if_pos (by omega)]; rfl
theorem rngD0 (n : Nat) : rngD 0 n = (List.range n).map fun k => PyData.int ((k : Nat) : Int) := by
  unfold rngD
  exact List.map_congr_left fun k _ => by rw [Int.zero_add]
theorem min0 (i j : Int) : min (PyData.depth (.int i)) (PyData.depth (.int j)) ≤ 64 := by show min 0 0 ≤ 64; decide
theorem eqv_int (i j : Int) : PyData.eqv (.int i) (.int j) = (i == j) := by rw [PyData.eqv]
def sptD (s : Spt) : PyData := .tuple [.int ((s.1 : Nat) : Int), .int ((s.2 : Nat) : Int)]
def mvD (x : PyData × Mv) : PyData := .tuple [x.1, sptD x.2.1, sptD x.2.2.1, .int x.2.2.2]
def rowsC (t : Ct) : List (List PyData) := t.map tabL
local macro_rules | `(tactic| decreasing_trivial) => `(tactic| try dsimp only [dSeq, dSeqG, dSet, dOwn, dOp, dVar, dIfS, dT, dRet, dDrop, dCb, dCons, dNil, dC, dF, dLst, dTup, dNeg, dNot, dAnd, dOr, dAndV, dOrV, dNotV, dBV, dIf, dChain, dIx, dIxV, dLenV, dListV, dList, dSlV, dSl, dCat, dRep, dIsiV, dIsi, dCall, aNil, aV, aS, arsD, arD, isSl, slotD, bnd_some, ixD, lenD, listD, itemsD, gI, gI0, gAdd, gMns, gMul, gMod, gDiv, gPow, gLt, gLe, gGt, gGe, gEq, gIsN, isN, gLen, gMin, gMax, gI2, gAbs, gInt, gAll, gAny, dNext, dLrev, dApp, dIns, dEqV, dSetI, dAsg, gN, gT2, gT3, gT5, gInS, strsD, gMaxP, dPopI, dLrng, dZip, dCompT2, dComp, dCompT3, dIndexV, gIn, gB2, oN, oS, startN, slOf, a1_0, a2_0, a2_1, a3_0, a3_1, a3_2, isiD, tyD, List.tail_cons, List.tail_nil, List.getElem?_cons_zero, List.getElem?_cons_succ, List.set_cons_zero, List.set_cons_succ, List.length_cons, List.length_nil, Option.bind_some, Option.map_some, List.cons_append, List.nil_append, iteTT, iteFF, iteTB, iteFB, iteTI, iteFI, Bool.not_true, Bool.not_false, dTupV, dTupE, dDict0, dNewP, dNewL, dNeL, gSum, dRevV, dCompU, dCompS2, dTry, dCallX, dRz, xkD, dLVar, lentD, dIxL, dFlat, flatD, dLenL, dIsiL, dIsNL, dListL, dLendE, dLendB, noBB, dNewT, flatM, dMutA, dMutN, dMutC, aW, dNinD, dCallS, arsS, arS, oD, onD, effD, rowD, landD, wayD, partD, sptD, mvD])
local macro_rules | `(tactic| array_mem_dec) => `(tactic| try dsimp only [dFor, dIl, dIv, dIt, dRng1, dRng2, dEnum, dIrev, dIL, dEnumL, dSeq, dSeqG, dSet, dOwn, dOp, dVar, dIfS, dT, dRet, dDrop, dCb, dCons, dNil, dC, dF, dLst, dTup, dNeg, dNot, dAnd, dOr, dAndV, dOrV, dNotV, dBV, dIf, dChain, dIx, dIxV, dLenV, dListV, dList, dSlV, dSl, dCat, dRep, dIsiV, dIsi, dCall, aNil, aV, aS, arsD, arD, isSl, slotD, bnd_some, ixD, lenD, listD, itemsD, gI, gI0, gAdd, gMns, gMul, gMod, gDiv, gPow, gLt, gLe, gGt, gGe, gEq, gIsN, isN, gLen, gMin, gMax, gI2, gAbs, gInt, gAll, gAny, dNext, dLrev, dApp, dIns, dEqV, dSetI, dAsg, gN, gT2, gT3, gT5, gInS, strsD, gMaxP, dPopI, dLrng, dZip, dCompT2, dComp, dCompT3, dIndexV, gIn, gB2, oN, oS, startN, slOf, a1_0, a2_0, a2_1, a3_0, a3_1, a3_2, isiD, tyD, List.tail_cons, List.tail_nil, List.getElem?_cons_zero, List.getElem?_cons_succ, List.set_cons_zero, List.set_cons_succ, List.length_cons, List.length_nil, Option.bind_some, Option.map_some, List.cons_append, List.nil_append, iteTT, iteFF, iteTB, iteFB, iteTI, iteFI, Bool.not_true, Bool.not_false, dTupV, dTupE, dDict0, dNewP, dNewL, dNeL, gSum, dRevV, dCompU, dCompS2, dTry, dCallX, dRz, xkD, dLVar, lentD, dIxL, dFlat, flatD, dLenL, dIsiL, dIsNL, dListL, dLendE, dLendB, noBB, dNewT, flatM, dMutA, dMutN, dMutC, aW, dNinD, dCallS, arsS, arS, oD, onD, effD, rowD, landD, wayD, partD, sptD, mvD])
local macro_rules | `(tactic| decreasing_trivial_pre_omega) => `(tactic| try dsimp only [Blk, dSeq, dSeqG, dSet, dOwn, dOp, dVar, dIfS, dT, dRet, dDrop, dCb, dCons, dNil, dC, dF, dLst, dTup, dNeg, dNot, dAnd, dOr, dAndV, dOrV, dNotV, dBV, dIf, dChain, dIx, dIxV, dLenV, dListV, dList, dSlV, dSl, dCat, dRep, dIsiV, dIsi, dCall, aNil, aV, aS, arsD, arD, isSl, slotD, bnd_some, ixD, lenD, listD, itemsD, gI, gI0, gAdd, gMns, gMul, gMod, gDiv, gPow, gLt, gLe, gGt, gGe, gEq, gIsN, isN, gLen, gMin, gMax, gI2, gAbs, gInt, gAll, gAny, dNext, dLrev, dApp, dIns, dEqV, dSetI, dAsg, gN, gT2, gT3, gT5, gInS, strsD, gMaxP, dPopI, dLrng, dZip, dCompT2, dComp, dCompT3, dIndexV, gIn, gB2, oN, oS, startN, slOf, a1_0, a2_0, a2_1, a3_0, a3_1, a3_2, isiD, tyD, List.tail_cons, List.tail_nil, List.getElem?_cons_zero, List.getElem?_cons_succ, List.set_cons_zero, List.set_cons_succ, List.length_cons, List.length_nil, Option.bind_some, Option.map_some, List.cons_append, List.nil_append, iteTT, iteFF, iteTB, iteFB, iteTI, iteFI, Bool.not_true, Bool.not_false, dTupV, dTupE, dDict0, dNewP, dNewL, dNeL, gSum, dRevV, dCompU, dCompS2, dTry, dCallX, dRz, xkD, dLVar, lentD, dIxL, dFlat, flatD, dLenL, dIsiL, dIsNL, dListL, dLendE, dLendB, noBB, dNewT, flatM, dMutA, dMutN, dMutC, aW, dNinD, dCallS, arsS, arS, oD, onD, effD, rowD, landD, wayD, partD, sptD, mvD])
def spStepD : DSp := fun ds Q => ∃ st lv ch : Int, ds = [.int st, .int lv, .int ch] ∧ Q (oD (stepF st lv ch))
def spWiD : DSp := fun ds Q => ∃ a b : Option Int, ds = [oD a, oD b] ∧ Q (.bool (wiF a b))
def spCostAtD : DSp := fun ds Q => ∃ (m n : Nat) (t : Ct) (s : Spt), ds = [.list (lls (rowsC t)), sptD s] ∧ CtOk m n t ∧ s.1 < m ∧ s.2 < n ∧ Q (oD (ca t s))
def spCostByD : DSp := fun ds Q => ∃ (m n : Nat) (t : Ct) (v : PyData × Mv), ds = [.list (lls (rowsC t)), mvD v] ∧ CtOk m n t ∧ v.2.2.1.1 < m ∧ v.2.2.1.2 < n ∧ Q (oD (addO (ca t v.2.2.1) v.2.2.2))
theorem rows_at {m n : Nat} {t : Ct} {p : Nat} (h : CtOk m n t) (hp : p < m) : atI (rowsC t) ((p : Nat) : Int) = some (tabL (t.getD p [])) := atI_nat (by
  have hl : p < t.length := by rw [h.len]; exact hp
  unfold rowsC
  rw [List.getElem?_map, List.getElem?_eq_getElem hl, List.getD_eq_getElem?_getD, List.getElem?_eq_getElem hl]; rfl)
theorem row_len {m n : Nat} {t : Ct} {p : Nat} (h : CtOk m n t) (hp : p < m) : (t.getD p []).length = n := by
  have hl : p < t.length := by rw [h.len]; exact hp
  rw [List.getD_eq_getElem?_getD, List.getElem?_eq_getElem hl]
  exact h.row _ (List.getElem_mem hl)
theorem rowsD_lls (dss : List (List PyData)) : rowsD (.list (lls dss)) = some dss := rowsL_lls dss
section
variable {P : Program} {w : World} {K : PySem.W.Frag} {mg : Str → Option Value} {base : Heap}
end
theorem layAll_ways : ∀ ws : List Wy, PyData.canLayAll0 (ws.map wayD) = true
  | [] => rfl
  | w :: ws => by
    show (PyData.canLay0 (wayD w) && PyData.canLayAll0 (ws.map wayD)) = true
    rw [layAll_ways ws]; rfl
theorem depAll_ways : ∀ ws : List Wy, PyData.depthAll (ws.map wayD) ≤ 1
  | [] => Nat.zero_le _
  | w :: ws => by
    show max (PyData.depth (wayD w)) (PyData.depthAll (ws.map wayD)) ≤ 1
    have := depAll_ways ws
    have h : PyData.depth (wayD w) = 1 := rfl
    omega
theorem landD_lay (m : Nat) (ws : List Wy) : (landD m ws).canLay0 = true := by
  show (PyData.canLay0 (.int m) && (PyData.canLayAll0 (ws.map wayD) && true)) = true
  rw [layAll_ways]; rfl
theorem landD_dep (m : Nat) (ws : List Wy) (d : PyData) : min (landD m ws).depth d.depth ≤ 64 := by
  have : (landD m ws).depth ≤ 64 := by
    show max (PyData.depth (.int m)) (max (PyData.depthAll (ws.map wayD) + 1) 0) + 1 ≤ 64
    have := depAll_ways ws
    have h : PyData.depth (.int m) = 0 := rfl
    omega
  omega
theorem rng_cons' {lo : Int} {N k : Nat} {x : PyData} {r : List PyData} (h : x :: r = (rngD lo N).drop k) : x = .int (lo + ((k : Nat) : Int)) ∧ r = (rngD lo N).drop (k + 1) ∧ k < N := by
  have hk : k < (rngD lo N).length := by
    rcases Nat.lt_or_ge k (rngD lo N).length with c | c
    · exact c
    · rw [List.drop_of_length_le c] at h; cases h
  rw [List.drop_eq_getElem_cons hk] at h
  injection h with h1 h2
  obtain ⟨hk', e⟩ := rngD_get (List.getElem?_eq_getElem hk)
  exact ⟨by rw [h1, e], h2, hk'⟩
theorem rng_nil' {lo : Int} {N k : Nat} (h : [] = (rngD lo N).drop k) : N ≤ k := by
  have := congrArg List.length h
  unfold rngD at this
  simp at this
  omega
theorem rng0 (n : Nat) : rngD 0 n = (List.range n).map fun k => PyData.int ((k : Nat) : Int) := by
  unfold rngD
  congr 1
  funext i
  rw [Int.zero_add]
def LayN (n : Nat) (d : PyData) : Prop := d.canLay0 = true ∧ d.depth ≤ n
theorem LayN.all {n : Nat} : ∀ {ds : List PyData}, (∀ d ∈ ds, LayN n d) → PyData.canLayAll0 ds = true ∧ PyData.depthAll ds ≤ n
  | [], _ => ⟨rfl, Nat.zero_le _⟩
  | d :: ds, h => by
    obtain ⟨a, b⟩ := LayN.all fun x hx => h x (List.mem_cons_of_mem _ hx)
    obtain ⟨a1, b1⟩ := h d List.mem_cons_self
    constructor
    · show (PyData.canLay0 d && PyData.canLayAll0 ds) = true
      rw [a, a1]; rfl
    · show max (PyData.depth d) (PyData.depthAll ds) ≤ n
      omega
theorem LayN.lst {n : Nat} {ds : List PyData} (h : ∀ d ∈ ds, LayN n d) : LayN (n + 1) (.list ds) := by
  obtain ⟨a, b⟩ := LayN.all h
  refine ⟨by rw [PyData.canLay0]; exact a, ?_⟩
  show PyData.depthAll ds + 1 ≤ n + 1
  omega
theorem LayN.tup {n : Nat} {ds : List PyData} (h : ∀ d ∈ ds, LayN n d) : LayN (n + 1) (.tuple ds) := by
  obtain ⟨a, b⟩ := LayN.all h
  refine ⟨by rw [PyData.canLay0]; exact a, ?_⟩
  show PyData.depthAll ds + 1 ≤ n + 1
  omega
theorem LayN.mono {n k : Nat} {d : PyData} (h : LayN n d) (l : n ≤ k) : LayN k d := ⟨h.1, Nat.le_trans h.2 l⟩
theorem LayN.int {n : Nat} (i : Int) : LayN n (.int i) := ⟨rfl, Nat.zero_le _⟩
theorem LayN.str {n : Nat} {i : Str} (h : (PyData.str i).canLay0 = true) : LayN n (.str i) := ⟨h, Nat.zero_le _⟩
theorem LayN.non {n : Nat} : LayN n .none := ⟨rfl, Nat.zero_le _⟩
theorem LayN.bl {n : Nat} (b : Bool) : LayN n (.bool b) := ⟨rfl, Nat.zero_le _⟩
theorem LayN.o {n : Nat} (o : Option Int) : LayN n (oD o) := by cases o <;> exact ⟨rfl, Nat.zero_le _⟩
theorem LayN.tab (t : Tb) : LayN 1 (.list (tabL t)) := LayN.lst fun d hd => by
  unfold tabL at hd
  obtain ⟨o, _, rfl⟩ := List.mem_map.mp hd
  exact .o o
theorem LayN.way (w : Wy) : LayN 1 (wayD w) := LayN.tup fun d hd => by
  rcases List.mem_cons.mp hd with rfl | hd
  · exact .int _
  rcases List.mem_cons.mp hd with rfl | hd
  · exact .int _
  rw [List.mem_singleton.mp hd]; exact .int _
theorem LayN.land (m : Nat) (ws : List Wy) : LayN 3 (landD m ws) := LayN.tup fun d hd => by
  rcases List.mem_cons.mp hd with rfl | hd
  · exact .int _
  rw [List.mem_singleton.mp hd]
  exact LayN.lst fun d hd => by
    obtain ⟨w, _, rfl⟩ := List.mem_map.mp hd
    exact .way w
theorem LayN.two {n : Nat} {a b : PyData} (ha : LayN n a) (hb : LayN n b) : ∀ d ∈ [a, b], LayN n d := fun d hd => by
  rcases List.mem_cons.mp hd with rfl | hd
  · exact ha
  rw [List.mem_singleton.mp hd]; exact hb
theorem LayN.three {n : Nat} {a b c : PyData} (ha : LayN n a) (hb : LayN n b) (hc : LayN n c) : ∀ d ∈ [a, b, c], LayN n d := fun d hd => by
  rcases List.mem_cons.mp hd with rfl | hd
  · exact ha
  exact LayN.two hb hc d hd
theorem LayN.dep {n : Nat} {a : PyData} (h : LayN n a) (l : n ≤ 64) (b : PyData) : min a.depth b.depth ≤ 64 := by have := h.2; omega
theorem LayN.same {n : Nat} {a : PyData} (h : LayN n a) : PyData.eqv a a = true := PySem.SeqAt.eqv_refl _ h.1
theorem LayN.eq {n : Nat} {a : PyData} (h : LayN n a) (l : n ≤ 64) {Q : Bool → Prop} (q : Q true) : a.canLay0 = true ∧ a.canLay0 = true ∧ min a.depth a.depth ≤ 64 ∧ Q (PyData.eqv a a) := ⟨h.1, h.1, h.dep l a, by rw [h.same]; exact q⟩
theorem mid_of {t u : DS} {D : DEnds} {ρ : List Sl} (M : List Sl → Prop) (h1 : t { D with nx := M } ρ) (h2 : ∀ ρ', M ρ' → Go (u D) ρ') : dSeqG (dMid t) u D ρ := ⟨M, h1, h2⟩
def ForW (g : DG) (tb : DS) (D : DEnds) (xs : List PyData) (ρ1 : List Sl) : Prop := ∃ I : List PyData → List Sl → Prop, I xs ρ1 ∧ (∀ x r ρ, I (x :: r) ρ → g x ρ (Blk tb { nx := I r, ct := I r, bk := D.nx, rt := D.rt })) ∧ ∀ ρ, I [] ρ → D.nx ρ
theorem for_of {it : DF} {g : DG} {tb : DS} {D : DEnds} {ρ : List Sl} (h : it ρ fun xs ρ1 => ForW g tb D xs ρ1) : dFor it g tb D ρ := h
theorem forW {g : DG} {tb : DS} {D : DEnds} {xs : List PyData} {ρ1 : List Sl} (I : List PyData → List Sl → Prop) (h0 : I xs ρ1) (h1 : ∀ x r ρ, I (x :: r) ρ → g x ρ (Blk tb { nx := I r, ct := I r, bk := D.nx, rt := D.rt })) (h2 : ∀ ρ, I [] ρ → D.nx ρ) : ForW g tb D xs ρ1 := ⟨I, h0, h1, h2⟩
theorem bnd_at {α : Type} {o : Option α} {d : α} {f : α → Prop} (h : o = some d) (q : f d) : bnd o f := by rw [h]; exact q
def wholeD (d : PyData) : Bool := isiD "int" d && !isiD "bool" d
def plcB (m : Int) : PyData → Bool
  | .int k => decide (0 ≤ k ∧ k < m)
  | _ => false
def chB : PyData → Bool
  | .int k => decide (-1000000000000000000 ≤ k ∧ k ≤ 1000000000000000000)
  | _ => false
def wayB (m : Int) : PyData → Bool
  | .tuple [a, b, c] => plcB m a && (plcB m b && chB c)
  | _ => false
def frB : PyData → Bool
  | .tuple [.int m, .list ws] => decide (1 ≤ m ∧ m ≤ 12) && decide (ws.length ≤ 40)
  | _ => false
def ftF (m : Int) : List PyData → Nat → Option Nat
  | [], _ => none
  | d :: ds, k => if wayB m d = true then ftF m ds (k + 1) else some (k + 1)
def ftD (d : PyData) : Option Nat := if frB d = true then (match d with
  | .tuple [.int m, .list ws] => ftF m ws 0
  | _ => some 0) else some 0
theorem fr_inv {d : PyData} (h : frB d = true) : ∃ (m : Int) (ws : List PyData), d = .tuple [.int m, .list ws] ∧ 1 ≤ m ∧ m ≤ 12 ∧ ws.length ≤ 40 := by
  unfold frB at h
  split at h
  · rename_i m ws
    rw [Bool.and_eq_true, decide_eq_true_iff, decide_eq_true_iff] at h
    exact ⟨m, ws, rfl, h.1.1, h.1.2, h.2⟩
  · cases h
theorem len3 {xs : List PyData} (h : xs.length = 3) : ∃ a b c, xs = [a, b, c] := by
  match xs, h with
  | [a, b, c], _ => exact ⟨a, b, c, rfl⟩
theorem len2 {xs : List PyData} (h : xs.length = 2) : ∃ a b, xs = [a, b] := by
  match xs, h with
  | [a, b], _ => exact ⟨a, b, rfl⟩
theorem way_len {m : Int} {xs : List PyData} (h : xs.length ≠ 3) : wayB m (.tuple xs) = false := by
  unfold wayB
  split
  · rename_i e
    cases e
    exact absurd rfl h
  · rfl
theorem fr_len {xs : List PyData} (h : xs.length ≠ 2) : frB (.tuple xs) = false := by
  unfold frB
  split
  · rename_i e
    cases e
    exact absurd rfl h
  · rfl
theorem enum_any {ss : List PyData} : enumD ss = (ss.zipIdx 0).map fun p => .tuple [.int ((p.2 : Nat) : Int), p.1] := rfl
def spWhA : DSp := fun ds Q => ∃ d : PyData, ds = [d] ∧ Q (.bool (wholeD d))
def spPlA : DSp := fun ds Q => ∃ (m : Int) (d : PyData), ds = [.int m, d] ∧ Q (.bool (plcB m d))
def spChA : DSp := fun ds Q => ∃ (d : PyData), ds = [d] ∧ Q (.bool (chB d))
def spWyA : DSp := fun ds Q => ∃ (m : Int) (d : PyData), ds = [.int m, d] ∧ Q (.bool (wayB m d))
def spFrA : DSp := fun ds Q => ∃ (d : PyData), ds = [d] ∧ Q (.bool (frB d))
def spLoX (c : Addr) : DSpX := fun ds Q Ex => ∃ (d : PyData), ds = [d] ∧ (ftD d = none → Q d) ∧ ∀ k, ftD d = some k → Ex c ((k : Nat) : Int)
theorem whole_no {d : PyData} (h : ∀ i, d ≠ .int i) : wholeD d = false := by
  cases d with
  | int i => exact absurd rfl (h i)
  | _ => rfl
section
variable {P : Program} {w : World} {K : PySem.W.Frag} {mg : Str → Option Value} {base : Heap}
theorem ok_is_whole (T : Txt K mg) : FnOk P w K mg base CX0 1 T.a_is_whole T.d_is_whole ["thing"] (spD [.sh] spWhA) := by
  refine fn_d T.F_is_whole sc_is_whole rfl (fun C cdv A outer s H E hr => ⟨_, (@dss_one _ _ _ _ (@ds_ret _ _ _ _ _ (@pd_and _ _ _ _ _ _ _ _ (pd_isiv ty_int (pe_callB call_isinst2 rfl T.n_isinstance bt_isinstance (pa_cons (pv 0) (pa_cons (pe_bltn (v := V.ty "int") rfl T.n_int bt_int rfl) pa_nil se_Name) se_Name) (he := se_Name) (hpl := (np_cons se_Name np_nil)))) (pd_one (pd_not (pd_isiv ty_bool (pe_callB call_isinst2 rfl T.n_isinstance bt_isinstance (pa_cons (pv 0) (pa_cons (pe_bltn (v := V.ty "bool") rfl T.n_bool bt_bool rfl) pa_nil se_Name) se_Name) (he := se_Name) (hpl := (np_cons se_Name np_nil))))))))), fun ds Q hl h => ?_⟩)
  obtain ⟨d, rfl, q⟩ := h
  decreasing_tactic
  unfold wholeD at q
  cases d <;> exact q
theorem ok_law_is_whole (T : Txt K mg) : FnOk P w K mg base CX0 1 T.a_law_is_whole T.d_law_is_whole ["_law_thing"] (spD [.sh] spWhA) := by
  refine fn_d T.F_law_is_whole sc_law_is_whole rfl (fun C cdv A outer s H E hr => ⟨_, (@dss_one _ _ _ _ (@ds_ret _ _ _ _ _ (@pd_and _ _ _ _ _ _ _ _ (pd_isiv ty_int (pe_callB call_isinst2 rfl T.n_isinstance bt_isinstance (pa_cons (pv 0) (pa_cons (pe_bltn (v := V.ty "int") rfl T.n_int bt_int rfl) pa_nil se_Name) se_Name) (he := se_Name) (hpl := (np_cons se_Name np_nil)))) (pd_one (pd_not (pd_isiv ty_bool (pe_callB call_isinst2 rfl T.n_isinstance bt_isinstance (pa_cons (pv 0) (pa_cons (pe_bltn (v := V.ty "bool") rfl T.n_bool bt_bool rfl) pa_nil se_Name) se_Name) (he := se_Name) (hpl := (np_cons se_Name np_nil))))))))), fun ds Q hl h => ?_⟩)
  obtain ⟨d, rfl, q⟩ := h
  decreasing_tactic
  unfold wholeD at q
  cases d <;> exact q
theorem okN_law_is_whole (T : Txt K mg) : FnOkN P w K mg base 1 T.a_law_is_whole T.d_law_is_whole ["_law_thing"] spWhN := by
  refine T.F_law_is_whole.okN sc_law_is_whole ?_ fun cdv A outer s H vs Q hr h => ⟨_, (pss_one (ps_ret (pe_and (pe_callB call_isinst rfl T.n_isinstance bt_isinstance (pa_cons (pv 0) (pa_cons (pe_bltn (v := V.ty "int") rfl T.n_int bt_int rfl) pa_nil se_Name) se_Name) (he := se_Name) (hpl := (np_cons se_Name np_nil))) (pe_one (pe_not (pe_callB call_isinst rfl T.n_isinstance bt_isinstance (pa_cons (pv 0) (pa_cons (pe_bltn (v := V.ty "bool") rfl T.n_bool bt_bool rfl) pa_nil se_Name) se_Name) (he := se_Name) (hpl := (np_cons se_Name np_nil)))))))), ?_⟩
  · rintro vs H Q ⟨k, rfl, q⟩
    rfl
  · obtain ⟨k, rfl, q⟩ := h
    exact ⟨_, rfl, _, _, .type "int", .type "int", true, rfl, rfl, .int k, by with_unfolding_all rfl, _, rfl, iteT ⟨_, rfl, _, _, .type "bool", .type "int", false, rfl, rfl, .int k, by with_unfolding_all rfl, _, rfl, q⟩⟩
theorem ok_is_place (T : Txt K mg) : FnOk P w K mg base CX0 2 T.a_is_place T.d_is_place ["many", "thing"] (spD [.sh, .sh] spPlA) := by
  have G_is_whole := @ok_is_whole P w K mg base T
  have b_is_whole := bd_is_whole T
  refine fn_d T.F_is_place sc_is_place rfl (fun C cdv A outer s H E hr => ⟨_, (dss_one (ds_ret (pd_and (pd_call (pe_call G_is_whole (hr.mono (by decide)) rfl T.mg_is_whole T.kp_is_whole b_is_whole .nil pass0 (da_v (pd_var (pv 1)) da_nil se_Name) (he := se_Name) (hpl := np_nil))) (pd_one (pd_chain op_le op_lt pd_int (pd_var (pv 1)) (pd_var (pv 0))))))), fun ds Q hl h => ?_⟩)
  obtain ⟨m, d, rfl, q⟩ := h
  decreasing_tactic
  refine ⟨_, rfl, ?_⟩
  cases d with
  | int k =>
    rw [show wholeD (.int k) = true from rfl]
    have q : Q (.bool (decide (0 ≤ k ∧ k < m))) := q
    decreasing_tactic
    by_cases c : 0 ≤ k
    · rw [decide_eq_true c]
      decreasing_tactic
      rw [show decide (0 ≤ k ∧ k < m) = decide (k < m) by rw [decide_eq_decide]; omega] at q
      exact q
    · rw [decide_eq_false c]
      decreasing_tactic
      rw [decide_eq_false (by omega)] at q
      exact q
  | _ => exact q
theorem ok_is_change (T : Txt K mg) : FnOk P w K mg base CX0 2 T.a_is_change T.d_is_change ["thing"] (spD [.sh] spChA) := by
  have G_is_whole := @ok_is_whole P w K mg base T
  have b_is_whole := bd_is_whole T
  refine fn_d T.F_is_change sc_is_change rfl (fun C cdv A outer s H E hr => ⟨_, (dss_one (ds_ret (pd_and (pd_call (pe_call G_is_whole (hr.mono (by decide)) rfl T.mg_is_whole T.kp_is_whole b_is_whole .nil pass0 (da_v (pd_var (pv 0)) da_nil se_Name) (he := se_Name) (hpl := np_nil))) (pd_one (pd_chain op_le op_le (pd_neg (pd_op op_pow ok_pow pd_int pd_int)) (pd_var (pv 0)) (pd_op op_pow ok_pow pd_int pd_int)))))), fun ds Q hl h => ?_⟩)
  obtain ⟨d, rfl, q⟩ := h
  decreasing_tactic
  refine ⟨_, rfl, ?_⟩
  cases d with
  | int k =>
    rw [show wholeD (.int k) = true from rfl]
    have q : Q (.bool (decide (-1000000000000000000 ≤ k ∧ k ≤ 1000000000000000000))) := q
    decreasing_tactic
    refine ⟨⟨by decide, by decide, by decide⟩, ?_⟩
    rw [show (-(10 : Int) ^ Int.toNat 18) = -1000000000000000000 from rfl]
    by_cases c : -1000000000000000000 ≤ k
    · rw [decide_eq_true c]
      refine iteT ⟨⟨by decide, by decide, by decide⟩, ?_⟩
      rw [show ((10 : Int) ^ Int.toNat 18) = 1000000000000000000 from rfl]
      rw [show decide (-1000000000000000000 ≤ k ∧ k ≤ 1000000000000000000) = decide (k ≤ 1000000000000000000) by rw [decide_eq_decide]; omega] at q
      exact q
    · rw [decide_eq_false c]
      rw [decide_eq_false (by omega)] at q
      exact iteNo q
  | _ => exact q
theorem ok_is_way (T : Txt K mg) : FnOk P w K mg base CX0 3 T.a_is_way T.d_is_way ["many", "thing"] (spD [.sh, .sh] spWyA) := by
  have G_is_place := @ok_is_place P w K mg base T
  have b_is_place := bd_is_place T
  have G_is_change := @ok_is_change P w K mg base T
  have b_is_change := bd_is_change T
  refine fn_d T.F_is_way sc_is_way rfl (fun C cdv A outer s H E hr => ⟨_, (@dss_consG _ _ _ _ _ _ (@ds_if _ _ _ _ _ _ _ _ _ (PW.pt (@pwd_or _ _ _ _ _ _ _ _ (pdt_not (pdt_val (pd_isiv ty_tuple (pe_callB call_isinst2 rfl T.n_isinstance bt_isinstance (pa_cons (pv 1) (pa_cons (pe_bltn (v := V.ty "tuple") rfl T.n_tuple bt_tuple rfl) pa_nil se_Name) se_Name) (he := se_Name) (hpl := (np_cons se_Name np_nil)))))) (pwd_or1 (pdt_cmp (op_neD (units_of hr)) ok_eq (pd_lenv (pe_callB call_len_seq rfl T.n_len bt_len (pa_cons (pv 1) pa_nil se_Name) (he := se_Name) (hpl := np_nil))) pd_int (nomark _))))) (dss_one (ds_ret pd_bl)) dss_nil) (@dss_one _ _ _ _ (@ds_ret _ _ _ _ _ (@pd_and _ _ _ _ _ _ _ _ (pd_call (pe_call G_is_place (hr.mono (by decide)) rfl T.mg_is_place T.kp_is_place b_is_place .nil pass0 (da_v (pd_var (pv 0)) (da_v (pd_ixv (pv 1) (pd_gi (pe_glob (v := V.int 0) rfl T.mg_START ⟨_, rfl⟩)) (fun _ _ => rfl)) da_nil se_Subscript) se_Name) (he := se_Name) (hpl := (np_cons se_Subscript np_nil)))) (@pd_and _ _ _ _ _ _ _ _ (pd_call (pe_call G_is_place (hr.mono (by decide)) rfl T.mg_is_place T.kp_is_place b_is_place .nil pass0 (da_v (pd_var (pv 0)) (da_v (pd_ixv (pv 1) (pd_gi (pe_glob (v := V.int 1) rfl T.mg_END ⟨_, rfl⟩)) (fun _ _ => rfl)) da_nil se_Subscript) se_Name) (he := se_Name) (hpl := (np_cons se_Subscript np_nil)))) (pd_one (pd_call (pe_call G_is_change (hr.mono (by decide)) rfl T.mg_is_change T.kp_is_change b_is_change .nil pass0 (da_v (pd_ixv (pv 1) (pd_gi (pe_glob (v := V.int 2) rfl T.mg_CHANGE ⟨_, rfl⟩)) (fun _ _ => rfl)) da_nil se_Subscript) (he := se_Subscript) (hpl := np_nil))))))))), fun ds Q hl h => ?_⟩)
  obtain ⟨m, d, rfl, q⟩ := h
  cases d with
  | tuple xs =>
    decreasing_tactic
    refine iteNo ⟨rfl, rfl, min0 _ _, ?_⟩
    rw [eqv_int]
    by_cases hl3 : xs.length = 3
    · obtain ⟨a, b, c, rfl⟩ := len3 hl3
      have q : Q (.bool (plcB m a && (plcB m b && chB c))) := q
      refine iteNo ?_
      refine go ?_; decreasing_tactic
      refine ⟨m, a, rfl, ?_⟩
      cases hp : plcB m a with
      | false =>
        rw [hp] at q
        exact q
      | true =>
        rw [hp] at q
        decreasing_tactic
        refine ⟨m, b, rfl, ?_⟩
        cases hp2 : plcB m b with
        | false =>
          rw [hp2] at q
          exact q
        | true =>
          rw [hp2] at q
          decreasing_tactic
          exact ⟨c, rfl, q⟩
    · rw [beq_eq_false_iff_ne.mpr (show ((xs.length : Nat) : Int) ≠ 3 by omega)]
      rw [way_len hl3] at q
      exact iteT q
  | _ => exact q
theorem ok_is_frame__s (T : Txt K mg) : FnOk P w K mg base CX0 2 T.a_is_frame T.d_is_frame ["thing"] (spD [.sh] spFrA) := by
  have G_is_whole := @ok_is_whole P w K mg base T
  have b_is_whole := bd_is_whole T
  refine fn_d T.F_is_frame sc_is_frame rfl (fun C cdv A outer s H E hr => ⟨_, (@dss_consG _ _ _ _ _ _ (@ds_if _ _ _ _ _ _ _ _ _ (PW.pt (@pwd_or _ _ _ _ _ _ _ _ (pdt_not (pdt_val (pd_isiv ty_tuple (pe_callB call_isinst2 rfl T.n_isinstance bt_isinstance (pa_cons (pv 0) (pa_cons (pe_bltn (v := V.ty "tuple") rfl T.n_tuple bt_tuple rfl) pa_nil se_Name) se_Name) (he := se_Name) (hpl := (np_cons se_Name np_nil)))))) (pwd_or1 (pdt_cmp (op_neD (units_of hr)) ok_eq (pd_lenv (pe_callB call_len_seq rfl T.n_len bt_len (pa_cons (pv 0) pa_nil se_Name) (he := se_Name) (hpl := np_nil))) pd_int (nomark _))))) (dss_one (ds_ret pd_bl)) dss_nil) (@dss_consG _ _ _ _ _ _ (@ds_if _ _ _ _ _ _ _ _ _ (PW.pt (@pwd_or _ _ _ _ _ _ _ _ (pdt_not (pdt_val (pd_call (pe_call G_is_whole (hr.mono (by decide)) rfl T.mg_is_whole T.kp_is_whole b_is_whole .nil pass0 (da_v (pd_ixv (pv 0) (pd_gi (pe_glob (v := V.int 0) rfl T.mg_MANY ⟨_, rfl⟩)) (fun _ _ => rfl)) da_nil se_Subscript) (he := se_Subscript) (hpl := np_nil))))) (pwd_or1 (pdt_not (pdt_chain op_le op_le pd_int (pd_ixv (pv 0) (pd_gi (pe_glob (v := V.int 0) rfl T.mg_MANY ⟨_, rfl⟩)) (fun _ _ => rfl)) (pd_gi (pe_glob (v := V.int 12) rfl T.mg_MOST_PLACES ⟨_, rfl⟩))))))) (dss_one (ds_ret pd_bl)) dss_nil) (@dss_one _ _ _ _ (@ds_ret _ _ _ _ _ (@pd_and _ _ _ _ _ _ _ _ (pd_isi ty_list (pe_callB call_isinst2 rfl T.n_isinstance bt_isinstance (pa_cons (pd_ixv (pv 0) (pd_gi (pe_glob (v := V.int 1) rfl T.mg_WAYS ⟨_, rfl⟩)) (fun _ _ => rfl)) (pa_cons (pe_bltn (v := V.ty "list") rfl T.n_list bt_list rfl) pa_nil se_Name) se_Subscript) (he := se_Subscript) (hpl := (np_cons se_Name np_nil)))) (pd_one (pd_cmp op_le ok_le (pd_cb cb_len (pe_callB call_len_seq rfl T.n_len bt_len (dv_cons (pd_ixv (pv 0) (pd_gi (pe_glob (v := V.int 1) rfl T.mg_WAYS ⟨_, rfl⟩)) (fun _ _ => rfl)) dv_nil se_Subscript) (he := se_Subscript) (hpl := np_nil))) (pd_gi (pe_glob (v := V.int 40) rfl T.mg_MOST_WAYS ⟨_, rfl⟩)) (nomark _)))))))), fun ds Q hl h => ?_⟩)
  obtain ⟨d, rfl, q⟩ := h
  cases d with
  | tuple xs =>
    decreasing_tactic
    refine iteNo ⟨rfl, rfl, min0 _ _, ?_⟩
    rw [eqv_int]
    by_cases hl2 : xs.length = 2
    · obtain ⟨a, b, rfl⟩ := len2 hl2
      refine iteNo ?_
      refine go ?_; decreasing_tactic
      refine ⟨_, rfl, ?_⟩
      cases a with
      | int m =>
        rw [show wholeD (.int m) = true from rfl]
        decreasing_tactic
        have bad : ¬ (1 ≤ m ∧ m ≤ 12) → Q (.bool false) := fun c => by
          have : frB (.tuple [.int m, b]) = false := by
            unfold frB
            split
            · rename_i m' ws' e
              injection e with e
              injection e with e _
              injection e with e
              subst e
              rw [decide_eq_false c]; rfl
            · rfl
          rw [this] at q
          exact q
        by_cases c1 : 1 ≤ m
        · rw [decide_eq_true c1]
          decreasing_tactic
          by_cases c2 : m ≤ 12
          · rw [decide_eq_true c2]
            refine iteNo (iteNo ?_)
            refine go ?_; decreasing_tactic
            cases b with
            | list ws =>
              have q : Q (.bool (decide (1 ≤ m ∧ m ≤ 12) && decide (ws.length ≤ 40))) := q
              rw [decide_eq_true ⟨c1, c2⟩] at q
              decreasing_tactic
              rw [show decide (((ws.length : Nat) : Int) ≤ 40) = decide (ws.length ≤ 40) by rw [decide_eq_decide]; omega]
              exact q
            | _ => exact q
          · rw [decide_eq_false c2]
            exact iteNo (iteT (bad fun z => c2 z.2))
        · rw [decide_eq_false c1]
          exact bad fun z => c1 z.1
      | _ => exact q
    · rw [beq_eq_false_iff_ne.mpr (show ((xs.length : Nat) : Int) ≠ 2 by omega)]
      rw [fr_len hl2] at q
      exact iteT q
  | _ => exact q
end
section
variable {P : Program} {w : World} {K : PySem.W.Frag} {mg : Str → Option Value} {base : Heap}
theorem okX_land_of__s (T : Txt K mg) : FnOk P w K mg base (CXe P w) 4 T.a_land_of T.d_land_of ["thing"] (spDX [.sh] "at" (spLoX T.c_BadLand)) := by
  have G_is_frame := @ok_is_frame__s P w K mg base T
  have b_is_frame := bd_is_frame T
  have G_is_way := @ok_is_way P w K mg base T
  have b_is_way := bd_is_way T
  refine fn_dX T.F_land_of sc_land_of rfl (fun C cdv A outer s H E Ex hE hr => ⟨_, (@dss_consG _ _ _ _ _ _ (@ds_if _ _ _ _ _ _ _ _ _ (pdt_not (pdt_val (pd_call (pe_call G_is_frame (hr.mono (by decide)) rfl T.mg_is_frame T.kp_is_frame b_is_frame .nil pass0 (da_v (pd_var (pv 0)) da_nil se_Name) (he := se_Name) (hpl := np_nil))))) (dss_one (ds_raise hE (ps_raise rzs_of rfl rfl (k := 1) (hr.mono (by decide)) rfl T.mg_BadLand T.xc_BadLand.kp T.xc_BadLand.xc (in_BadLand T) T.xc_BadLand.fi T.xc_BadLand.fn (dv_cons pd_int dv_nil se_Constant)))) dss_nil) (@dss_consG _ _ _ _ _ _ (@ds_for _ _ _ _ _ _ (@ps_for _ _ _ _ _ _ _ _ PassesOwn.leaving rfl (di_enum (pi_enum rfl T.n_enumerate (pa_cons (pd_ixv (pv 0) (pd_gi (pe_glob (v := V.int 1) rfl T.mg_WAYS ⟨_, rfl⟩)) (fun _ _ => rfl)) pa_nil se_Subscript))) (dg_t2 (pg_tup (n := 2) rfl (pgs_cons (pg_name (i := 1) sc_land_of.nd rfl (Or.inl rfl)) (pgs_cons (pg_name (i := 2) sc_land_of.nd rfl (Or.inl rfl)) pgs_nil)))) (@dss_one _ _ _ _ (@ds_if _ _ _ _ _ _ _ _ _ (pdt_not (pdt_val (pd_call (pe_call G_is_way (hr.mono (by decide)) rfl T.mg_is_way T.kp_is_way b_is_way .nil pass0 (da_v (pd_ixv (pv 0) (pd_gi (pe_glob (v := V.int 0) rfl T.mg_MANY ⟨_, rfl⟩)) (fun _ _ => rfl)) (da_v (pd_var (pv 2)) da_nil se_Name) se_Subscript) (he := se_Subscript) (hpl := (np_cons se_Name np_nil)))))) (dss_one (ds_raise hE (ps_raise rzs_of rfl rfl (k := 1) (hr.mono (by decide)) rfl T.mg_BadLand T.xc_BadLand.kp T.xc_BadLand.xc (in_BadLand T) T.xc_BadLand.fi T.xc_BadLand.fn (dv_cons (pd_op op_add ok_add (pd_var (pv 1)) pd_int) dv_nil se_BinOp)))) dss_nil)) (by intro _; rfl))) (dss_one (ds_ret (pd_tup (dv_cons (pd_ixv (pv 0) (pd_gi (pe_glob (v := V.int 0) rfl T.mg_MANY ⟨_, rfl⟩)) (fun _ _ => rfl)) (dv_cons (pd_f (pf_list (pe_callTy call_list_of rfl T.n_list bt_list (pa_cons (pd_ixv (pv 0) (pd_gi (pe_glob (v := V.int 1) rfl T.mg_WAYS ⟨_, rfl⟩)) (fun _ _ => rfl)) pa_nil se_Subscript) (he := se_Subscript) (hpl := np_nil)))) dv_nil se_Call) se_Subscript)))))), fun ds Q hl h => ?_⟩)
  obtain ⟨d, rfl, q1, q2⟩ := h
  decreasing_tactic
  refine ⟨d, rfl, ?_⟩
  cases hf : frB d with
  | false => exact iteT (q2 0 (by unfold ftD; rw [hf]; rfl))
  | true =>
    obtain ⟨m, ws, rfl, m1, m2, hl0⟩ := fr_inv hf
    have hft : ftD (.tuple [.int m, .list ws]) = ftF m ws 0 := by unfold ftD; rw [hf]; rfl
    rw [hft] at q1 q2
    refine iteNo (go (for_of ?_))
    try dsimp only [dIl, dIv, dIt, dRng1, dRng2, dEnum, dIrev, dIL, dEnumL, dSeq, dSeqG, dSet, dOwn, dOp, dVar, dIfS, dT, dRet, dDrop, dCb, dCons, dNil, dC, dF, dLst, dTup, dNeg, dNot, dAnd, dOr, dAndV, dOrV, dNotV, dBV, dIf, dChain, dIx, dIxV, dLenV, dListV, dList, dSlV, dSl, dCat, dRep, dIsiV, dIsi, dCall, aNil, aV, aS, arsD, arD, isSl, slotD, bnd_some, ixD, lenD, listD, itemsD, gI, gI0, gAdd, gMns, gMul, gMod, gDiv, gPow, gLt, gLe, gGt, gGe, gEq, gIsN, isN, gLen, gMin, gMax, gI2, gAbs, gInt, gAll, gAny, dNext, dLrev, dApp, dIns, dEqV, dSetI, dAsg, gN, gT2, gT3, gT5, gInS, strsD, gMaxP, dPopI, dLrng, dZip, dCompT2, dComp, dCompT3, dIndexV, gIn, gB2, oN, oS, startN, slOf, a1_0, a2_0, a2_1, a3_0, a3_1, a3_2, isiD, tyD, List.tail_cons, List.tail_nil, List.getElem?_cons_zero, List.getElem?_cons_succ, List.set_cons_zero, List.set_cons_succ, List.length_cons, List.length_nil, Option.bind_some, Option.map_some, List.cons_append, List.nil_append, iteTT, iteFF, iteTB, iteFB, iteTI, iteFI, Bool.not_true, Bool.not_false, dTupV, dTupE, dDict0, dNewP, dNewL, dNeL, gSum, dRevV, dCompU, dCompS2, dTry, dCallX, dRz, xkD, dLVar, lentD, dIxL, dFlat, flatD, dLenL, dIsiL, dIsNL, dListL, dLendE, dLendB, noBB, dNewT, flatM, dMutA, dMutN, dMutC, aW, dNinD, dCallS, arsS, arS]
    rw [enum_any]
    refine forW (fun r ρ => ∃ (R : List PyData) (k : Nat) (z1 z2 : Sl), r = (R.zipIdx k).map (fun p => .tuple [.int ((p.2 : Nat) : Int), p.1]) ∧ ftF m R k = ftF m ws 0 ∧ ρ = [Sl.sh (.tuple [.int m, .list ws]), z1, z2]) ⟨ws, 0, _, _, rfl, rfl, rfl⟩ ?_ ?_
    · rintro x r ρ ⟨R, k, z1, z2, h1, he, rfl⟩
      cases R with
      | nil => cases h1
      | cons p R =>
        cases (show x :: r = PyData.tuple [.int ((k : Nat) : Int), p] :: (R.zipIdx (k + 1)).map (fun p => .tuple [.int ((p.2 : Nat) : Int), p.1]) from h1)
        sizeOf_list_dec
        refine ⟨m, p, rfl, ?_⟩
        have he' : (if wayB m p = true then ftF m R (k + 1) else some (k + 1)) = ftF m ws 0 := he
        cases hw : wayB m p with
        | true =>
          rw [hw] at he'
          decreasing_tactic
          exact ⟨R, k + 1, _, _, rfl, he', rfl⟩
        | false =>
          rw [hw] at he'
          decreasing_tactic
          exact q2 (k + 1) he'.symm
    · rintro ρ ⟨R, k, z1, z2, h1, he, rfl⟩
      cases R with
      | cons p R => cases h1
      | nil =>
        refine go ?_; decreasing_tactic
        exact ⟨by show 2 ≤ 1000; decide, q1 he.symm⟩
end
def LdOk (m : Int) (ws : List PyData) : Prop := frB (.tuple [.int m, .list ws]) = true ∧ ∀ d ∈ ws, wayB m d = true
theorem ft_none {m : Int} : ∀ {ws : List PyData} {k : Nat}, ftF m ws k = none ↔ ∀ d ∈ ws, wayB m d = true
  | [], k => ⟨(fun _ d hd => nomatch hd), fun _ => rfl⟩
  | d :: ds, k => by
    have e : ftF m (d :: ds) k = if wayB m d = true then ftF m ds (k + 1) else some (k + 1) := rfl
    rw [e]
    by_cases c : wayB m d = true
    · rw [if_pos c, ft_none]
      constructor
      · intro h x hx
        rcases List.mem_cons.mp hx with rfl | hx
        · exact c
        · exact h x hx
      · intro h x hx
        exact h x (List.mem_cons_of_mem _ hx)
    · rw [if_neg c]
      constructor
      · intro h; cases h
      · intro h; exact absurd (h d List.mem_cons_self) c
theorem way_inv {m : Int} {d : PyData} (h : wayB m d = true) : ∃ a b c : Int, d = .tuple [.int a, .int b, .int c] := by
  unfold wayB at h
  split at h
  · rename_i x y z
    rw [Bool.and_eq_true, Bool.and_eq_true] at h
    obtain ⟨h1, h2, h3⟩ := h
    cases x with
    | int a =>
      cases y with
      | int b =>
        cases z with
        | int c => exact ⟨a, b, c, rfl⟩
        | _ => cases h3
      | _ => cases h2
    | _ => cases h1
  · cases h
theorem ld_flat {m : Int} : ∀ {ws : List PyData}, (∀ d ∈ ws, wayB m d = true) → flatL ws = true
  | [], _ => rfl
  | d :: ds, h => by
    obtain ⟨a, b, c, rfl⟩ := way_inv (h d List.mem_cons_self)
    show (flatD (.tuple [.int a, .int b, .int c]) && flatL ds) = true
    rw [ld_flat fun x hx => h x (List.mem_cons_of_mem _ hx)]
    rfl
theorem ld_lay {m : Int} {ws : List PyData} (h : ∀ d ∈ ws, wayB m d = true) : LayN 3 (.tuple [.int m, .list ws]) := LayN.tup (LayN.two (.int _) (LayN.lst fun d hd => by
  obtain ⟨a, b, c, rfl⟩ := way_inv (h d hd)
  exact LayN.tup (LayN.three (.int _) (.int _) (.int _))))
theorem lw_lay {m : Int} {ws : List PyData} (h : ∀ d ∈ ws, wayB m d = true) : LayN 2 (.list ws) := LayN.lst fun d hd => by
  obtain ⟨a, b, c, rfl⟩ := way_inv (h d hd)
  exact LayN.tup (LayN.three (.int _) (.int _) (.int _))
def spFrV : DSp := fun ds Q => ∃ (m : Int) (ws : List PyData), ds = [.tuple [.int m, .list ws]] ∧ LdOk m ws ∧ Q (.bool true)
def spLoV : DSp := fun ds Q => ∃ (m : Int) (ws : List PyData), ds = [.tuple [.int m, .list ws]] ∧ LdOk m ws ∧ Q (.tuple [.int m, .list ws])
section
variable {P : Program} {w : World} {K : PySem.W.Frag} {mg : Str → Option Value} {base : Heap}
theorem ok_is_frame (T : Txt K mg) : FnOk P w K mg base CX0 2 T.a_is_frame T.d_is_frame ["thing"] (spD [.bd] spFrV) := by
  have G_is_whole := @ok_is_whole P w K mg base T
  have b_is_whole := bd_is_whole T
  refine fn_d T.F_is_frame sc_is_frame rfl (fun C cdv A outer s H E hr => ⟨_, (@dss_consG _ _ _ _ _ _ (@ds_if _ _ _ _ _ _ _ _ _ (PW.pt (@pwd_or _ _ _ _ _ _ _ _ (pdt_not (pdt_val (pd_isiL ty_tuple (pe_callB call_isinst2 rfl T.n_isinstance bt_isinstance (pa_cons (pl_var (pv 0)) (pa_cons (pe_bltn (v := V.ty "tuple") rfl T.n_tuple bt_tuple rfl) pa_nil se_Name) se_Name) (he := se_Name) (hpl := (np_cons se_Name np_nil)))))) (pwd_or1 (pdt_cmp (op_neD (units_of hr)) ok_eq (pd_lenL (pe_callB call_len_seq rfl T.n_len bt_len (pa_cons (pl_var (pv 0)) pa_nil se_Name) (he := se_Name) (hpl := np_nil))) pd_int (nomark _))))) (dss_one (ds_ret pd_bl)) dss_nil) (@dss_consG _ _ _ _ _ _ (@ds_if _ _ _ _ _ _ _ _ _ (PW.pt (@pwd_or _ _ _ _ _ _ _ _ (pdt_not (pdt_val (pd_call (pe_call G_is_whole (hr.mono (by decide)) rfl T.mg_is_whole T.kp_is_whole b_is_whole .nil pass0 (da_v (pd_flat (pl_ix (pl_var (pv 0)) (pd_gi (pe_glob (v := V.int 0) rfl T.mg_MANY ⟨_, rfl⟩)) (fun _ _ => rfl))) da_nil se_Subscript) (he := se_Subscript) (hpl := np_nil))))) (pwd_or1 (pdt_not (pdt_chain op_le op_le pd_int (pd_flat (pl_ix (pl_var (pv 0)) (pd_gi (pe_glob (v := V.int 0) rfl T.mg_MANY ⟨_, rfl⟩)) (fun _ _ => rfl))) (pd_gi (pe_glob (v := V.int 12) rfl T.mg_MOST_PLACES ⟨_, rfl⟩))))))) (dss_one (ds_ret pd_bl)) dss_nil) (@dss_one _ _ _ _ (@ds_ret _ _ _ _ _ (@pd_and _ _ _ _ _ _ _ _ (pd_isiL ty_list (pe_callB call_isinst2 rfl T.n_isinstance bt_isinstance (pa_cons (pl_ix (pl_var (pv 0)) (pd_gi (pe_glob (v := V.int 1) rfl T.mg_WAYS ⟨_, rfl⟩)) (fun _ _ => rfl)) (pa_cons (pe_bltn (v := V.ty "list") rfl T.n_list bt_list rfl) pa_nil se_Name) se_Subscript) (he := se_Subscript) (hpl := (np_cons se_Name np_nil)))) (pd_one (pd_cmp op_le ok_le (pd_lenL (pe_callB call_len_seq rfl T.n_len bt_len (pa_cons (pl_ix (pl_var (pv 0)) (pd_gi (pe_glob (v := V.int 1) rfl T.mg_WAYS ⟨_, rfl⟩)) (fun _ _ => rfl)) pa_nil se_Subscript) (he := se_Subscript) (hpl := np_nil))) (pd_gi (pe_glob (v := V.int 40) rfl T.mg_MOST_WAYS ⟨_, rfl⟩)) (nomark _)))))))), fun ds Q hl h => ?_⟩)
  obtain ⟨m, ws, rfl, ⟨hf, hw⟩, q⟩ := h
  obtain ⟨m', ws', e, m1, m2, hl0⟩ := fr_inv hf
  cases e
  decreasing_tactic
  refine iteNo ⟨rfl, rfl, min0 _ _, iteNo ?_⟩
  refine go ?_; decreasing_tactic
  refine ⟨rfl, _, rfl, ?_⟩
  rw [show wholeD (.int m) = true from rfl]
  decreasing_tactic
  rw [decide_eq_true m1]
  decreasing_tactic
  rw [decide_eq_true m2]
  refine iteNo ⟨rfl, iteNo ?_⟩
  refine go ?_; decreasing_tactic
  rw [decide_eq_true (show ((ws.length : Nat) : Int) ≤ 40 by omega)]
  exact q
theorem ok_land_of (T : Txt K mg) : FnOk P w K mg base CX0 4 T.a_land_of T.d_land_of ["thing"] (spD [.bd] spLoV) := by
  have G_is_frame := @ok_is_frame P w K mg base T
  have b_is_frame := bd_is_frame T
  have G_is_way := @ok_is_way P w K mg base T
  have b_is_way := bd_is_way T
  refine fn_d T.F_land_of sc_land_of rfl (fun C cdv A outer s H E hr => ⟨_, (@dss_consG _ _ _ _ _ _ (ds_if (pdt_not (pdt_val (pd_call (pe_call G_is_frame (hr.mono (by decide)) rfl T.mg_is_frame T.kp_is_frame b_is_frame .nil pass0 (da_s (pv 0) da_nil se_Name) (he := se_Name) (hpl := np_nil)))))
      (dss_one ds_no)
      dss_nil) (@dss_consG _ _ _ _ _ _ (@ds_for _ _ _ _ _ _ (@ps_for _ _ _ _ _ _ _ _ PassesOwn.never rfl (di_enumL (pi_enum rfl T.n_enumerate (pa_cons (pl_ix (pl_var (pv 0)) (pd_gi (pe_glob (v := V.int 1) rfl T.mg_WAYS ⟨_, rfl⟩)) (fun _ _ => rfl)) pa_nil se_Subscript))) (dg_t2 (pg_tup (n := 2) rfl (pgs_cons (pg_name (i := 1) sc_land_of.nd rfl (Or.inl rfl)) (pgs_cons (pg_name (i := 2) sc_land_of.nd rfl (Or.inl rfl)) pgs_nil)))) (dss_one (ds_if (pdt_not (pdt_val (pd_call (pe_call G_is_way (hr.mono (by decide)) rfl T.mg_is_way T.kp_is_way b_is_way .nil pass0 (da_v (pd_flat (pl_ix (pl_var (pv 0)) (pd_gi (pe_glob (v := V.int 0) rfl T.mg_MANY ⟨_, rfl⟩)) (fun _ _ => rfl))) (da_v (pd_var (pv 2)) da_nil se_Name) se_Subscript) (he := se_Subscript) (hpl := (np_cons se_Name np_nil))))))
      (dss_one ds_no)
      dss_nil)) (by intro _; rfl))) (@dss_one _ _ _ _ (ds_ret (pd_tup (dv_cons (pd_flat (pl_ix (pl_var (pv 0)) (pd_gi (pe_glob (v := V.int 0) rfl T.mg_MANY ⟨_, rfl⟩)) (fun _ _ => rfl))) (dv_cons (pd_f (pf_listL (pe_callTy call_list_of rfl T.n_list bt_list (pa_cons (pl_ix (pl_var (pv 0)) (pd_gi (pe_glob (v := V.int 1) rfl T.mg_WAYS ⟨_, rfl⟩)) (fun _ _ => rfl)) pa_nil se_Subscript) (he := se_Subscript) (hpl := np_nil)))) dv_nil se_Call) se_Subscript)))))), fun ds Q hl h => ?_⟩)
  obtain ⟨m, ws, rfl, ⟨hf, hw⟩, q⟩ := h
  decreasing_tactic
  refine ⟨rfl, m, ws, rfl, ⟨hf, hw⟩, ?_⟩
  refine iteNo (go (for_of ?_))
  try dsimp only [dIl, dIv, dIt, dRng1, dRng2, dEnum, dIrev, dIL, dEnumL, dSeq, dSeqG, dSet, dOwn, dOp, dVar, dIfS, dT, dRet, dDrop, dCb, dCons, dNil, dC, dF, dLst, dTup, dNeg, dNot, dAnd, dOr, dAndV, dOrV, dNotV, dBV, dIf, dChain, dIx, dIxV, dLenV, dListV, dList, dSlV, dSl, dCat, dRep, dIsiV, dIsi, dCall, aNil, aV, aS, arsD, arD, isSl, slotD, bnd_some, ixD, lenD, listD, itemsD, gI, gI0, gAdd, gMns, gMul, gMod, gDiv, gPow, gLt, gLe, gGt, gGe, gEq, gIsN, isN, gLen, gMin, gMax, gI2, gAbs, gInt, gAll, gAny, dNext, dLrev, dApp, dIns, dEqV, dSetI, dAsg, gN, gT2, gT3, gT5, gInS, strsD, gMaxP, dPopI, dLrng, dZip, dCompT2, dComp, dCompT3, dIndexV, gIn, gB2, oN, oS, startN, slOf, a1_0, a2_0, a2_1, a3_0, a3_1, a3_2, isiD, tyD, List.tail_cons, List.tail_nil, List.getElem?_cons_zero, List.getElem?_cons_succ, List.set_cons_zero, List.set_cons_succ, List.length_cons, List.length_nil, Option.bind_some, Option.map_some, List.cons_append, List.nil_append, iteTT, iteFF, iteTB, iteFB, iteTI, iteFI, Bool.not_true, Bool.not_false, dTupV, dTupE, dDict0, dNewP, dNewL, dNeL, gSum, dRevV, dCompU, dCompS2, dTry, dCallX, dRz, xkD, dLVar, lentD, dIxL, dFlat, flatD, dLenL, dIsiL, dIsNL, dListL, dLendE, dLendB, noBB, dNewT, flatM, dMutA, dMutN, dMutC, aW, dNinD, dCallS, arsS, arS]
  rw [enum_any]
  refine ⟨ld_flat hw, ?_⟩
  refine forW (fun r ρ => ∃ (R : List PyData) (k : Nat) (z1 z2 : Sl), r = (R.zipIdx k).map (fun p => .tuple [.int ((p.2 : Nat) : Int), p.1]) ∧ (∀ d ∈ R, wayB m d = true) ∧ ρ = [Sl.bd (.tuple [.int m, .list ws]), z1, z2]) ⟨ws, 0, _, _, rfl, hw, rfl⟩ ?_ ?_
  · rintro x r ρ ⟨R, k, z1, z2, h1, he, rfl⟩
    cases R with
    | nil => cases h1
    | cons p R =>
      cases (show x :: r = PyData.tuple [.int ((k : Nat) : Int), p] :: (R.zipIdx (k + 1)).map (fun p => .tuple [.int ((p.2 : Nat) : Int), p.1]) from h1)
      sizeOf_list_dec
      refine ⟨rfl, m, p, rfl, ?_⟩
      rw [he p List.mem_cons_self]
      decreasing_tactic
      exact ⟨R, k + 1, _, _, rfl, fun d hd => he d (List.mem_cons_of_mem _ hd), rfl⟩
  · rintro ρ ⟨R, k, z1, z2, h1, he, rfl⟩
    refine go ?_; decreasing_tactic
    exact ⟨rfl, ld_flat hw, by show 2 ≤ 1000; decide, q⟩
def spRefL : DSp := fun ds Q => ∃ (d : PyData), ds = [d] ∧ (ftD d = none → Q .none) ∧ ∀ k, ftD d = some k → Q (.int ((k : Nat) : Int))
theorem ok_refused (T : Txt K mg) : FnOk P w K mg base CX0 5 T.a_refused T.d_refused ["_law_thing"] (spD [.sh] spRefL) := by
  have GX_land_of : FnOk P w K mg base (CXe P w) 4 T.a_land_of T.d_land_of ["thing"] (spDX [.sh] "at" (spLoX T.c_BadLand)) := okX_land_of__s T
  have b_land_of := bd_land_of T
  have GN_law_is_whole : FnOkN P w K mg base 1 T.a_law_is_whole T.d_law_is_whole ["_law_thing"] spWhN := okN_law_is_whole T
  have b_law_is_whole := bd_law_is_whole T
  refine fn_d T.F_refused sc_refused rfl (fun C cdv A outer s H E hr => ⟨_, (@dss_cons _ _ _ _ _ _ (ds_try sc_refused.nd (i := 1) rfl rfl rfl rfl rfl rfl T.mg_TrudgeError T.xc_BadLand.em (fun E pn Eh R => (pe_call GX_land_of (hr.mono (by decide)) rfl T.mg_land_of T.kp_land_of b_land_of .nil (passes_of rfl R) (da_v (pd_var (pv 0)) da_nil se_Name) (he := se_Name) (hpl := np_nil))) (fun a => (@pss_cons _ _ _ _ _ (@ps_if _ _ _ _ _ _ _ _ (PW.pt (@pw_or _ _ _ _ _ _ _ (pt_not (pt_val (pe_callB call_isx rfl T.n_isinstance bt_isinstance (pa_cons (pv 1) (pa_cons (pe_glob (v := V.ref T.c_BadLand) rfl T.mg_BadLand rfl) pa_nil se_Name) se_Name) (he := se_Name) (hpl := (np_cons se_Name np_nil))))) (@pw_or1 _ _ _ _ (@pt_val _ _ _ (@pe_callB _ _ _ _ _ _ _ _ _ call_isu rfl T.n_isinstance bt_isinstance (pa_cons (pv 1) (pa_cons (pe_tup (pa_cons (pe_glob (v := V.ref T.c_BadTrip) rfl T.mg_BadTrip rfl) (pa_cons (pe_glob (v := V.ref T.c_BadWay) rfl T.mg_BadWay rfl) (pa_cons (pe_glob (v := V.ref T.c_BadGoal) rfl T.mg_BadGoal rfl) (pa_cons (pe_glob (v := V.ref T.c_TooMany) rfl T.mg_TooMany rfl) pa_nil se_Name) se_Name) se_Name) se_Name)) pa_nil se_Tuple) se_Name) (by decide) (by decide) se_Name ((np_cons se_Tuple np_nil))) (by intro _; rfl))))) (pss_one (ps_ret (pe_tup pa_nil))) pss_nil) (@pss_cons _ _ _ _ _ (@ps_if _ _ _ _ _ _ _ _ (PW.pt (@pw_or _ _ _ _ _ _ _ (pt_not (pt_val (pe_callB call_ist rfl T.n_isinstance bt_isinstance (pa_cons (pv 1) (pa_cons (pe_bltn (v := V.ty "ValueError") rfl T.n_ValueError bt_ValueError rfl) pa_nil se_Name) se_Name) (he := se_Name) (hpl := (np_cons se_Name np_nil))))) (pw_or1 (pt_not (pt_val (pe_callN GN_law_is_whole ((hr.han a).mono (by decide)) rfl T.mg_law_is_whole T.kp_law_is_whole b_law_is_whole (pa_cons (pe_xf (pv 1) rfl) pa_nil se_Attribute) (he := se_Attribute) (hpl := np_nil))))))) (pss_one (ps_ret (pe_tup pa_nil))) pss_nil) (pss_one (ps_ret (pe_xf (pv 1) rfl)))))) (fun a dx k H D σ h1 h2 h3 h4 => tryC ⟨h1, h2, h3, T.xc_BadLand.cl, T.xc_BadLand.f2⟩ T.k_BadLand_BadLand T.k_BadLand_BadTrip T.k_BadLand_BadWay T.k_BadLand_BadGoal T.k_BadLand_TooMany T.xc_BadLand.ve h4)) (dss_one (ds_ret pd_non))), fun ds Q hl h => ?_⟩)
  obtain ⟨d, rfl, q1, q2⟩ := h
  decreasing_tactic
  exact ⟨d, rfl, q1, fun k e => ⟨rfl, q2 k e⟩⟩
end
def spScaleD : DSp := fun ds Q => ∃ d, ds = [d] ∧ ∀ r : Int, 1 ≤ r → r ≤ 1000000000000000000 → Q (.int r)
def spChangeD : DSp := fun ds Q => ∃ (d : PyData) (sc : Int), ds = [d, .int sc] ∧ 0 ≤ sc ∧ sc ≤ 1000000000000000000 ∧ ∀ r : Int, -sc ≤ r → r ≤ sc → Q (.int r)
def spStoreD : DSp := fun ds Q => ∃ (d : PyData) (sc : Int), ds = [d, .int sc] ∧ 0 ≤ sc ∧ sc ≤ 1000000000000000000 ∧ ∀ r : Int, 0 ≤ r → r ≤ 100000000000000000000 → Q (.int r)
def spLandD : DSp := fun ds Q => ∃ (d : PyData) (pl wn : Nat) (sc : Int), ds = [d, .int (pl : Nat), .int (wn : Nat), .int sc] ∧ 1 ≤ pl ∧ pl ≤ 12 ∧ wn ≤ 40 ∧ 1 ≤ sc ∧ sc ≤ 1000000000000000000 ∧ ∀ m ws, LandOk m ws → Q (landD m ws)
def spTableD : DSp := fun ds Q => ∃ (d : PyData) (m : Nat) (st : Int), ds = [d, .int (m : Nat), .int st] ∧ m ≤ 12 ∧ 0 ≤ st ∧ st ≤ 1000000000000000000000 ∧ ∀ t, TabOk m st t → Q (.list (tabL t))
def ODs (st : Int) (d : PyData) : Prop := ∃ o : Option Int, d = oD o ∧ ∀ x, o = some x → 0 ≤ x ∧ x ≤ st
theorem ods_tab {st : Int} : ∀ {ds : List PyData}, (∀ d ∈ ds, ODs st d) → ∃ t : Tb, ds = tabL t ∧ TabOk ds.length st t
  | [], _ => ⟨[], rfl, rfl, fun p x e => by rw [gt_out (Nat.zero_le _)] at e; cases e⟩
  | d :: ds, h => by
    obtain ⟨t, rfl, ht⟩ := ods_tab (ds := ds) fun e he => h e (List.mem_cons_of_mem _ he)
    obtain ⟨o, rfl, ho⟩ := h d List.mem_cons_self
    refine ⟨o :: t, rfl, ⟨by rw [List.length_cons, List.length_cons, len_tab], fun p x e => ?_⟩⟩
    cases p with
    | zero => exact ho x e
    | succ p => exact ht.bd p x e
theorem lt2 {r : Int} (h0 : 0 ≤ r) (h1 : r < 2) : r = 0 ∨ r = 1 := by omega
section
variable {P : Program} {w : World} {K : PySem.W.Frag} {mg : Str → Option Value} {base : Heap}
theorem ok_scale (T : Txt K mg) : FnOk P w K mg base CX0 4 T.a_scale T.d_scale ["_law_hand_here"] (spD [.hd] spScaleD) := by
  have G_draw := @ok_drawD P w K mg base T
  have b_draw := bd_draw T
  refine fn_d T.F_scale sc_scale rfl (fun C cdv A outer s H E hr => ⟨_, (@dss_one _ _ _ _ (@ds_ret _ _ _ _ _ (@pd_ix _ _ _ _ _ _ _ (pd_f (pf_lst (dv_cons pd_int (dv_cons pd_int (dv_cons pd_int (dv_cons pd_int (dv_cons (pd_op op_pow ok_pow pd_int pd_int) (dv_cons (pd_op op_pow ok_pow pd_int pd_int) dv_nil se_BinOp) se_BinOp) se_Constant) se_Constant) se_Constant) se_Constant))) (pd_call (pe_call G_draw (hr.mono (by decide)) rfl T.mg_draw T.kp_draw b_draw .nil pass0 (da_s (pv 0) (da_v pd_int da_nil se_Constant) se_Name) (he := se_Name) (hpl := (np_cons se_Constant np_nil)))) (fun _ _ => rfl)))), fun ds Q hl h => ?_⟩)
  obtain ⟨d, rfl, q⟩ := h
  decreasing_tactic
  refine ⟨⟨by decide, by decide, by decide⟩, ⟨by decide, by decide, by decide⟩, by decide, rfl, 6, rfl, by decide, by decide, fun r r0 r1 => ?_⟩
  decreasing_tactic
  have hr' : r = 0 ∨ r = 1 ∨ r = 2 ∨ r = 3 ∨ r = 4 ∨ r = 5 := by omega
  rcases hr' with rfl | rfl | rfl | rfl | rfl | rfl
  all_goals exact q _ (by decide) (by decide)
theorem ok_change (T : Txt K mg) : FnOk P w K mg base CX0 4 T.a_change T.d_change ["_law_hand_here", "_law_scale_here"] (spD [.hd, .sh] spChangeD) := by
  have G_draw := @ok_drawD P w K mg base T
  have b_draw := bd_draw T
  refine fn_d T.F_change sc_change rfl (fun C cdv A outer s H E hr => ⟨_, (dss_one (ds_ret (pd_op op_sub ok_sub (pd_call (pe_call G_draw (hr.mono (by decide)) rfl T.mg_draw T.kp_draw b_draw .nil pass0 (da_s (pv 0) (da_v (pd_op op_add ok_add (pd_op op_mul ok_mul pd_int (pd_var (pv 1))) pd_int) da_nil se_BinOp) se_Name) (he := se_Name) (hpl := (np_cons se_BinOp np_nil)))) (pd_var (pv 1))))), fun ds Q hl h => ?_⟩)
  obtain ⟨d, sc, rfl, s0, s1, q⟩ := h
  decreasing_tactic
  refine ⟨rfl, .inl ⟨by decide, by decide⟩, 2 * sc + 1, rfl, by omega, by omega, fun r r0 r1 => ?_⟩
  decreasing_tactic
  exact q _ (by omega) (by omega)
end
def spLandB : DSp := fun ds Q => ∃ (d : PyData) (pl wn : Nat) (sc : Int), ds = [d, .int (pl : Nat), .int (wn : Nat), .int sc] ∧ 1 ≤ pl ∧ pl ≤ 12 ∧ wn ≤ 40 ∧ 1 ≤ sc ∧ sc ≤ 1000000000000000000 ∧ ∀ m ws, m ≤ pl → ws.length ≤ wn → LandOk m ws → Q (landD m ws)
def WyB (m : Nat) (w : Wy) : Prop := w.1 < m ∧ w.2.1 < m ∧ -1000000000000000000 ≤ w.2.2 ∧ w.2.2 ≤ 1000000000000000000
theorem toNat_lt {r : Int} {m : Nat} (h0 : 0 ≤ r) (h1 : r < ((m : Nat) : Int)) : ∃ n : Nat, r = ((n : Nat) : Int) ∧ n < m := ⟨r.toNat, by omega, by omega⟩
section
variable {P : Program} {w : World} {K : PySem.W.Frag} {mg : Str → Option Value} {base : Heap}
theorem ok_land (T : Txt K mg) : FnOk P w K mg base CX0 5 T.a_land T.d_land ["_law_hand_here", "_law_places", "_law_ways", "_law_scale_here"] (spD [.hd, .sh, .sh, .sh] spLandB) := by
  have G_draw := @ok_drawD P w K mg base T
  have b_draw := bd_draw T
  have G_change := @ok_change P w K mg base T
  have b_change := bd_change T
  refine fn_d T.F_land sc_land rfl (fun C cdv A outer s H E hr => ⟨_, (@dss_consG _ _ _ _ _ _ (ds_set (ps_set (i := 4) sc_land.nd rfl (Or.inl rfl) (pd_op op_add ok_add pd_int (pd_call (pe_call G_draw (hr.mono (by decide)) rfl T.mg_draw T.kp_draw b_draw .nil pass0 (da_s (pv 0) (da_v (pd_var (pv 1)) da_nil se_Name) se_Name) (he := se_Name) (hpl := (np_cons se_Name np_nil))))))) (@dss_consG _ _ _ _ _ _ (ds_own (ps_set (i := 5) sc_land.nd rfl (Or.inl rfl) (pf_lst dv_nil))) (@dss_consG _ _ _ _ _ _ (@ds_for _ _ _ _ _ _ (@ps_for _ _ _ _ _ _ _ _ PassesOwn.never rfl (di_rng1 (pi_range1 rfl T.n_range (dv_cons (pd_call (pe_call G_draw (hr.mono (by decide)) rfl T.mg_draw T.kp_draw b_draw .nil pass0 (da_s (pv 0) (da_v (pd_op op_add ok_add (pd_var (pv 2)) pd_int) da_nil se_BinOp) se_Name) (he := se_Name) (hpl := (np_cons se_BinOp np_nil)))) dv_nil se_Call))) (dg_name (pg_name (i := 6) sc_land.nd rfl (Or.inl rfl))) (@dss_consG _ _ _ _ _ _ (ds_set (ps_set (i := 7) sc_land.nd rfl (Or.inl rfl) (pd_call (pe_call G_draw (hr.mono (by decide)) rfl T.mg_draw T.kp_draw b_draw .nil pass0 (da_s (pv 0) (da_v (pd_var (pv 4)) da_nil se_Name) se_Name) (he := se_Name) (hpl := (np_cons se_Name np_nil)))))) (@dss_consG _ _ _ _ _ _ (ds_set (ps_set (i := 8) sc_land.nd rfl (Or.inl rfl) (pd_call (pe_call G_draw (hr.mono (by decide)) rfl T.mg_draw T.kp_draw b_draw .nil pass0 (da_s (pv 0) (da_v (pd_var (pv 4)) da_nil se_Name) se_Name) (he := se_Name) (hpl := (np_cons se_Name np_nil)))))) (@dss_consG _ _ _ _ _ _ (@ds_mid _ _ _ _ (@ds_if _ _ _ _ _ _ _ _ _ (pdt_cmp (op_eqD (units_of hr)) ok_eq (pd_call (pe_call G_draw (hr.mono (by decide)) rfl T.mg_draw T.kp_draw b_draw .nil pass0 (da_s (pv 0) (da_v pd_int da_nil se_Constant) se_Name) (he := se_Name) (hpl := (np_cons se_Constant np_nil)))) pd_int (nomark _)) (dss_one (ds_set (ps_set (i := 8) sc_land.nd rfl (Or.inl rfl) (pd_op op_mod ok_mod (pd_op op_add ok_add (pd_var (pv 7)) pd_int) (pd_var (pv 4)))))) dss_nil)) (@dss_one _ _ _ _ (@ds_app _ _ _ _ _ _ (@ps_expr _ _ _ _ (@pe_bm _ _ _ _ _ _ _ _ _ _ _ _ PySem.F.plainAttrs_list PySem.F.slot_list_append PySem.F.type_list_append mt_append (pv 5) (@pa_cons _ _ _ _ _ (@pd_tup _ _ _ _ _ _ (@dv_cons _ _ _ _ _ _ (pd_var (pv 7)) (@dv_cons _ _ _ _ _ _ (pd_var (pv 8)) (@dv_cons _ _ _ _ _ _ (@pd_call _ _ _ _ _ _ _ (@pe_call _ _ _ _ _ _ _ _ _ _ _ _ _ _ _ _ G_change (hr.mono (by decide)) rfl T.mg_change T.kp_change b_change .nil pass0 (da_s (pv 0) (da_v (pd_ix (pd_f (pf_lst (dv_cons (pd_var (pv 3)) (dv_cons (pd_var (pv 3)) (dv_cons pd_int dv_nil se_Constant) se_Name) se_Name))) (pd_call (pe_call G_draw (hr.mono (by decide)) rfl T.mg_draw T.kp_draw b_draw .nil pass0 (da_s (pv 0) (da_v pd_int da_nil se_Constant) se_Name) (he := se_Name) (hpl := (np_cons se_Constant np_nil)))) (fun _ _ => rfl)) da_nil se_Subscript) se_Name) (by decide) se_Name ((np_cons se_Subscript np_nil)))) dv_nil se_Call) se_Name) se_Name)) pa_nil se_Tuple) (by rfl) (by rfl) (by rfl) (by rfl) (by rfl)) (by rfl))))))) (by intro _; rfl))) (dss_one (ds_ret (pd_tup (dv_cons (pd_var (pv 4)) (dv_cons (pd_var (pv 5)) dv_nil se_Name) se_Name))))))), fun ds Q hl h => ?_⟩)
  obtain ⟨d, pl, wn, sc, rfl, p1, p2, w2, s0, s1, q⟩ := h
  decreasing_tactic
  refine ⟨rfl, _, rfl, by omega, by omega, fun r r0 r1 => ?_⟩
  decreasing_tactic
  obtain ⟨m, hm, m1⟩ : ∃ m : Nat, 1 + r = ((m : Nat) : Int) ∧ 1 ≤ m ∧ m ≤ 12 ∧ m ≤ pl := ⟨(1 + r).toNat, by omega, by omega, by omega, by omega⟩
  rw [hm]
  refine go ?_; decreasing_tactic
  refine ⟨by decide, ?_⟩
  refine go ?_; array_mem_dec
  refine ⟨rfl, _, rfl, by omega, by omega, fun c c0 c1 => ?_⟩
  array_mem_dec
  refine ⟨⟨by omega, by omega⟩, fun r ρ => ∃ (ws : List Wy) (z6 z7 z8 : Sl), ρ = [Sl.hd, Sl.sh (.int (pl : Nat)), Sl.sh (.int (wn : Nat)), Sl.sh (.int sc), Sl.sh (.int (m : Nat)), Sl.ow (ws.map wayD), z6, z7, z8] ∧ r.length + ws.length ≤ wn ∧ ∀ w ∈ ws, WyB m w, ⟨[], _, _, _, rfl, by unfold rngD; simp; omega, fun w hw => nomatch hw⟩, ?_, ?_⟩
  · rintro x r ρ ⟨ws, z6, z7, z8, rfl, hl2, hw⟩
    sizeOf_list_dec
    refine ⟨rfl, _, rfl, by omega, by omega, fun a a0 a1 => ?_⟩
    refine go ?_; decreasing_tactic
    refine ⟨rfl, _, rfl, by omega, by omega, fun b b0 b1 => ?_⟩
    refine go ?_
    unfold dSeqG
    obtain ⟨a', rfl, ha⟩ := toNat_lt a0 a1
    obtain ⟨b', rfl, hb⟩ := toNat_lt b0 b1
    refine ⟨fun ρ => ∃ e : Nat, e < m ∧ ρ = [Sl.hd, Sl.sh (.int (pl : Nat)), Sl.sh (.int (wn : Nat)), Sl.sh (.int sc), Sl.sh (.int (m : Nat)), Sl.ow (ws.map wayD), Sl.sh x, Sl.sh (.int (a' : Nat)), Sl.sh (.int (e : Nat))], ?_, ?_⟩
    · decreasing_tactic
      refine ⟨rfl, _, rfl, by decide, by decide, fun u u0 u1 => ?_⟩
      decreasing_tactic
      refine ⟨rfl, rfl, min0 _ _, ?_⟩
      rw [eqv_int]
      cases (u == 0) with
      | true =>
        decreasing_tactic
        refine ⟨by omega, ?_⟩
        obtain ⟨e, he, hem⟩ := toNat_lt (r := (((a' : Nat) : Int) + 1) % ((m : Nat) : Int)) (m := m) (Int.emod_nonneg _ (by omega)) (Int.emod_lt_of_pos _ (by omega))
        rw [he]
        exact ⟨e, hem, rfl⟩
      | false =>
        decreasing_tactic
        exact ⟨b', hb, rfl⟩
    · rintro ρ ⟨e, he, rfl⟩
      refine go ?_; decreasing_tactic
      refine ⟨rfl, by show 3 ≤ 1000; decide, rfl, _, rfl, by decide, by decide, fun u u0 u1 => ?_⟩
      decreasing_tactic
      obtain ⟨sc', hsc, hs0, hs1⟩ : ∃ sc' : Int, atI [PyData.int sc, .int sc, .int 1] u = some (.int sc') ∧ 0 ≤ sc' ∧ sc' ≤ 1000000000000000000 := by
        have hu : u = 0 ∨ u = 1 ∨ u = 2 := by omega
        rcases hu with rfl | rfl | rfl
        · exact ⟨sc, rfl, by omega, s1⟩
        · exact ⟨sc, rfl, by omega, s1⟩
        · exact ⟨1, rfl, by decide, by decide⟩
      rw [hsc]
      decreasing_tactic
      refine ⟨_, sc', rfl, hs0, hs1, fun v v0 v1 => ?_⟩
      decreasing_tactic
      refine ⟨by decide, by rw [List.length_map]; simp at hl2; omega, ws ++ [(a', e, v)], _, _, _, by rw [List.map_append]; rfl, by simp at hl2 ⊢; omega, fun w hw' => ?_⟩
      rcases List.mem_append.mp hw' with z | z
      · exact hw w z
      · have : w = (a', e, v) := by simpa using z
        subst this
        exact ⟨ha, he, show -1000000000000000000 ≤ v by omega, show v ≤ 1000000000000000000 by omega⟩
  · rintro ρ ⟨ws, z6, z7, z8, rfl, hl2, hw⟩
    refine go ?_; decreasing_tactic
    refine ⟨by decide, ?_⟩
    exact q m ws m1.2.2 (by simp at hl2; omega) ⟨m1.1, m1.2.1, by simp at hl2; omega, fun w h => (hw w h).1, fun w h => (hw w h).2.1, fun w h => (hw w h).2.2.1, fun w h => (hw w h).2.2.2⟩
end
def Prs (m : Nat) (B : Int) (pr : List (Option Int)) : Prop := pr.length = m ∧ ∀ p c, gt pr p = some c → 0 ≤ c ∧ c ≤ B
def spPricesD : DSp := fun ds Q => ∃ (d : PyData) (m : Nat), ds = [d, .int ((m : Nat) : Int)] ∧ m ≤ 60 ∧ ∀ pr, Prs m 1000000000000000000 pr → Q (.list (tabL pr))
def spMarketB : DSp := fun ds Q => ∃ (d : PyData) (pl wn mo : Nat), ds = [d, .int ((pl : Nat) : Int), .int ((wn : Nat) : Int), .int ((mo : Nat) : Int)] ∧ 1 ≤ pl ∧ pl ≤ 12 ∧ wn ≤ 40 ∧ mo ≤ 90 ∧ ∀ m n ws pr, m ≤ pl → ws.length ≤ wn → LandOk m ws → 1 ≤ n → n ≤ mo + 1 → Prs m 1000000000000000000 pr → Q (.tuple [landD m ws, .int (((n : Nat) : Int) - 1), .list (tabL pr)])
theorem prs_snoc {m : Nat} {B : Int} {pr : List (Option Int)} {o : Option Int} (h : Prs m B pr) (ho : ∀ c, o = some c → 0 ≤ c ∧ c ≤ B) : Prs (m + 1) B (pr ++ [o]) := by
  refine ⟨by rw [List.length_append, h.1]; rfl, fun p c e => ?_⟩
  unfold gt at e
  by_cases q : p < pr.length
  · rw [List.getElem?_append_left q] at e
    exact h.2 p c e
  · rw [List.getElem?_append_right (by omega)] at e
    cases z : p - pr.length with
    | zero => rw [z] at e; exact ho c e
    | succ k => rw [z] at e; simp at e
def OddB (x : PyData) : Bool := okS x && decide (x.depth ≤ 3)
structure SplOk (x : PyData) : Prop where
  ok : okS x = true
  dp : x.depth ≤ 6
  ln : ∀ a b, x = .tuple [a, .list b] → b.length ≤ 300
  sc : (∃ ds, x = .list ds ∨ x = .tuple ds) ∨ (x.canLay0 = true ∧ x.depth ≤ 60)
theorem SplOk.neS {x : PyData} (h : SplOk x) {Q : PyData → Prop} (q : Q (.bool false)) : gNeS x x Q := by
  rcases h.sc with ⟨ds, z⟩ | z
  · exact .inr ⟨rfl, h.ok, by have := h.dp; omega, ⟨ds, z⟩, q⟩
  · refine .inl ⟨z.1, z.1, by have := z.2; omega, ?_⟩
    rw [PySem.SeqAt.eqv_refl _ z.1]
    exact q
def ndD : Option Nat → PyData
  | none => .none
  | some k => .int ((k : Nat) : Int)
def spOdd : DSp := fun ds Q => ∃ (d : PyData) (m : Int), ds = [d, .int m] ∧ ∀ x, OddB x = true → Q x
def spSpl : DSp := fun ds Q => ∃ (d : PyData) (m : Int) (ws : List PyData), ds = [d, .int m, .list ws] ∧ ws.length ≤ 40 ∧ (∀ x ∈ ws, OddB x = true) ∧ ∀ x, SplOk x → Q x
def spFaL : DSp := fun ds Q => ∃ (d : PyData), ds = [d] ∧ SplOk d ∧ Q (ndD (ftD d))
def spTak : DSp := fun ds Q => ∃ (m : Int) (ws : List PyData), ds = [.int m, .list ws] ∧ LdOk m ws ∧ Q (.bool true)
theorem pick_all {L : List PyData} {P : PyData → Bool} (h : L.all P = true) {u : Int} (h0 : 0 ≤ u) (h1 : u < ((L.length : Nat) : Int)) {Q : PyData → Prop} (q : ∀ x, P x = true → Q x) : bnd (atI L u) Q := by
  obtain ⟨k, rfl⟩ : ∃ k : Nat, u = ((k : Nat) : Int) := ⟨u.toNat, by omega⟩
  have hk : k < L.length := by omega
  exact bnd_at (atI_nat (List.getElem?_eq_getElem hk)) (q _ (List.all_eq_true.mp h _ (List.getElem_mem hk)))
theorem pick_mem {L : List PyData} {P : PyData → Prop} (h : ∀ x ∈ L, P x) {u : Int} (h0 : 0 ≤ u) (h1 : u < ((L.length : Nat) : Int)) {Q : PyData → Prop} (q : ∀ x, P x → Q x) : bnd (atI L u) Q := by
  obtain ⟨k, rfl⟩ : ∃ k : Nat, u = ((k : Nat) : Int) := ⟨u.toNat, by omega⟩
  have hk : k < L.length := by omega
  exact bnd_at (atI_nat (List.getElem?_eq_getElem hk)) (q _ (h _ (List.getElem_mem hk)))
theorem mem_at {L : List PyData} {u : Int} (h0 : 0 ≤ u) (h1 : u < ((L.length : Nat) : Int)) : ∃ s ∈ L, atI L u = some s := by
  obtain ⟨k, rfl⟩ : ∃ k : Nat, u = ((k : Nat) : Int) := ⟨u.toNat, by omega⟩
  have hk : k < L.length := by omega
  exact ⟨L[k], List.getElem_mem hk, atI_nat (List.getElem?_eq_getElem hk)⟩
section
variable {P : Program} {w : World} {K : PySem.W.Frag} {mg : Str → Option Value} {base : Heap}
theorem ok_law_is_way (T : Txt K mg) : FnOk P w K mg base CX0 2 T.a_law_is_way T.d_law_is_way ["_law_many", "_law_thing"] (spD [.sh, .sh] spWyA) := by
  have G_law_is_whole := @ok_law_is_whole P w K mg base T
  have b_law_is_whole := bd_law_is_whole T
  refine fn_d T.F_law_is_way sc_law_is_way rfl (fun C cdv A outer s H E hr => ⟨_, (@dss_consG _ _ _ _ _ _ (@ds_mid _ _ _ _ (@ds_if _ _ _ _ _ _ _ _ _ (PW.pt (@pwd_or _ _ _ _ _ _ _ _ (pdt_not (pdt_val (pd_isiv ty_tuple (pe_callB call_isinst2 rfl T.n_isinstance bt_isinstance (pa_cons (pv 1) (pa_cons (pe_bltn (v := V.ty "tuple") rfl T.n_tuple bt_tuple rfl) pa_nil se_Name) se_Name) (he := se_Name) (hpl := (np_cons se_Name np_nil)))))) (pwd_or1 (pdt_cmp (op_neD (units_of hr)) ok_eq (pd_lenv (pe_callB call_len_seq rfl T.n_len bt_len (pa_cons (pv 1) pa_nil se_Name) (he := se_Name) (hpl := np_nil))) pd_int (nomark _))))) (dss_one (ds_ret pd_bl)) dss_nil)) (@dss_consG _ _ _ _ _ _ (@ds_mid _ _ _ _ (ds_for (ps_for PassesOwn.never rfl (di_tup (pd_var (pv 1))) (dg_name (pg_name (i := 2) sc_law_is_way.nd rfl (Or.inl rfl)))
      (dss_one (ds_if (pdt_not (pdt_val (pd_call (pe_call G_law_is_whole (hr.mono (by decide)) rfl T.mg_law_is_whole T.kp_law_is_whole b_law_is_whole .nil pass0 (da_v (pd_var (pv 2)) da_nil se_Name) (he := se_Name) (hpl := np_nil)))))
      (dss_one (ds_ret pd_bl))
      dss_nil))))) (@dss_one _ _ _ _ (@ds_ret _ _ _ _ _ (@pd_and _ _ _ _ _ _ _ _ (pd_chain op_le op_lt pd_int (pd_ixv (pv 1) pd_int (fun _ _ => rfl)) (pd_var (pv 0))) (pd_and (pd_chain op_le op_lt pd_int (pd_ixv (pv 1) pd_int (fun _ _ => rfl)) (pd_var (pv 0))) (pd_one (pd_cmp op_le ok_le (pd_cb cb_abs (pe_callB call_abs rfl T.n_abs bt_abs (dv_cons (pd_ixv (pv 1) pd_int (fun _ _ => rfl)) dv_nil se_Subscript) (he := se_Subscript) (hpl := np_nil))) (pd_op op_pow ok_pow pd_int pd_int) (nomark _))))))))), fun ds Q hl h => ?_⟩)
  obtain ⟨m, d, rfl, q⟩ := h
  cases d with
  | tuple xs =>
    refine mid_of (fun ρ' => xs.length = 3 ∧ ρ' = [Sl.sh (.int m), Sl.sh (.tuple xs), Sl.no]) ?_ ?_
    · decreasing_tactic
      refine iteNo ⟨rfl, rfl, min0 _ _, ?_⟩
      rw [eqv_int]
      by_cases hl3 : xs.length = 3
      · rw [hl3]
        exact iteNo ⟨rfl, rfl⟩
      · rw [beq_eq_false_iff_ne.mpr (show ((xs.length : Nat) : Int) ≠ 3 by omega)]
        rw [way_len hl3] at q
        exact iteT q
    rintro ρ ⟨hl3, rfl⟩
    try dsimp only
    refine go (mid_of (fun ρ' => ∃ (z2 : Sl), (∀ x ∈ xs, wholeD x = true) ∧ ρ' = [Sl.sh (.int m), Sl.sh (.tuple xs), z2]) ?_ ?_)
    · refine for_of ?_
      try dsimp only [dIl, dIv, dIt, dRng1, dRng2, dEnum, dIrev, dIL, dEnumL, dSeq, dSeqG, dSet, dOwn, dOp, dVar, dIfS, dT, dRet, dDrop, dCb, dCons, dNil, dC, dF, dLst, dTup, dNeg, dNot, dAnd, dOr, dAndV, dOrV, dNotV, dBV, dIf, dChain, dIx, dIxV, dLenV, dListV, dList, dSlV, dSl, dCat, dRep, dIsiV, dIsi, dCall, aNil, aV, aS, arsD, arD, isSl, slotD, bnd_some, ixD, lenD, listD, itemsD, gI, gI0, gAdd, gMns, gMul, gMod, gDiv, gPow, gLt, gLe, gGt, gGe, gEq, gIsN, isN, gLen, gMin, gMax, gI2, gAbs, gInt, gAll, gAny, dNext, dLrev, dApp, dIns, dEqV, dSetI, dAsg, gN, gT2, gT3, gT5, gInS, strsD, gMaxP, dPopI, dLrng, dZip, dCompT2, dComp, dCompT3, dIndexV, gIn, gB2, oN, oS, startN, slOf, a1_0, a2_0, a2_1, a3_0, a3_1, a3_2, isiD, tyD, List.tail_cons, List.tail_nil, List.getElem?_cons_zero, List.getElem?_cons_succ, List.set_cons_zero, List.set_cons_succ, List.length_cons, List.length_nil, Option.bind_some, Option.map_some, List.cons_append, List.nil_append, iteTT, iteFF, iteTB, iteFB, iteTI, iteFI, Bool.not_true, Bool.not_false, dTupV, dTupE, dDict0, dNewP, dNewL, dNeL, gSum, dRevV, dCompU, dCompS2, dTry, dCallX, dRz, xkD, dLVar, lentD, dIxL, dFlat, flatD, dLenL, dIsiL, dIsNL, dListL, dLendE, dLendB, noBB, dNewT, flatM, dMutA, dMutN, dMutC, aW, dNinD, dCallS, arsS, arS]
      refine forW (fun r ρ => ∃ (A : List PyData) (z2 : Sl), xs = A ++ r ∧ (∀ x ∈ A, wholeD x = true) ∧ ρ = [Sl.sh (.int m), Sl.sh (.tuple xs), z2]) ⟨[], _, rfl, (fun x hx => nomatch hx), rfl⟩ ?_ ?_
      · rintro x r ρ ⟨A, z2, e, hA, rfl⟩
        sizeOf_list_dec
        refine ⟨x, rfl, ?_⟩
        cases hx : wholeD x with
        | true =>
          refine iteNo ⟨A ++ [x], _, by rw [List.append_assoc]; exact e, fun y hy => ?_, rfl⟩
          rcases List.mem_append.mp hy with z | z
          · exact hA y z
          · rw [List.mem_singleton.mp z]; exact hx
        | false =>
          have : wayB m (.tuple xs) = false := by
            cases hb : wayB m (.tuple xs) with
            | false => rfl
            | true =>
              obtain ⟨a, b, c, e2⟩ := way_inv hb
              injection e2 with e2
              have hm : x ∈ xs := by rw [e]; exact List.mem_append_right _ List.mem_cons_self
              rw [e2] at hm
              rcases List.mem_cons.mp hm with rfl | hm
              · cases hx
              rcases List.mem_cons.mp hm with rfl | hm
              · cases hx
              rw [List.mem_singleton.mp hm] at hx
              cases hx
          rw [this] at q
          exact iteT q
      · rintro ρ ⟨A, z2, e, hA, rfl⟩
        exact ⟨_, by rw [e, List.append_nil]; exact hA, rfl⟩
    rintro ρ ⟨z2, hA, rfl⟩
    try dsimp only
    obtain ⟨a, b, c, rfl⟩ := len3 hl3
    have ia : ∀ {x}, wholeD x = true → ∃ i, x = .int i := fun {x} hx => by
      cases x with
      | int i => exact ⟨i, rfl⟩
      | _ => cases hx
    obtain ⟨a, rfl⟩ := ia (hA a List.mem_cons_self)
    obtain ⟨b, rfl⟩ := ia (hA b (List.mem_cons_of_mem _ List.mem_cons_self))
    obtain ⟨c, rfl⟩ := ia (hA c (List.mem_cons_of_mem _ (List.mem_cons_of_mem _ List.mem_cons_self)))
    have q : Q (.bool (decide (0 ≤ a ∧ a < m) && (decide (0 ≤ b ∧ b < m) && decide (-1000000000000000000 ≤ c ∧ c ≤ 1000000000000000000)))) := q
    refine go ?_; decreasing_tactic
    have q0 : ¬ (0 ≤ a ∧ a < m ∧ 0 ≤ b ∧ b < m) → Q (.bool false) := fun z => by
      have e : (decide (0 ≤ a ∧ a < m) && (decide (0 ≤ b ∧ b < m) && decide (-1000000000000000000 ≤ c ∧ c ≤ 1000000000000000000))) = false := by
        rw [Bool.eq_false_iff]
        intro h
        rw [Bool.and_eq_true, Bool.and_eq_true, decide_eq_true_iff, decide_eq_true_iff] at h
        exact z ⟨h.1.1, h.1.2, h.2.1.1, h.2.1.2⟩
      rw [e] at q
      exact q
    by_cases c1 : 0 ≤ a
    · rw [decide_eq_true c1]
      refine iteT ?_
      by_cases c2 : a < m
      · rw [decide_eq_true c2]
        refine iteT ?_
        by_cases c3 : 0 ≤ b
        · rw [decide_eq_true c3]
          refine iteT ?_
          by_cases c4 : b < m
          · rw [decide_eq_true c4]
            refine iteT ⟨⟨by decide, by decide, by decide⟩, ?_⟩
            rw [show ((10 : Int) ^ Int.toNat 18) = 1000000000000000000 from rfl]
            rw [decide_eq_true ⟨c1, c2⟩, decide_eq_true ⟨c3, c4⟩, Bool.true_and, Bool.true_and] at q
            rw [show decide ((if c < 0 then -c else c) ≤ 1000000000000000000) = decide (-1000000000000000000 ≤ c ∧ c ≤ 1000000000000000000) by rw [decide_eq_decide]; split <;> omega]
            exact q
          · rw [decide_eq_false c4]
            exact iteNo (q0 fun z => c4 z.2.2.2)
        · rw [decide_eq_false c3]
          exact iteNo (q0 fun z => c3 z.2.2.1)
      · rw [decide_eq_false c2]
        exact iteNo (q0 fun z => c2 z.2.1)
    · rw [decide_eq_false c1]
      exact iteNo (q0 fun z => c1 z.1)
  | _ =>
    refine mid_of (fun _ => False) ?_ fun ρ z => z.elim
    decreasing_tactic
    exact iteT q
theorem ok_odd (T : Txt K mg) : FnOk P w K mg base CX0 4 T.a_odd T.d_odd ["_law_hand_here", "_law_many"] (spD [.hd, .sh] spOdd) := by
  have G_draw := @ok_drawD P w K mg base T
  have b_draw := bd_draw T
  refine fn_d T.F_odd sc_odd rfl (fun C cdv A outer s H E hr => ⟨_, (@dss_consG _ _ _ _ _ _ (ds_set (ps_set (i := 2) sc_odd.nd rfl (Or.inl rfl) (pd_op op_add ok_add (pd_op op_add ok_add (pd_op op_pow ok_pow pd_int pd_int) pd_int) (pd_call (pe_call G_draw (hr.mono (by decide)) rfl T.mg_draw T.kp_draw b_draw .nil pass0 (da_s (pv 0) (da_v (pd_op op_pow ok_pow pd_int pd_int) da_nil se_BinOp) se_Name) (he := se_Name) (hpl := (np_cons se_BinOp np_nil))))))) (@dss_consG _ _ _ _ _ _ (@ds_set _ _ _ _ _ (@ps_set _ _ 3 _ _ _ _ sc_odd.nd rfl (Or.inl rfl) (@pd_f _ _ _ _ (@pf_lst _ _ _ _ _ (@dv_cons _ _ _ _ _ _ pd_non (@dv_cons _ _ _ _ _ _ (pd_tup (dv_cons pd_int (dv_cons pd_int dv_nil se_Constant) se_Constant)) (@dv_cons _ _ _ _ _ _ (pd_tup (dv_cons pd_int (dv_cons pd_int (dv_cons pd_int (dv_cons pd_int dv_nil se_Constant) se_Constant) se_Constant) se_Constant)) (@dv_cons _ _ _ _ _ _ (pd_f (pf_lst (dv_cons pd_int (dv_cons pd_int (dv_cons pd_int dv_nil se_Constant) se_Constant) se_Constant))) (@dv_cons _ _ _ _ _ _ (pd_tup (dv_cons (pd_var (pv 1)) (dv_cons pd_int (dv_cons pd_int dv_nil se_Constant) se_Constant) se_Name)) (@dv_cons _ _ _ _ _ _ (pd_tup (dv_cons (pd_neg pd_int) (dv_cons pd_int (dv_cons pd_int dv_nil se_Constant) se_Constant) se_UnaryOp)) (dv_cons (pd_tup (dv_cons pd_int (dv_cons (pd_var (pv 1)) (dv_cons pd_int dv_nil se_Constant) se_Name) se_Constant)) (dv_cons (pd_tup (dv_cons pd_int (dv_cons (pd_neg pd_int) (dv_cons pd_int dv_nil se_Constant) se_UnaryOp) se_Constant)) (dv_cons (pd_tup (dv_cons pd_bl (dv_cons pd_int (dv_cons pd_int dv_nil se_Constant) se_Constant) se_Constant)) dv_nil se_Tuple) se_Tuple) se_Tuple) se_Tuple) se_Tuple) se_List) se_Tuple) se_Tuple) se_Constant))) (by rfl) (by first | exact .inl rfl | exact .inr rfl | assumption))) (@dss_consG _ _ _ _ _ _ (@ds_set _ _ _ _ _ (@ps_set _ _ 3 _ _ _ _ sc_odd.nd rfl (Or.inl rfl) (@pd_f _ _ _ _ (@pf_cat _ _ _ _ _ _ _ (pd_var (pv 3)) (@pd_f _ _ _ _ (@pf_lst _ _ _ _ _ (@dv_cons _ _ _ _ _ _ (pd_tup (dv_cons pd_int (dv_cons pd_bl (dv_cons pd_int dv_nil se_Constant) se_Constant) se_Constant)) (@dv_cons _ _ _ _ _ _ (pd_tup (dv_cons pd_int (dv_cons pd_int (dv_cons pd_bl dv_nil se_Constant) se_Constant) se_Constant)) (@dv_cons _ _ _ _ _ _ (pd_tup (dv_cons pd_int (dv_cons pd_int (dv_cons pd_non dv_nil se_Constant) se_Constant) se_Constant)) (@dv_cons _ _ _ _ _ _ (pd_tup (dv_cons pd_int (dv_cons pd_int (dv_cons pd_str dv_nil se_Constant) se_Constant) se_Constant)) (dv_cons (pd_tup (dv_cons pd_int (dv_cons pd_int (dv_cons (pd_var (pv 2)) dv_nil se_Name) se_Constant) se_Constant)) (dv_cons (pd_tup (dv_cons pd_int (dv_cons pd_int (dv_cons (pd_neg (pd_var (pv 2))) dv_nil se_UnaryOp) se_Constant) se_Constant)) (dv_cons (pd_tup (dv_cons pd_str (dv_cons pd_int (dv_cons pd_int dv_nil se_Constant) se_Constant) se_Constant)) dv_nil se_Tuple) se_Tuple) se_Tuple) se_Tuple) se_Tuple) se_Tuple) se_Tuple))))) (by rfl) (by first | exact .inl rfl | exact .inr rfl | assumption))) (@dss_consG _ _ _ _ _ _ (@ds_set _ _ _ _ _ (@ps_set _ _ 3 _ _ _ _ sc_odd.nd rfl (Or.inl rfl) (@pd_f _ _ _ _ (@pf_cat _ _ _ _ _ _ _ (pd_var (pv 3)) (@pd_f _ _ _ _ (@pf_lst _ _ _ _ _ (@dv_cons _ _ _ _ _ _ pd_int (@dv_cons _ _ _ _ _ _ pd_dict0 (@dv_cons _ _ _ _ _ _ (pd_tup (dv_cons (pd_tup (dv_cons pd_int (dv_cons pd_int dv_nil se_Constant) se_Constant)) (dv_cons pd_int (dv_cons pd_int dv_nil se_Constant) se_Constant) se_Tuple)) (@dv_cons _ _ _ _ _ _ pd_str (@dv_cons _ _ _ _ _ _ (pd_tup (dv_cons pd_int (dv_cons pd_int (dv_cons (pd_op op_pow ok_pow pd_int pd_int) dv_nil se_BinOp) se_Constant) se_Constant)) (dv_cons (pd_tup (dv_cons (pd_op op_sub ok_sub (pd_var (pv 1)) pd_int) (dv_cons pd_int (dv_cons (pd_neg (pd_op op_pow ok_pow pd_int pd_int)) dv_nil se_UnaryOp) se_Constant) se_BinOp)) (dv_cons (pd_tup (dv_cons pd_int (dv_cons pd_str (dv_cons pd_int dv_nil se_Constant) se_Constant) se_Constant)) dv_nil se_Tuple) se_Tuple) se_Tuple) se_Constant) se_Tuple) se_Dict) se_Constant))))) (by rfl) (by first | exact .inl rfl | exact .inr rfl | assumption))) (@dss_consG _ _ _ _ _ _ (@ds_set _ _ _ _ _ (@ps_set _ _ 3 _ _ _ _ sc_odd.nd rfl (Or.inl rfl) (@pd_f _ _ _ _ (@pf_cat _ _ _ _ _ _ _ (pd_var (pv 3)) (@pd_f _ _ _ _ (@pf_lst _ _ _ _ _ (@dv_cons _ _ _ _ _ _ (pd_tup (dv_cons pd_int (dv_cons pd_non (dv_cons pd_int dv_nil se_Constant) se_Constant) se_Constant)) (@dv_cons _ _ _ _ _ _ (pd_tup (dv_cons pd_int (dv_cons (pd_f (pf_lst (dv_cons pd_int dv_nil se_Constant))) (dv_cons pd_int dv_nil se_Constant) se_List) se_Constant)) (@dv_cons _ _ _ _ _ _ (pd_tup (dv_cons pd_non (dv_cons pd_int (dv_cons pd_int dv_nil se_Constant) se_Constant) se_Constant)) (dv_cons (pd_tup (dv_cons pd_int (dv_cons pd_int (dv_cons (pd_op op_pow ok_pow pd_int pd_int) dv_nil se_BinOp) se_Constant) se_Constant)) (dv_cons (pd_tup (dv_cons (pd_op op_pow ok_pow pd_int pd_int) (dv_cons pd_int (dv_cons pd_int dv_nil se_Constant) se_Constant) se_BinOp)) dv_nil se_Tuple) se_Tuple) se_Tuple) se_Tuple) se_Tuple))))) (by rfl) (by first | exact .inl rfl | exact .inr rfl | assumption))) (dss_one (ds_ret (pd_ixv (pv 3) (pd_call (pe_call G_draw (hr.mono (by decide)) rfl T.mg_draw T.kp_draw b_draw .nil pass0 (da_s (pv 0) (da_v (pd_lenv (pe_callB call_len_seq rfl T.n_len bt_len (pa_cons (pv 3) pa_nil se_Name) (he := se_Name) (hpl := np_nil))) da_nil se_Call) se_Name) (he := se_Name) (hpl := (np_cons se_Call np_nil)))) (fun _ _ => rfl))))))))), fun ds Q hl h => ?_⟩)
  obtain ⟨d, m, rfl, q⟩ := h
  decreasing_tactic
  refine ⟨⟨by decide, by decide, by decide⟩, rfl, ⟨by decide, by decide, by decide⟩, _, rfl, by decide, by decide, fun j j0 j1 => ?_⟩
  refine go ?_; decreasing_tactic
  (repeat ((with_reducible refine And.intro ?cc ?_); (case cc => first | decide | exact ⟨by decide, by decide, by decide⟩)))
  refine go ?_; decreasing_tactic
  (repeat ((with_reducible refine And.intro ?cc ?_); (case cc => first | decide | exact ⟨by decide, by decide, by decide⟩)))
  refine go ?_; decreasing_tactic
  (repeat ((with_reducible refine And.intro ?cc ?_); (case cc => first | decide | exact ⟨by decide, by decide, by decide⟩)))
  refine go ?_; decreasing_tactic
  (repeat ((with_reducible refine And.intro ?cc ?_); (case cc => first | decide | exact ⟨by decide, by decide, by decide⟩)))
  refine go ?_; decreasing_tactic
  refine ⟨rfl, _, rfl, by decide, by decide, fun u u0 u1 => ?_⟩
  refine pick_all (P := OddB) ?_ u0 ?_ q
  · rfl
  · exact u1
end
theorem ft_no {d : PyData} (h : frB d = false) : ftD d = some 0 := by unfold ftD; rw [h]; rfl
theorem fr_no {a b : PyData} (h : wholeD a = false) : frB (.tuple [a, b]) = false := by
  unfold frB
  split
  · rename_i e
    cases e
    cases h
  · rfl
theorem fr_not {d : PyData} (h : isiD "tuple" d = false) : frB d = false := by
  cases d with
  | tuple xs => cases h
  | _ => rfl
theorem fr_bd {m : Int} {b : PyData} (c : ¬ (1 ≤ m ∧ m ≤ 12)) : frB (.tuple [.int m, b]) = false := by
  unfold frB
  split
  · rename_i e
    cases e
    rw [decide_eq_false c]; rfl
  · rfl
theorem odd_oks : ∀ {ws : List PyData}, (∀ x ∈ ws, OddB x = true) → okSs ws = true ∧ PyData.depthAll ws ≤ 3
  | [], _ => ⟨rfl, Nat.zero_le _⟩
  | d :: ds, h => by
    obtain ⟨h1, h2⟩ := odd_oks fun x hx => h x (List.mem_cons_of_mem _ hx)
    have h3 := h d List.mem_cons_self
    unfold OddB at h3
    rw [Bool.and_eq_true, decide_eq_true_iff] at h3
    refine ⟨?_, ?_⟩
    · show (okS d && okSs ds) = true
      rw [h1, h3.1]; rfl
    · show max d.depth (PyData.depthAll ds) ≤ 3
      omega
theorem rep_ok {x : PyData} : ∀ n : Nat, (∀ y ∈ repD [x] n, y = x) ∧ (repD [x] n).length = n := fun n => by
  unfold repD
  refine ⟨fun y hy => ?_, by simp⟩
  simp at hy
  exact hy.2
theorem int_of {x : PyData} (hx : wholeD x = true) : ∃ i, x = .int i := by
  cases x with
  | int i => exact ⟨i, rfl⟩
  | _ => cases hx
section
variable {P : Program} {w : World} {K : PySem.W.Frag} {mg : Str → Option Value} {base : Heap}
theorem ok_fault (T : Txt K mg) : FnOk P w K mg base CX0 3 T.a_fault T.d_fault ["_law_thing"] (spD [.sh] spFaL) := by
  have G_law_is_whole := @ok_law_is_whole P w K mg base T
  have b_law_is_whole := bd_law_is_whole T
  have G_law_is_way := @ok_law_is_way P w K mg base T
  have b_law_is_way := bd_law_is_way T
  refine fn_d T.F_fault sc_fault rfl (fun C cdv A outer s H E hr => ⟨_, (@dss_consG _ _ _ _ _ _ (@ds_mid _ _ _ _ (@ds_if _ _ _ _ _ _ _ _ _ (PW.pt (@pwd_or _ _ _ _ _ _ _ _ (pdt_not (pdt_val (pd_isiv ty_tuple (pe_callB call_isinst2 rfl T.n_isinstance bt_isinstance (pa_cons (pv 0) (pa_cons (pe_bltn (v := V.ty "tuple") rfl T.n_tuple bt_tuple rfl) pa_nil se_Name) se_Name) (he := se_Name) (hpl := (np_cons se_Name np_nil)))))) (@pwd_or _ _ _ _ _ _ _ _ (pdt_cmp (op_neD (units_of hr)) ok_eq (pd_lenv (pe_callB call_len_seq rfl T.n_len bt_len (pa_cons (pv 0) pa_nil se_Name) (he := se_Name) (hpl := np_nil))) pd_int (nomark _)) (pwd_or1 (pdt_not (pdt_val (pd_call (pe_call G_law_is_whole (hr.mono (by decide)) rfl T.mg_law_is_whole T.kp_law_is_whole b_law_is_whole .nil pass0 (da_v (pd_ixv (pv 0) pd_int (fun _ _ => rfl)) da_nil se_Subscript) (he := se_Subscript) (hpl := np_nil))))))))) (dss_one (ds_ret pd_int)) dss_nil)) (@dss_consG _ _ _ _ _ _ (ds_asg (ps_asg (pd_var (pv 0)) (dg_t2 (pg_tup (n := 2) rfl (pgs_cons (pg_name (i := 1) sc_fault.nd rfl (Or.inl rfl)) (pgs_cons (pg_name (i := 2) sc_fault.nd rfl (Or.inl rfl)) pgs_nil)))))) (@dss_consG _ _ _ _ _ _ (@ds_mid _ _ _ _ (@ds_if _ _ _ _ _ _ _ _ _ (PW.pt (@pwd_or _ _ _ _ _ _ _ _ (pdt_cmp op_lt ok_lt (pd_var (pv 1)) pd_int (nomark _)) (@pwd_or _ _ _ _ _ _ _ _ (pdt_cmp op_gt ok_gt (pd_var (pv 1)) pd_int (nomark _)) (@pwd_or _ _ _ _ _ _ _ _ (pdt_not (pdt_val (pd_isiv ty_list (pe_callB call_isinst2 rfl T.n_isinstance bt_isinstance (pa_cons (pv 2) (pa_cons (pe_bltn (v := V.ty "list") rfl T.n_list bt_list rfl) pa_nil se_Name) se_Name) (he := se_Name) (hpl := (np_cons se_Name np_nil)))))) (pwd_or1 (pdt_cmp op_gt ok_gt (pd_lenv (pe_callB call_len_seq rfl T.n_len bt_len (pa_cons (pv 2) pa_nil se_Name) (he := se_Name) (hpl := np_nil))) pd_int (nomark _))))))) (dss_one (ds_ret pd_int)) dss_nil)) (@dss_consG _ _ _ _ _ _ (@ds_mid _ _ _ _ (@ds_for _ _ _ _ _ _ (@ps_for _ _ _ _ _ _ _ _ PassesOwn.never rfl (di_rng1 (pi_range1 rfl T.n_range (dv_cons (pd_lenv (pe_callB call_len_seq rfl T.n_len bt_len (pa_cons (pv 2) pa_nil se_Name) (he := se_Name) (hpl := np_nil))) dv_nil se_Call))) (dg_name (pg_name (i := 3) sc_fault.nd rfl (Or.inl rfl))) (dss_one (ds_if (pdt_not (pdt_val (pd_call (pe_call G_law_is_way (hr.mono (by decide)) rfl T.mg_law_is_way T.kp_law_is_way b_law_is_way .nil pass0 (da_v (pd_var (pv 1)) (da_v (pd_ixv (pv 2) (pd_var (pv 3)) (fun _ _ => rfl)) da_nil se_Subscript) se_Name) (he := se_Name) (hpl := (np_cons se_Subscript np_nil))))))
      (dss_one (ds_ret (pd_op op_add ok_add (pd_var (pv 3)) pd_int)))
      dss_nil)) (by intro _; rfl)))) (dss_one (ds_ret pd_non)))))), fun ds Q hl h => ?_⟩)
  obtain ⟨d, rfl, hS, q⟩ := h
  refine mid_of (fun ρ' => (∃ m b, d = .tuple [.int m, b]) ∧ ρ' = [Sl.sh d, Sl.no, Sl.no, Sl.no]) ?_ ?_
  · have bad : frB d = false → Q (.int 0) := fun z => by rw [ft_no z] at q; exact q
    cases d with
    | tuple xs =>
      decreasing_tactic
      refine iteNo ⟨rfl, rfl, min0 _ _, ?_⟩
      rw [eqv_int]
      by_cases hl2 : xs.length = 2
      · rw [hl2]
        refine iteNo ?_
        obtain ⟨a, b, rfl⟩ := len2 hl2
        decreasing_tactic
        refine ⟨a, rfl, ?_⟩
        cases ha : wholeD a with
        | true =>
          obtain ⟨m, rfl⟩ := int_of ha
          exact iteNo ⟨⟨m, b, rfl⟩, rfl⟩
        | false => exact iteT (bad (fr_no ha))
      · rw [beq_eq_false_iff_ne.mpr (show ((xs.length : Nat) : Int) ≠ 2 by omega)]
        exact iteT (bad (fr_len hl2))
    | _ =>
      decreasing_tactic
      exact iteT (bad rfl)
  rintro ρ ⟨⟨m, b, rfl⟩, rfl⟩
  try dsimp only
  refine go ?_; decreasing_tactic
  refine go (mid_of (fun ρ' => (∃ ws, b = .list ws ∧ ftD (.tuple [.int m, b]) = ftF m ws 0 ∧ ws.length ≤ 40) ∧ ρ' = [Sl.sh (.tuple [.int m, b]), Sl.sh (.int m), Sl.sh b, Sl.no]) ?_ ?_)
  · have bad : frB (.tuple [.int m, b]) = false → Q (.int 0) := fun z => by rw [ft_no z] at q; exact q
    decreasing_tactic
    by_cases c1 : m < 1
    · rw [decide_eq_true c1]
      exact iteT (bad (fr_bd fun z => by omega))
    rw [decide_eq_false c1]
    refine iteNo ?_
    by_cases c2 : 12 < m
    · rw [decide_eq_true c2]
      exact iteT (bad (fr_bd fun z => by omega))
    rw [decide_eq_false c2]
    refine iteNo ?_
    cases b with
    | list ws =>
      refine iteNo ?_
      refine bnd_at (d := ws.length) rfl ?_
      have hf : frB (.tuple [.int m, .list ws]) = (decide (1 ≤ m ∧ m ≤ 12) && decide (ws.length ≤ 40)) := rfl
      by_cases c3 : (40 : Int) < ((ws.length : Nat) : Int)
      · rw [decide_eq_true c3]
        exact iteT (bad (by rw [hf, decide_eq_false (show ¬ ws.length ≤ 40 by omega), Bool.and_false]))
      · rw [decide_eq_false c3]
        refine iteNo ⟨⟨ws, rfl, ?_, by omega⟩, rfl⟩
        unfold ftD
        rw [hf, decide_eq_true ⟨by omega, by omega⟩, decide_eq_true (by omega)]
        rfl
    | _ => exact iteT (bad rfl)
  rintro ρ ⟨⟨ws, rfl, hft, hl0⟩, rfl⟩
  try dsimp only
  rw [hft] at q
  refine go (mid_of (fun ρ' => ftF m ws 0 = none) ?_ ?_)
  · refine for_of ?_
    try dsimp only [dIl, dIv, dIt, dRng1, dRng2, dEnum, dIrev, dIL, dEnumL, dSeq, dSeqG, dSet, dOwn, dOp, dVar, dIfS, dT, dRet, dDrop, dCb, dCons, dNil, dC, dF, dLst, dTup, dNeg, dNot, dAnd, dOr, dAndV, dOrV, dNotV, dBV, dIf, dChain, dIx, dIxV, dLenV, dListV, dList, dSlV, dSl, dCat, dRep, dIsiV, dIsi, dCall, aNil, aV, aS, arsD, arD, isSl, slotD, bnd_some, ixD, lenD, listD, itemsD, gI, gI0, gAdd, gMns, gMul, gMod, gDiv, gPow, gLt, gLe, gGt, gGe, gEq, gIsN, isN, gLen, gMin, gMax, gI2, gAbs, gInt, gAll, gAny, dNext, dLrev, dApp, dIns, dEqV, dSetI, dAsg, gN, gT2, gT3, gT5, gInS, strsD, gMaxP, dPopI, dLrng, dZip, dCompT2, dComp, dCompT3, dIndexV, gIn, gB2, oN, oS, startN, slOf, a1_0, a2_0, a2_1, a3_0, a3_1, a3_2, isiD, tyD, List.tail_cons, List.tail_nil, List.getElem?_cons_zero, List.getElem?_cons_succ, List.set_cons_zero, List.set_cons_succ, List.length_cons, List.length_nil, Option.bind_some, Option.map_some, List.cons_append, List.nil_append, iteTT, iteFF, iteTB, iteFB, iteTI, iteFI, Bool.not_true, Bool.not_false, dTupV, dTupE, dDict0, dNewP, dNewL, dNeL, gSum, dRevV, dCompU, dCompS2, dTry, dCallX, dRz, xkD, dLVar, lentD, dIxL, dFlat, flatD, dLenL, dIsiL, dIsNL, dListL, dLendE, dLendB, noBB, dNewT, flatM, dMutA, dMutN, dMutC, aW, dNinD, dCallS, arsS, arS]
    rw [show ((ws.length : Nat) : Int).toNat = ws.length by simp]
    refine ⟨⟨by omega, by omega⟩, forW (fun r ρ => ∃ (k : Nat) (z3 : Sl), r = (rngD 0 ws.length).drop k ∧ k ≤ ws.length ∧ ftF m (ws.drop k) k = ftF m ws 0 ∧ ρ = [Sl.sh (.tuple [.int m, .list ws]), Sl.sh (.int m), Sl.sh (.list ws), z3]) ⟨0, _, rfl, Nat.zero_le _, rfl, rfl⟩ ?_ ?_⟩
    · rintro x r ρ ⟨k, z3, h1, hk0, he, rfl⟩
      obtain ⟨rfl, rfl, hk⟩ := rng_cons' h1
      rw [Int.zero_add]
      rw [List.drop_eq_getElem_cons hk] at he
      have hat : atI ws ((k : Nat) : Int) = some ws[k] := atI_nat (List.getElem?_eq_getElem hk)
      have he' : (if wayB m ws[k] = true then ftF m (ws.drop (k + 1)) (k + 1) else some (k + 1)) = ftF m ws 0 := he
      generalize ws[k] = y at hat he'
      sizeOf_list_dec
      rw [hat]
      decreasing_tactic
      refine ⟨m, y, rfl, ?_⟩
      cases hw : wayB m y with
      | true =>
        rw [hw] at he'
        exact iteNo ⟨k + 1, _, rfl, hk, he', rfl⟩
      | false =>
        rw [hw] at he'
        rw [← he'] at q
        exact iteT q
    · rintro ρ ⟨k, z3, h1, hk0, he, rfl⟩
      have := rng_nil' h1
      rw [List.drop_of_length_le (by omega)] at he
      exact he.symm
  rintro ρ hn
  rw [hn] at q
  refine go ?_; decreasing_tactic
  exact q
theorem ok_spoilt (T : Txt K mg) : FnOk P w K mg base CX0 5 T.a_spoilt T.d_spoilt ["_law_hand_here", "_law_many", "_law_ways"] (spD [.hd, .sh, .sh] spSpl) := by
  have G_draw := @ok_drawD P w K mg base T
  have b_draw := bd_draw T
  have G_odd := @ok_odd P w K mg base T
  have b_odd := bd_odd T
  refine fn_d T.F_spoilt sc_spoilt rfl (fun C cdv A outer s H E hr => ⟨_, (@dss_consG _ _ _ _ _ _ (ds_own (ps_set (i := 2) sc_spoilt.nd rfl (Or.inl rfl) (pf_listv (pe_callTy call_list_of rfl T.n_list bt_list (pa_cons (pv 2) pa_nil se_Name) (he := se_Name) (hpl := np_nil))))) (@dss_consG _ _ _ _ _ _ (@ds_mid _ _ _ _ (@ds_for _ _ _ _ _ _ (@ps_for _ _ _ _ _ _ _ _ PassesOwn.never rfl (di_rng1 (pi_range1 rfl T.n_range (dv_cons (pd_call (pe_call G_draw (hr.mono (by decide)) rfl T.mg_draw T.kp_draw b_draw .nil pass0 (da_s (pv 0) (da_v pd_int da_nil se_Constant) se_Name) (he := se_Name) (hpl := (np_cons se_Constant np_nil)))) dv_nil se_Call))) (dg_name (pg_name (i := 3) sc_spoilt.nd rfl (Or.inl rfl))) (@dss_one _ _ _ _ (@ds_ins _ _ _ _ _ _ _ (@ps_expr _ _ _ _ (@pe_bm _ _ _ _ _ _ _ _ _ _ _ _ PySem.F.plainAttrs_list PySem.F.slot_list_insert PySem.F.type_list_insert mt_insert (pv 2) (@pa_cons _ _ _ _ _ (pd_call (pe_call G_draw (hr.mono (by decide)) rfl T.mg_draw T.kp_draw b_draw .nil pass0 (da_s (pv 0) (da_v (pd_op op_add ok_add (pd_lenv (pe_callB call_len_seq rfl T.n_len bt_len (pa_cons (pv 2) pa_nil se_Name) (he := se_Name) (hpl := np_nil))) pd_int) da_nil se_BinOp) se_Name) (he := se_Name) (hpl := (np_cons se_BinOp np_nil)))) (pa_cons (pd_call (pe_call G_odd (hr.mono (by decide)) rfl T.mg_odd T.kp_odd b_odd .nil pass0 (da_s (pv 0) (da_v (pd_var (pv 1)) da_nil se_Name) se_Name) (he := se_Name) (hpl := (np_cons se_Name np_nil)))) pa_nil se_Call) se_Call) (by rfl) (by rfl) (by rfl) (by rfl) (by rfl)) (by rfl)))) (by intro _; rfl)))) (@dss_consG _ _ _ _ _ _ (ds_mid (ds_if (pdt_cmp op_gt ok_gt (pd_call (pe_call G_draw (hr.mono (by decide)) rfl T.mg_draw T.kp_draw b_draw .nil pass0 (da_s (pv 0) (da_v pd_int da_nil se_Constant) se_Name) (he := se_Name) (hpl := (np_cons se_Constant np_nil)))) pd_int (nomark _))
      (dss_one (ds_ret (pd_tup (dv_cons (pd_var (pv 1)) (dv_cons (pd_var (pv 2)) dv_nil se_Name) se_Name))))
      dss_nil)) (@dss_consG _ _ _ _ _ _ (@ds_set _ _ _ _ _ (@ps_set _ _ 4 _ _ _ _ sc_spoilt.nd rfl (Or.inl rfl) (@pd_f _ _ _ _ (@pf_lst _ _ _ _ _ (@dv_cons _ _ _ _ _ _ (pd_f (pf_lst (dv_cons (pd_var (pv 1)) (dv_cons (pd_var (pv 2)) dv_nil se_Name) se_Name))) (@dv_cons _ _ _ _ _ _ (pd_tup (dv_cons (pd_var (pv 1)) dv_nil se_Name)) (@dv_cons _ _ _ _ _ _ (pd_tup (dv_cons (pd_var (pv 1)) (dv_cons (pd_var (pv 2)) (dv_cons pd_int dv_nil se_Constant) se_Name) se_Name)) (@dv_cons _ _ _ _ _ _ (pd_tup (dv_cons pd_int (dv_cons (pd_var (pv 2)) dv_nil se_Name) se_Constant)) (dv_cons (pd_tup (dv_cons pd_int (dv_cons (pd_var (pv 2)) dv_nil se_Name) se_Constant)) (dv_cons (pd_tup (dv_cons pd_bl (dv_cons (pd_var (pv 2)) dv_nil se_Name) se_Constant)) (dv_cons (pd_tup (dv_cons (pd_neg pd_int) (dv_cons (pd_var (pv 2)) dv_nil se_Name) se_UnaryOp)) (dv_cons (pd_tup (dv_cons pd_str (dv_cons (pd_var (pv 2)) dv_nil se_Name) se_Constant)) dv_nil se_Tuple) se_Tuple) se_Tuple) se_Tuple) se_Tuple) se_Tuple) se_Tuple) se_List))) (by rfl) (by first | exact .inl rfl | exact .inr rfl | assumption))) (@dss_consG _ _ _ _ _ _ (@ds_set _ _ _ _ _ (@ps_set _ _ 5 _ _ _ _ sc_spoilt.nd rfl (Or.inl rfl) (pd_f (pf_rep (pd_f (pf_lst (dv_cons (pd_tup (dv_cons pd_int (dv_cons pd_int (dv_cons pd_int dv_nil se_Constant) se_Constant) se_Constant)) dv_nil se_Tuple))) (pd_op op_add ok_add pd_int (pd_call (pe_call G_draw (hr.mono (by decide)) rfl T.mg_draw T.kp_draw b_draw .nil pass0 (da_s (pv 0) (da_v pd_int da_nil se_Constant) se_Name) (he := se_Name) (hpl := (np_cons se_Constant np_nil))))))) (by rfl) (by first | exact .inl rfl | exact .inr rfl | assumption))) (@dss_consG _ _ _ _ _ _ (@ds_set _ _ _ _ _ (@ps_set _ _ 4 _ _ _ _ sc_spoilt.nd rfl (Or.inl rfl) (@pd_f _ _ _ _ (@pf_cat _ _ _ _ _ _ _ (pd_var (pv 4)) (@pd_f _ _ _ _ (@pf_lst _ _ _ _ _ (@dv_cons _ _ _ _ _ _ (pd_tup (dv_cons (pd_var (pv 1)) (dv_cons (pd_tupv (pe_callTy call_tuple_of rfl T.n_tuple bt_tuple (pa_cons (pv 2) pa_nil se_Name) (he := se_Name) (hpl := np_nil))) dv_nil se_Call) se_Name)) (@dv_cons _ _ _ _ _ _ (pd_tup (dv_cons (pd_var (pv 1)) (dv_cons pd_non dv_nil se_Constant) se_Name)) (dv_cons (pd_tup (dv_cons (pd_var (pv 1)) (dv_cons (pd_var (pv 5)) dv_nil se_Name) se_Name)) (dv_cons pd_non (dv_cons pd_int (dv_cons pd_str (dv_cons (pd_tup dv_nil) (dv_cons (pd_tup (dv_cons (pd_op op_pow ok_pow pd_int pd_int) (dv_cons (pd_var (pv 2)) dv_nil se_Name) se_BinOp)) dv_nil se_Tuple) se_Tuple) se_Constant) se_Constant) se_Constant) se_Tuple) se_Tuple) se_Tuple))))) (by rfl) (by first | exact .inl rfl | exact .inr rfl | assumption))) (dss_one (ds_ret (pd_ixv (pv 4) (pd_call (pe_call G_draw (hr.mono (by decide)) rfl T.mg_draw T.kp_draw b_draw .nil pass0 (da_s (pv 0) (da_v (pd_lenv (pe_callB call_len_seq rfl T.n_len bt_len (pa_cons (pv 4) pa_nil se_Name) (he := se_Name) (hpl := np_nil))) da_nil se_Call) se_Name) (he := se_Name) (hpl := (np_cons se_Call np_nil)))) (fun _ _ => rfl)))))))))), fun ds Q hl h => ?_⟩)
  obtain ⟨d, m, ws, rfl, hl0, hO, q⟩ := h
  decreasing_tactic
  refine go (mid_of (fun ρ' => ∃ (ws : List PyData) (z3 : Sl), ws.length ≤ 42 ∧ (∀ x ∈ ws, OddB x = true) ∧ ρ' = [Sl.hd, Sl.sh (.int m), Sl.ow ws, z3, Sl.no, Sl.no]) ?_ ?_)
  · refine for_of ?_
    try dsimp only [dIl, dIv, dIt, dRng1, dRng2, dEnum, dIrev, dIL, dEnumL, dSeq, dSeqG, dSet, dOwn, dOp, dVar, dIfS, dT, dRet, dDrop, dCb, dCons, dNil, dC, dF, dLst, dTup, dNeg, dNot, dAnd, dOr, dAndV, dOrV, dNotV, dBV, dIf, dChain, dIx, dIxV, dLenV, dListV, dList, dSlV, dSl, dCat, dRep, dIsiV, dIsi, dCall, aNil, aV, aS, arsD, arD, isSl, slotD, bnd_some, ixD, lenD, listD, itemsD, gI, gI0, gAdd, gMns, gMul, gMod, gDiv, gPow, gLt, gLe, gGt, gGe, gEq, gIsN, isN, gLen, gMin, gMax, gI2, gAbs, gInt, gAll, gAny, dNext, dLrev, dApp, dIns, dEqV, dSetI, dAsg, gN, gT2, gT3, gT5, gInS, strsD, gMaxP, dPopI, dLrng, dZip, dCompT2, dComp, dCompT3, dIndexV, gIn, gB2, oN, oS, startN, slOf, a1_0, a2_0, a2_1, a3_0, a3_1, a3_2, isiD, tyD, List.tail_cons, List.tail_nil, List.getElem?_cons_zero, List.getElem?_cons_succ, List.set_cons_zero, List.set_cons_succ, List.length_cons, List.length_nil, Option.bind_some, Option.map_some, List.cons_append, List.nil_append, iteTT, iteFF, iteTB, iteFB, iteTI, iteFI, Bool.not_true, Bool.not_false, dTupV, dTupE, dDict0, dNewP, dNewL, dNeL, gSum, dRevV, dCompU, dCompS2, dTry, dCallX, dRz, xkD, dLVar, lentD, dIxL, dFlat, flatD, dLenL, dIsiL, dIsNL, dListL, dLendE, dLendB, noBB, dNewT, flatM, dMutA, dMutN, dMutC, aW, dNinD, dCallS, arsS, arS]
    refine ⟨rfl, 3, rfl, by decide, by decide, fun u u0 u1 => ?_⟩
    try dsimp only [dIl, dIv, dIt, dRng1, dRng2, dEnum, dIrev, dIL, dEnumL, dSeq, dSeqG, dSet, dOwn, dOp, dVar, dIfS, dT, dRet, dDrop, dCb, dCons, dNil, dC, dF, dLst, dTup, dNeg, dNot, dAnd, dOr, dAndV, dOrV, dNotV, dBV, dIf, dChain, dIx, dIxV, dLenV, dListV, dList, dSlV, dSl, dCat, dRep, dIsiV, dIsi, dCall, aNil, aV, aS, arsD, arD, isSl, slotD, bnd_some, ixD, lenD, listD, itemsD, gI, gI0, gAdd, gMns, gMul, gMod, gDiv, gPow, gLt, gLe, gGt, gGe, gEq, gIsN, isN, gLen, gMin, gMax, gI2, gAbs, gInt, gAll, gAny, dNext, dLrev, dApp, dIns, dEqV, dSetI, dAsg, gN, gT2, gT3, gT5, gInS, strsD, gMaxP, dPopI, dLrng, dZip, dCompT2, dComp, dCompT3, dIndexV, gIn, gB2, oN, oS, startN, slOf, a1_0, a2_0, a2_1, a3_0, a3_1, a3_2, isiD, tyD, List.tail_cons, List.tail_nil, List.getElem?_cons_zero, List.getElem?_cons_succ, List.set_cons_zero, List.set_cons_succ, List.length_cons, List.length_nil, Option.bind_some, Option.map_some, List.cons_append, List.nil_append, iteTT, iteFF, iteTB, iteFB, iteTI, iteFI, Bool.not_true, Bool.not_false, dTupV, dTupE, dDict0, dNewP, dNewL, dNeL, gSum, dRevV, dCompU, dCompS2, dTry, dCallX, dRz, xkD, dLVar, lentD, dIxL, dFlat, flatD, dLenL, dIsiL, dIsNL, dListL, dLendE, dLendB, noBB, dNewT, flatM, dMutA, dMutN, dMutC, aW, dNinD, dCallS, arsS, arS]
    refine ⟨⟨by omega, by omega⟩, forW (fun r ρ => ∃ (ws : List PyData) (z3 : Sl), r.length + ws.length ≤ 42 ∧ (∀ x ∈ ws, OddB x = true) ∧ ρ = [Sl.hd, Sl.sh (.int m), Sl.ow ws, z3, Sl.no, Sl.no]) ⟨ws, _, by unfold rngD; simp; omega, hO, rfl⟩ ?_ ?_⟩
    · rintro x r ρ ⟨ws, z3, hr', hO, rfl⟩
      simp at hr'
      sizeOf_list_dec
      refine ⟨rfl, _, rfl, by omega, by omega, fun n n0 n1 => ⟨rfl, _, m, rfl, fun y hy => ⟨n.toNat, by rw [show ((n.toNat : Nat) : Int) = n by omega], by omega, by omega, _, _, ?_, fun z hz => ?_, rfl⟩⟩⟩
      · rw [List.length_append, List.length_append, List.length_take, List.length_drop]
        show _ + (min _ _ + 1 + _) ≤ 42
        omega
      · rcases List.mem_append.mp hz with hz | hz
        · rcases List.mem_append.mp hz with hz | hz
          · exact hO z (List.mem_of_mem_take hz)
          · rw [List.mem_singleton.mp hz]; exact hy
        · exact hO z (List.mem_of_mem_drop hz)
    · rintro ρ ⟨ws, z3, hr', hO, rfl⟩
      exact ⟨ws, _, by simpa using hr', hO, rfl⟩
  rintro ρ ⟨ws, z3, hl2, hO, rfl⟩
  try dsimp only
  obtain ⟨W1, W2⟩ := odd_oks hO
  refine go (mid_of (fun ρ' => ρ' = [Sl.hd, Sl.sh (.int m), Sl.ow ws, z3, Sl.no, Sl.no]) ?_ ?_)
  · decreasing_tactic
    refine ⟨rfl, 3, rfl, by decide, by decide, fun u u0 u1 => ?_⟩
    decreasing_tactic
    cases decide (0 < u) with
    | true => exact iteT ⟨by decide, q _ ⟨by show (true && (okSs ws && true)) = true; rw [W1]; rfl, by show max 0 (max (PyData.depthAll ws + 1) 0) + 1 ≤ 6; omega, (fun a b e => by cases e; omega), .inl ⟨_, .inr rfl⟩⟩⟩
    | false => exact iteNo rfl
  rintro ρ rfl
  try dsimp only
  refine go ?_; decreasing_tactic
  (repeat ((with_reducible refine And.intro ?cc ?_); (case cc => first | decide | exact ⟨by decide, by decide, by decide⟩)))
  refine go ?_; decreasing_tactic
  (repeat ((with_reducible refine And.intro ?cc ?_); (case cc => first | decide | exact ⟨by decide, by decide, by decide⟩)))
  refine ⟨160, rfl, by decide, by decide, fun v v0 v1 => ?_⟩
  decreasing_tactic
  obtain ⟨r1, r2⟩ := rep_ok (x := .tuple [.int 0, .int 0, .int 1]) (41 + v).toNat
  have R := odd_oks (ws := repD [PyData.tuple [.int 0, .int 0, .int 1]] (41 + v).toNat) fun x hx => by rw [r1 x hx]; rfl
  have r3 : (repD [PyData.tuple [.int 0, .int 0, .int 1]] (41 + v).toNat).length ≤ 300 := by omega
  refine ⟨⟨by omega, by omega, by decide⟩, ?_⟩
  generalize repD [PyData.tuple [.int 0, .int 0, .int 1]] (41 + v).toNat = lg at R r3
  obtain ⟨R1, R2⟩ := R
  refine go ?_; decreasing_tactic
  (repeat ((with_reducible refine And.intro ?cc ?_); (case cc => first | decide | exact ⟨by decide, by decide, by decide⟩)))
  refine go ?_; decreasing_tactic
  refine ⟨rfl, _, rfl, by decide, by decide, fun u u0 u1 => ?_⟩
  refine pick_mem (P := SplOk) ?_ u0 ?_ q
  · intro x hx
    rcases List.mem_cons.mp hx with rfl | hx
    · exact ⟨by simp [okS, okSs, W1, R1], by simp only [PyData.depth, PyData.depthAll]; omega, (fun a b e => by first | (cases e; omega) | cases e), by first | exact .inl ⟨_, .inr rfl⟩ | exact .inl ⟨_, .inl rfl⟩ | exact .inr ⟨rfl, by decide⟩ | exact .inr ⟨by decide +kernel, by decide⟩⟩
    rcases List.mem_cons.mp hx with rfl | hx
    · exact ⟨by simp [okS, okSs, W1, R1], by simp only [PyData.depth, PyData.depthAll]; omega, (fun a b e => by first | (cases e; omega) | cases e), by first | exact .inl ⟨_, .inr rfl⟩ | exact .inl ⟨_, .inl rfl⟩ | exact .inr ⟨rfl, by decide⟩ | exact .inr ⟨by decide +kernel, by decide⟩⟩
    rcases List.mem_cons.mp hx with rfl | hx
    · exact ⟨by simp [okS, okSs, W1, R1], by simp only [PyData.depth, PyData.depthAll]; omega, (fun a b e => by first | (cases e; omega) | cases e), by first | exact .inl ⟨_, .inr rfl⟩ | exact .inl ⟨_, .inl rfl⟩ | exact .inr ⟨rfl, by decide⟩ | exact .inr ⟨by decide +kernel, by decide⟩⟩
    rcases List.mem_cons.mp hx with rfl | hx
    · exact ⟨by simp [okS, okSs, W1, R1], by simp only [PyData.depth, PyData.depthAll]; omega, (fun a b e => by first | (cases e; omega) | cases e), by first | exact .inl ⟨_, .inr rfl⟩ | exact .inl ⟨_, .inl rfl⟩ | exact .inr ⟨rfl, by decide⟩ | exact .inr ⟨by decide +kernel, by decide⟩⟩
    rcases List.mem_cons.mp hx with rfl | hx
    · exact ⟨by simp [okS, okSs, W1, R1], by simp only [PyData.depth, PyData.depthAll]; omega, (fun a b e => by first | (cases e; omega) | cases e), by first | exact .inl ⟨_, .inr rfl⟩ | exact .inl ⟨_, .inl rfl⟩ | exact .inr ⟨rfl, by decide⟩ | exact .inr ⟨by decide +kernel, by decide⟩⟩
    rcases List.mem_cons.mp hx with rfl | hx
    · exact ⟨by simp [okS, okSs, W1, R1], by simp only [PyData.depth, PyData.depthAll]; omega, (fun a b e => by first | (cases e; omega) | cases e), by first | exact .inl ⟨_, .inr rfl⟩ | exact .inl ⟨_, .inl rfl⟩ | exact .inr ⟨rfl, by decide⟩ | exact .inr ⟨by decide +kernel, by decide⟩⟩
    rcases List.mem_cons.mp hx with rfl | hx
    · exact ⟨by simp [okS, okSs, W1, R1], by simp only [PyData.depth, PyData.depthAll]; omega, (fun a b e => by first | (cases e; omega) | cases e), by first | exact .inl ⟨_, .inr rfl⟩ | exact .inl ⟨_, .inl rfl⟩ | exact .inr ⟨rfl, by decide⟩ | exact .inr ⟨by decide +kernel, by decide⟩⟩
    rcases List.mem_cons.mp hx with rfl | hx
    · exact ⟨by simp [okS, okSs, W1, R1], by simp only [PyData.depth, PyData.depthAll]; omega, (fun a b e => by first | (cases e; omega) | cases e), by first | exact .inl ⟨_, .inr rfl⟩ | exact .inl ⟨_, .inl rfl⟩ | exact .inr ⟨rfl, by decide⟩ | exact .inr ⟨by decide +kernel, by decide⟩⟩
    rcases List.mem_cons.mp hx with rfl | hx
    · exact ⟨by simp [okS, okSs, W1, R1], by simp only [PyData.depth, PyData.depthAll]; omega, (fun a b e => by first | (cases e; omega) | cases e), by first | exact .inl ⟨_, .inr rfl⟩ | exact .inl ⟨_, .inl rfl⟩ | exact .inr ⟨rfl, by decide⟩ | exact .inr ⟨by decide +kernel, by decide⟩⟩
    rcases List.mem_cons.mp hx with rfl | hx
    · exact ⟨by simp [okS, okSs, W1, R1], by simp only [PyData.depth, PyData.depthAll]; omega, (fun a b e => by first | (cases e; omega) | cases e), by first | exact .inl ⟨_, .inr rfl⟩ | exact .inl ⟨_, .inl rfl⟩ | exact .inr ⟨rfl, by decide⟩ | exact .inr ⟨by decide +kernel, by decide⟩⟩
    rcases List.mem_cons.mp hx with rfl | hx
    · exact ⟨by simp [okS, okSs, W1, R1], by simp only [PyData.depth, PyData.depthAll]; omega, (fun a b e => by first | (cases e; omega) | cases e), by first | exact .inl ⟨_, .inr rfl⟩ | exact .inl ⟨_, .inl rfl⟩ | exact .inr ⟨rfl, by decide⟩ | exact .inr ⟨by decide +kernel, by decide⟩⟩
    rcases List.mem_cons.mp hx with rfl | hx
    · exact ⟨by simp [okS, okSs, W1, R1], by simp only [PyData.depth, PyData.depthAll]; omega, (fun a b e => by first | (cases e; omega) | cases e), by first | exact .inl ⟨_, .inr rfl⟩ | exact .inl ⟨_, .inl rfl⟩ | exact .inr ⟨rfl, by decide⟩ | exact .inr ⟨by decide +kernel, by decide⟩⟩
    rcases List.mem_cons.mp hx with rfl | hx
    · exact ⟨by simp [okS, okSs, W1, R1], by simp only [PyData.depth, PyData.depthAll]; omega, (fun a b e => by first | (cases e; omega) | cases e), by first | exact .inl ⟨_, .inr rfl⟩ | exact .inl ⟨_, .inl rfl⟩ | exact .inr ⟨rfl, by decide⟩ | exact .inr ⟨by decide +kernel, by decide⟩⟩
    rcases List.mem_cons.mp hx with rfl | hx
    · exact ⟨by simp [okS, okSs, W1, R1], by simp only [PyData.depth, PyData.depthAll]; omega, (fun a b e => by first | (cases e; omega) | cases e), by first | exact .inl ⟨_, .inr rfl⟩ | exact .inl ⟨_, .inl rfl⟩ | exact .inr ⟨rfl, by decide⟩ | exact .inr ⟨by decide +kernel, by decide⟩⟩
    rcases List.mem_cons.mp hx with rfl | hx
    · exact ⟨by simp [okS, okSs, W1, R1], by simp only [PyData.depth, PyData.depthAll]; omega, (fun a b e => by first | (cases e; omega) | cases e), by first | exact .inl ⟨_, .inr rfl⟩ | exact .inl ⟨_, .inl rfl⟩ | exact .inr ⟨rfl, by decide⟩ | exact .inr ⟨by decide +kernel, by decide⟩⟩
    rcases List.mem_cons.mp hx with rfl | hx
    · exact ⟨by simp [okS, okSs, W1, R1], by simp only [PyData.depth, PyData.depthAll]; omega, (fun a b e => by first | (cases e; omega) | cases e), by first | exact .inl ⟨_, .inr rfl⟩ | exact .inl ⟨_, .inl rfl⟩ | exact .inr ⟨rfl, by decide⟩ | exact .inr ⟨by decide +kernel, by decide⟩⟩
    cases hx
  · exact u1
end
section
variable {P : Program} {w : World} {K : PySem.W.Frag} {mg : Str → Option Value} {base : Heap}
theorem ok_taken (T : Txt K mg) : FnOk P w K mg base CX0 6 T.a_taken T.d_taken ["_law_many", "_law_ways"] (spD [.sh, .sh] spTak) := by
  have G_land_of := @ok_land_of P w K mg base T
  have b_land_of := bd_land_of T
  have GS_land_of : FnOk P w K mg base CX0 4 T.a_land_of T.d_land_of ["thing"] (spD [.sh] fun ds Q => (spLoX T.c_BadLand) ds Q fun _ _ => False) := fnX_0 (okX_land_of__s T)
  have G_law_is_whole := @ok_law_is_whole P w K mg base T
  have b_law_is_whole := bd_law_is_whole T
  refine fn_d T.F_taken sc_taken rfl (fun C cdv A outer s H E hr => ⟨_, (@dss_consG _ _ _ _ _ _ (ds_newP (ps_set (i := 2) sc_taken.nd rfl (Or.inl rfl) (pe_tup (pa_cons (pv 0) (pa_cons (pe_callTy call_list_of rfl T.n_list bt_list (pa_cons (pv 1) pa_nil se_Name) (he := se_Name) (hpl := np_nil)) pa_nil se_Call) se_Name)))) (@dss_consG _ _ _ _ _ _ (ds_newL (ps_set (i := 3) sc_taken.nd rfl (Or.inl rfl) (pe_call G_land_of (hr.mono (by decide)) rfl T.mg_land_of T.kp_land_of b_land_of .nil pass0 (pa_cons (pv 2) pa_nil se_Name) (he := se_Name) (hpl := np_nil)))) (@dss_consG _ _ _ _ _ _ (@ds_mid _ _ _ _ (@ds_if _ _ _ _ _ _ _ _ _ (PW.pt (@pwd_or _ _ _ _ _ _ _ _ (pdt_not (pdt_val (pd_lendT (i := 3) (fun C => (pd_isiL ty_tuple (pe_callB call_isinst2 rfl T.n_isinstance bt_isinstance (pa_cons (pl_var (pv 3)) (pa_cons (pe_bltn (v := V.ty "tuple") rfl T.n_tuple bt_tuple rfl) pa_nil se_Name) se_Name) (he := se_Name) (hpl := (np_cons se_Name np_nil)))))))) (@pwd_or _ _ _ _ _ _ _ _ (pdt_lendT (i := 3) (fun C => (pdt_cmp (op_neD (units_of hr)) ok_eq (pd_lenL (pe_callB call_len_seq rfl T.n_len bt_len (pa_cons (pl_var (pv 3)) pa_nil se_Name) (he := se_Name) (hpl := np_nil))) pd_int (nomark _)))) (@pwd_or _ _ _ _ _ _ _ _ (pdt_not (pdt_val (pd_lendT (i := 3) (fun C => (pd_call (pe_call G_law_is_whole (hr.mono (by decide)) rfl T.mg_law_is_whole T.kp_law_is_whole b_law_is_whole .nil pass0 (da_v (pd_flat (pl_ix (pl_var (pv 3)) pd_int (fun _ _ => rfl))) da_nil se_Subscript) (he := se_Subscript) (hpl := np_nil))))))) (pwd_or1 (pdt_not (pdt_val (pd_lendT (i := 3) (fun C => (pd_isiL ty_list (pe_callB call_isinst2 rfl T.n_isinstance bt_isinstance (pa_cons (pl_ix (pl_var (pv 3)) pd_int (fun _ _ => rfl)) (pa_cons (pe_bltn (v := V.ty "list") rfl T.n_list bt_list rfl) pa_nil se_Name) se_Subscript) (he := se_Subscript) (hpl := (np_cons se_Name np_nil))))))))))))) (dss_one (ds_ret pd_bl)) dss_nil)) (@dss_consG _ _ _ _ _ _ (ds_mid (ds_if (PW.pt (pwd_or (pdt_lendT (i := 3) (fun C => (pdt_neL (op_neD (units_of hr)) (pl_var (pv 3)) (pd_tup (dv_cons (pd_var (pv 0)) (dv_cons (pd_var (pv 1)) dv_nil se_Name) se_Name)) (nomark _)))) (pwd_or1 (pdt_lendT (i := 2) (fun C => (pdt_neL (op_neD (units_of hr)) (pl_ix (pl_var (pv 2)) pd_int (fun _ _ => rfl)) (pd_var (pv 1)) (nomark _)))))))
      (dss_one (ds_ret pd_bl))
      dss_nil)) (@dss_consG _ _ _ _ _ _ (ds_mutA (i := 2) (fun C => (ps_expr (pe_bm PySem.F.plainAttrs_list PySem.F.slot_list_append PySem.F.type_list_append mt_append (pe_ix ix_seq (pv 2) pe_int (fun _ _ => rfl)) (pa_cons (pd_tup (dv_cons pd_int (dv_cons pd_int (dv_cons pd_int dv_nil se_Constant) se_Constant) se_Constant)) pa_nil se_Tuple))))) (@dss_consG _ _ _ _ _ _ (ds_mid (ds_if (pdt_lendT (i := 3) (fun C => (pdt_neL (op_neD (units_of hr)) (pl_ix (pl_var (pv 3)) pd_int (fun _ _ => rfl)) (pd_var (pv 1)) (nomark _))))
      (dss_one (ds_ret pd_bl))
      dss_nil)) (@dss_consG _ _ _ _ _ _ (ds_mutC (i := 3) (ps_expr (pe_bm0 PySem.F.plainAttrs_list PySem.F.slot_list_clear PySem.F.type_list_clear mt_clear (pe_ix ix_seq (pv 3) pe_int (fun _ _ => rfl))))) (@dss_one _ _ _ _ (@ds_ret _ _ _ _ _ (@pd_cmp _ _ _ _ _ _ _ _ _ _ (op_eqD (units_of hr)) ok_eq (pd_call (pe_call GS_land_of (hr.mono (by decide)) rfl T.mg_land_of T.kp_land_of b_land_of .nil pass0 (da_v (pd_tup (dv_cons (pd_var (pv 0)) (dv_cons (pd_f (pf_listv (pe_callTy call_list_of rfl T.n_list bt_list (pa_cons (pv 1) pa_nil se_Name) (he := se_Name) (hpl := np_nil)))) dv_nil se_Call) se_Name)) da_nil se_Tuple) (he := se_Tuple) (hpl := np_nil))) (pd_tup (dv_cons (pd_var (pv 0)) (dv_cons (pd_var (pv 1)) dv_nil se_Name) se_Name)) (nomark _))))))))))), fun ds Q hl h => ?_⟩)
  obtain ⟨m, ws, rfl, hL, q⟩ := h
  have L := ld_lay hL.2
  have L2 := lw_lay hL.2
  have hft : ftD (.tuple [.int m, .list ws]) = none := by unfold ftD; rw [hL.1]; exact ft_none.mpr hL.2
  decreasing_tactic
  refine ⟨⟨rfl, ld_flat hL.2⟩, ?_⟩
  refine go ?_; decreasing_tactic
  refine ⟨m, ws, rfl, hL, ?_⟩
  refine go (mid_of (fun ρ' => ρ' = [Sl.sh (.int m), Sl.sh (.list ws), Sl.ot (.tuple [.int m, .list ws]), Sl.ot (.tuple [.int m, .list ws])]) ?_ ?_)
  · decreasing_tactic
    refine ⟨rfl, rfl, iteNo ⟨rfl, rfl, rfl, min0 _ _, rfl, iteNo ⟨rfl, rfl, _, rfl, rfl, ?_⟩⟩⟩
    rw [show wholeD (.int m) = true from rfl]
    try dsimp only
    exact iteNo ⟨rfl, rfl, iteNo rfl⟩
  rintro ρ rfl
  try dsimp only
  refine go (mid_of (fun ρ' => ρ' = [Sl.sh (.int m), Sl.sh (.list ws), Sl.ot (.tuple [.int m, .list ws]), Sl.ot (.tuple [.int m, .list ws])]) ?_ ?_)
  · decreasing_tactic
    refine ⟨rfl, by decide, L.1, L.1, L.dep (by decide) _, rfl, ?_⟩
    rw [L.same]
    refine iteNo ⟨rfl, L2.1, L2.1, L2.dep (by decide) _, rfl, ?_⟩
    rw [L2.same]
    exact iteNo rfl
  rintro ρ rfl
  try dsimp only
  refine go ?_; decreasing_tactic
  refine ⟨rfl, ⟨ld_flat hL.2, by obtain ⟨_, _, e, _, _, hl9⟩ := fr_inv hL.1; cases e; omega⟩, by decide, rfl, rfl, fun xs' _ => ?_⟩
  refine go (mid_of (fun ρ' => ρ' = [Sl.sh (.int m), Sl.sh (.list ws), Sl.ot (.tuple xs'), Sl.ot (.tuple [.int m, .list ws])]) ?_ ?_)
  · decreasing_tactic
    refine ⟨rfl, L2.1, L2.1, L2.dep (by decide) _, rfl, ?_⟩
    rw [L2.same]
    exact iteNo rfl
  rintro ρ rfl
  try dsimp only
  refine go ?_; decreasing_tactic
  intro xs2 _
  refine go ?_; decreasing_tactic
  refine ⟨by show 2 ≤ 1000; decide, _, rfl, fun _ => ⟨by show 2 ≤ 1000; decide, L.1, L.1, L.dep (by decide) _, ?_⟩, fun k hk => by rw [hft] at hk; cases hk⟩
  rw [L.same]
  exact q
end
def spLaw (K : PySem.W.Frag) : Sp := fun vs H Q _ => ∃ (a : Addr) (ns : List Int), vs = [.ref a] ∧ SqL K H a (ns.map V.int) ∧ ns.length ≤ 63 ∧ ∀ H', Q (.bl true) H'
section
variable {P : Program} {w : World} {K : PySem.W.Frag} {mg : Str → Option Value} {base : Heap}
theorem ok_law (T : Txt K mg) : FnOk P w K mg base CX0 12 T.a_law T.d_law ["_law_script"] (spLaw K) := by
  have G_hand : FnOk P w K mg base CX0 1 T.a_hand T.d_hand ["_law_script"] (spHand K) := ok_hand T
  have b_hand := bd_hand T
  have G_draw := @ok_drawD P w K mg base T
  have b_draw := bd_draw T
  have G_land := @ok_land P w K mg base T
  have b_land := bd_land T
  have G_scale := @ok_scale P w K mg base T
  have b_scale := bd_scale T
  have G_spoilt := @ok_spoilt P w K mg base T
  have b_spoilt := bd_spoilt T
  have G_fault := @ok_fault P w K mg base T
  have b_fault := bd_fault T
  have G_refused := @ok_refused P w K mg base T
  have b_refused := bd_refused T
  have G_taken := @ok_taken P w K mg base T
  have b_taken := bd_taken T
  refine T.F_law.ok sc_law (fun vs H Q E h => ?_) (fun cdv A outer s H vs Q E hr h => ?_)
  · obtain ⟨a, ns, rfl, _⟩ := h
    rfl
  · obtain ⟨a, ns, rfl, hS, hlen, k⟩ := h
    refine ⟨_, (@pss_cons _ _ _ _ _ (ps_set (i := 1) sc_law.nd rfl (Or.inl rfl) (pe_call G_hand (hr.mono (by decide)) rfl T.mg_hand T.kp_hand b_hand .nil pass0 (pa_cons (pv 0) pa_nil se_Name) (he := se_Name) (hpl := np_nil))) (@pss_exC _ _ _ (fun C => (@dss_consG _ _ _ _ _ _ (ds_set (ps_set (i := 2) sc_law.nd rfl (Or.inl rfl) (pd_ix (pd_f (pf_lst (dv_cons pd_int (dv_cons pd_int dv_nil se_Constant) se_Constant))) (pd_call (pe_call G_draw (hr.mono (by decide)) rfl T.mg_draw T.kp_draw b_draw .nil pass0 (da_s (pv 1) (da_v pd_int da_nil se_Constant) se_Name) (he := se_Name) (hpl := (np_cons se_Constant np_nil)))) (fun _ _ => rfl)))) (@dss_consG _ _ _ _ _ _ (@ds_asg _ _ _ _ _ (@ps_asg _ _ _ _ _ _ (@pd_call _ _ _ _ _ _ _ (@pe_call _ _ _ _ _ _ _ _ _ _ _ _ _ _ _ _ G_land (hr.mono (by decide)) rfl T.mg_land T.kp_land b_land .nil pass0 (@da_s _ _ _ _ _ _ (pv 1) (@da_v _ _ _ _ _ _ (pd_var (pv 2)) (@da_v _ _ _ _ _ _ (pd_ix (pd_f (pf_lst (dv_cons pd_int (dv_cons pd_int dv_nil se_Constant) se_Constant))) (pd_call (pe_call G_draw (hr.mono (by decide)) rfl T.mg_draw T.kp_draw b_draw .nil pass0 (da_s (pv 1) (da_v pd_int da_nil se_Constant) se_Name) (he := se_Name) (hpl := (np_cons se_Constant np_nil)))) (fun _ _ => rfl)) (da_v (pd_call (pe_call G_scale (hr.mono (by decide)) rfl T.mg_scale T.kp_scale b_scale .nil pass0 (da_s (pv 1) da_nil se_Name) (he := se_Name) (hpl := np_nil))) da_nil se_Call) se_Subscript) se_Name) se_Name) (by decide) se_Name ((np_cons se_Name (np_cons se_Subscript (np_cons se_Call np_nil)))))) (dg_t2 (pg_tup (n := 2) rfl (pgs_cons (pg_name (i := 3) sc_law.nd rfl (Or.inl rfl)) (pgs_cons (pg_name (i := 4) sc_law.nd rfl (Or.inl rfl)) pgs_nil)))) (by rfl) (by rfl) (by rfl))) (@dss_consG _ _ _ _ _ _ (ds_set (ps_set (i := 5) sc_law.nd rfl (Or.inl rfl) (pd_call (pe_call G_spoilt (hr.mono (by decide)) rfl T.mg_spoilt T.kp_spoilt b_spoilt .nil pass0 (da_s (pv 1) (da_v (pd_var (pv 3)) (da_v (pd_var (pv 4)) da_nil se_Name) se_Name) se_Name) (he := se_Name) (hpl := (np_cons se_Name (np_cons se_Name np_nil))))))) (@dss_consG _ _ _ _ _ _ (ds_set (ps_set (i := 6) sc_law.nd rfl (Or.inl rfl) (pd_call (pe_call G_fault (hr.mono (by decide)) rfl T.mg_fault T.kp_fault b_fault .nil pass0 (da_v (pd_var (pv 5)) da_nil se_Name) (he := se_Name) (hpl := np_nil))))) (@dss_consG _ _ _ _ _ _ (ds_set (ps_set (i := 7) sc_law.nd rfl (Or.inl rfl) (pd_var (pv 5)))) (@dss_consG _ _ _ _ _ _ (@ds_mid _ _ _ _ (@ds_if _ _ _ _ _ _ _ _ _ (PW.pt (@pwd_and _ _ _ _ _ _ _ _ (pdt_val (pd_isiv ty_tuple (pe_callB call_isinst2 rfl T.n_isinstance bt_isinstance (pa_cons (pv 5) (pa_cons (pe_bltn (v := V.ty "tuple") rfl T.n_tuple bt_tuple rfl) pa_nil se_Name) se_Name) (he := se_Name) (hpl := (np_cons se_Name np_nil))))) (@pwd_and _ _ _ _ _ _ _ _ (pdt_cmp (op_eqD (units_of hr)) ok_eq (pd_lenv (pe_callB call_len_seq rfl T.n_len bt_len (pa_cons (pv 5) pa_nil se_Name) (he := se_Name) (hpl := np_nil))) pd_int (nomark _)) (pwd_and1 (pdt_val (pd_isi ty_list (pe_callB call_isinst2 rfl T.n_isinstance bt_isinstance (pa_cons (pd_ixv (pv 5) pd_int (fun _ _ => rfl)) (pa_cons (pe_bltn (v := V.ty "list") rfl T.n_list bt_list rfl) pa_nil se_Name) se_Subscript) (he := se_Subscript) (hpl := (np_cons se_Name np_nil))))))))) (dss_one (ds_set (ps_set (i := 7) sc_law.nd rfl (Or.inl rfl) (pd_tup (dv_cons (pd_ixv (pv 5) pd_int (fun _ _ => rfl)) (dv_cons (pd_f (pf_list (pe_callTy call_list_of rfl T.n_list bt_list (pa_cons (pd_ixv (pv 5) pd_int (fun _ _ => rfl)) pa_nil se_Subscript) (he := se_Subscript) (hpl := np_nil)))) dv_nil se_Call) se_Subscript))))) dss_nil)) (@dss_consG _ _ _ _ _ _ (@ds_mid _ _ _ _ (ds_if (PW.pt (pwd_or (pdt_cmp (op_neD (units_of hr)) ok_eq (pd_call (pe_call G_refused (hr.mono (by decide)) rfl T.mg_refused T.kp_refused b_refused .nil pass0 (da_v (pd_var (pv 5)) da_nil se_Name) (he := se_Name) (hpl := np_nil))) (pd_var (pv 6)) (nomark _)) (pwd_or1 (pdt_cmp (op_neS (units_of hr)) ok_neS (pd_var (pv 5)) (pd_var (pv 7)) (nomark _)))))
      (dss_one (ds_ret pd_bl))
      dss_nil)) (@dss_consG _ _ _ _ _ _ (@ds_mid _ _ _ _ (@ds_if _ _ _ _ _ _ _ _ _ (PW.pt (pwd_and (pdt_cmp op_isN ok_isN (pd_var (pv 6)) pd_non (nomark _)) (pwd_and1 (pdt_not (pdt_val (pd_call (pe_call G_taken (hr.mono (by decide)) rfl T.mg_taken T.kp_taken b_taken .nil pass0 (da_v (pd_ixv (pv 5) pd_int (fun _ _ => rfl)) (da_v (pd_ixv (pv 5) pd_int (fun _ _ => rfl)) da_nil se_Subscript) se_Subscript) (he := se_Subscript) (hpl := (np_cons se_Subscript np_nil))))))))) (dss_one (ds_ret pd_bl)) dss_nil)) (dss_one (ds_ret (pd_call (pe_call G_taken (hr.mono (by decide)) rfl T.mg_taken T.kp_taken b_taken .nil pass0 (da_v (pd_var (pv 3)) (da_v (pd_var (pv 4)) da_nil se_Name) se_Name) (he := se_Name) (hpl := (np_cons se_Name np_nil))))))))))))))))), ?_⟩
    refine ⟨_, rfl, a, ns, rfl, hS, fun hd hl H1 _ _ d1 _ => ?_⟩
    refine law_start (k := 6) d1 k ?_
    simp only [List.replicate_succ, List.replicate_zero]
    clear k
    decreasing_tactic
    refine ⟨by decide, rfl, 2, rfl, by decide, by decide, fun u u0 u1 => ?_⟩
    obtain ⟨pl, hpl, p1, p2⟩ : ∃ pl : Nat, atI [PyData.int 5, .int 12] u = some (.int ((pl : Nat) : Int)) ∧ 1 ≤ pl ∧ pl ≤ 12 := by
      rcases lt2 u0 u1 with rfl | rfl
      · exact ⟨5, rfl, by decide, by decide⟩
      · exact ⟨12, rfl, by decide, by decide⟩
    refine bnd_at hpl ?_
    refine go ?_; decreasing_tactic
    refine ⟨rfl, by decide, rfl, 2, rfl, by decide, by decide, fun v v0 v1 => ?_⟩
    obtain ⟨wn, hwn, w2⟩ : ∃ wn : Nat, atI [PyData.int 10, .int 40] v = some (.int ((wn : Nat) : Int)) ∧ wn ≤ 40 := by
      rcases lt2 v0 v1 with rfl | rfl
      · exact ⟨10, rfl, by decide⟩
      · exact ⟨40, rfl, by decide⟩
    refine bnd_at hwn ?_
    decreasing_tactic
    refine ⟨rfl, _, rfl, fun sc s0 s1 => ?_⟩
    decreasing_tactic
    refine ⟨_, pl, wn, sc, rfl, p1, p2, w2, s0, s1, fun m ws mp wp ok => ?_⟩
    unfold landD
    decreasing_tactic
    have hw : ∀ d ∈ ws.map wayD, wayB ((m : Nat) : Int) d = true := fun d hd => by
      obtain ⟨w, hw, rfl⟩ := List.mem_map.mp hd
      show (decide (0 ≤ ((w.1 : Nat) : Int) ∧ ((w.1 : Nat) : Int) < ((m : Nat) : Int)) && (decide (0 ≤ ((w.2.1 : Nat) : Int) ∧ ((w.2.1 : Nat) : Int) < ((m : Nat) : Int)) && decide (-1000000000000000000 ≤ w.2.2 ∧ w.2.2 ≤ 1000000000000000000))) = true
      have h1 := ok.st w hw
      have h2 := ok.en w hw
      rw [decide_eq_true (by omega), decide_eq_true (by omega), decide_eq_true ⟨ok.lo w hw, ok.hi w hw⟩]
      rfl
    have hO : ∀ d ∈ ws.map wayD, OddB d = true := fun d hd => by
      obtain ⟨w, hw, rfl⟩ := List.mem_map.mp hd
      rfl
    have hLd : LdOk ((m : Nat) : Int) (ws.map wayD) := ⟨by
      show (decide (1 ≤ ((m : Nat) : Int) ∧ ((m : Nat) : Int) ≤ 12) && decide ((ws.map wayD).length ≤ 40)) = true
      have h1 := ok.m1
      have h2 := ok.m2
      have h3 := ok.few
      rw [decide_eq_true (by omega), decide_eq_true (by rw [List.length_map]; omega)]
      rfl, hw⟩
    generalize hM : ((m : Nat) : Int) = M at hw hLd
    generalize hW : ws.map wayD = W at hw hO hLd
    have hWl : W.length ≤ 40 := by rw [← hW, List.length_map]; exact ok.few
    refine go ?_; decreasing_tactic
    refine ⟨rfl, _, M, W, rfl, hWl, hO, fun x hx => ?_⟩
    refine go ?_; decreasing_tactic
    refine ⟨x, rfl, hx, ?_⟩
    refine go ?_; decreasing_tactic
    refine go (mid_of (fun ρ' => ρ' = [Sl.no, Sl.hd, Sl.sh (.int ((pl : Nat) : Int)), Sl.sh (.int M), Sl.sh (.list W), Sl.sh x, Sl.sh (ndD (ftD x)), Sl.sh x]) ?_ ?_)
    · cases x with
      | tuple xs =>
        decreasing_tactic
        refine iteT ⟨rfl, rfl, min0 _ _, ?_⟩
        rw [eqv_int]
        by_cases hl2 : xs.length = 2
        · rw [hl2]
          refine iteT ?_
          obtain ⟨a, b, rfl⟩ := len2 hl2
          decreasing_tactic
          cases b with
          | list bs => exact iteT ⟨by show 2 ≤ 1000; decide, rfl⟩
          | _ => exact iteNo rfl
        · rw [beq_eq_false_iff_ne.mpr (show ((xs.length : Nat) : Int) ≠ 2 by omega)]
          exact iteNo rfl
      | _ =>
        decreasing_tactic
        exact iteNo rfl
    rintro ρ rfl
    try dsimp only
    refine go (mid_of (fun ρ' => ρ' = [Sl.no, Sl.hd, Sl.sh (.int ((pl : Nat) : Int)), Sl.sh (.int M), Sl.sh (.list W), Sl.sh x, Sl.sh (ndD (ftD x)), Sl.sh x]) ?_ ?_)
    · decreasing_tactic
      refine ⟨x, rfl, fun hn => ?_, fun k hk => ?_⟩
      · rw [hn]
        refine ⟨rfl, rfl, by show min 0 0 ≤ 64; decide, ?_⟩
        rw [show PyData.eqv .none (ndD none) = true from rfl]
        refine iteNo (hx.neS ?_)
        try dsimp only
        exact iteNo rfl
      · rw [hk]
        refine ⟨rfl, rfl, min0 _ _, ?_⟩
        rw [show PyData.eqv (.int ((k : Nat) : Int)) (ndD (some k)) = true from by show PyData.eqv (.int _) (.int _) = true; rw [eqv_int, beq_self_eq_true]]
        refine iteNo (hx.neS ?_)
        try dsimp only
        exact iteNo rfl
    rintro ρ rfl
    try dsimp only
    refine go (mid_of (fun ρ' => ρ' = [Sl.no, Sl.hd, Sl.sh (.int ((pl : Nat) : Int)), Sl.sh (.int M), Sl.sh (.list W), Sl.sh x, Sl.sh (ndD (ftD x)), Sl.sh x]) ?_ ?_)
    · cases hf : ftD x with
      | some k =>
        unfold ndD
        decreasing_tactic
      | none =>
        have hfr : frB x = true := by
          cases z : frB x with
          | true => rfl
          | false => rw [ft_no z] at hf; cases hf
        obtain ⟨m', ws', rfl, _, _, _⟩ := fr_inv hfr
        have hl' : LdOk m' ws' := ⟨hfr, ft_none.mp (show ftF m' ws' 0 = none from by unfold ftD at hf; rw [hfr] at hf; exact hf)⟩
        unfold ndD
        decreasing_tactic
        refine ⟨m', ws', rfl, hl', ?_⟩
        try dsimp only
        exact iteNo rfl
    rintro ρ rfl
    try dsimp only
    refine go ?_; decreasing_tactic
    exact ⟨M, W, rfl, hLd, rfl⟩
end
section
variable {P : Program} {w : World} {K : PySem.W.Frag} {mg : Str → Option Value} {base : Heap}
theorem all_mk {l : PySem.W.OpenLaw} {w : World} {K : PySem.W.Frag} {h : Heap} {mg : Str → Option Value} {fa : Addr} (X : K.In h) (G : h.Ns mainGlobals mg) (hfa : mg "law" = some (.ref fa))
    {f0 : Addr} {od0 an0 : Option Addr} {sl0 : Array (Option Value)} {oc0 kV0 dc0 pm0 cd0 ct0 : Value} (a0 : PySem.W.nsIn K mainGlobals "is_whole" = some (some (.ref f0))) (l0 : K.lookup f0 = some ⟨oc0, od0, .func (PySem.W.fnOf "is_whole" "is_whole" (defArgs s_is_whole) (defBody s_is_whole) (defScope s_is_whole) .none kV0 dc0 pm0 an0 cd0 ct0), sl0⟩) (c0 : PySem.W.codeIn K cd0 "is_whole" = true) (k0 : PySem.W.keepIn K (.ref f0) = true)
    {f1 : Addr} {od1 an1 : Option Addr} {sl1 : Array (Option Value)} {oc1 kV1 dc1 pm1 cd1 ct1 : Value} (a1 : PySem.W.nsIn K mainGlobals "is_place" = some (some (.ref f1))) (l1 : K.lookup f1 = some ⟨oc1, od1, .func (PySem.W.fnOf "is_place" "is_place" (defArgs s_is_place) (defBody s_is_place) (defScope s_is_place) .none kV1 dc1 pm1 an1 cd1 ct1), sl1⟩) (c1 : PySem.W.codeIn K cd1 "is_place" = true) (k1 : PySem.W.keepIn K (.ref f1) = true)
    {f2 : Addr} {od2 an2 : Option Addr} {sl2 : Array (Option Value)} {oc2 kV2 dc2 pm2 cd2 ct2 : Value} (a2 : PySem.W.nsIn K mainGlobals "is_change" = some (some (.ref f2))) (l2 : K.lookup f2 = some ⟨oc2, od2, .func (PySem.W.fnOf "is_change" "is_change" (defArgs s_is_change) (defBody s_is_change) (defScope s_is_change) .none kV2 dc2 pm2 an2 cd2 ct2), sl2⟩) (c2 : PySem.W.codeIn K cd2 "is_change" = true) (k2 : PySem.W.keepIn K (.ref f2) = true)
    {f3 : Addr} {od3 an3 : Option Addr} {sl3 : Array (Option Value)} {oc3 kV3 dc3 pm3 cd3 ct3 : Value} (a3 : PySem.W.nsIn K mainGlobals "is_way" = some (some (.ref f3))) (l3 : K.lookup f3 = some ⟨oc3, od3, .func (PySem.W.fnOf "is_way" "is_way" (defArgs s_is_way) (defBody s_is_way) (defScope s_is_way) .none kV3 dc3 pm3 an3 cd3 ct3), sl3⟩) (c3 : PySem.W.codeIn K cd3 "is_way" = true) (k3 : PySem.W.keepIn K (.ref f3) = true)
    {f4 : Addr} {od4 an4 : Option Addr} {sl4 : Array (Option Value)} {oc4 kV4 dc4 pm4 cd4 ct4 : Value} (a4 : PySem.W.nsIn K mainGlobals "is_frame" = some (some (.ref f4))) (l4 : K.lookup f4 = some ⟨oc4, od4, .func (PySem.W.fnOf "is_frame" "is_frame" (defArgs s_is_frame) (defBody s_is_frame) (defScope s_is_frame) .none kV4 dc4 pm4 an4 cd4 ct4), sl4⟩) (c4 : PySem.W.codeIn K cd4 "is_frame" = true) (k4 : PySem.W.keepIn K (.ref f4) = true)
    {f5 : Addr} {od5 an5 : Option Addr} {sl5 : Array (Option Value)} {oc5 kV5 dc5 pm5 cd5 ct5 : Value} (a5 : PySem.W.nsIn K mainGlobals "land_of" = some (some (.ref f5))) (l5 : K.lookup f5 = some ⟨oc5, od5, .func (PySem.W.fnOf "land_of" "land_of" (defArgs s_land_of) (defBody s_land_of) (defScope s_land_of) .none kV5 dc5 pm5 an5 cd5 ct5), sl5⟩) (c5 : PySem.W.codeIn K cd5 "land_of" = true) (k5 : PySem.W.keepIn K (.ref f5) = true)
    {f6 : Addr} {od6 an6 : Option Addr} {sl6 : Array (Option Value)} {oc6 kV6 dc6 pm6 cd6 ct6 : Value} (a6 : PySem.W.nsIn K mainGlobals "_law_hand" = some (some (.ref f6))) (l6 : K.lookup f6 = some ⟨oc6, od6, .func (PySem.W.fnOf "_law_hand" "_law_hand" (defArgs s_hand) (defBody s_hand) (defScope s_hand) .none kV6 dc6 pm6 an6 cd6 ct6), sl6⟩) (c6 : PySem.W.codeIn K cd6 "_law_hand" = true) (k6 : PySem.W.keepIn K (.ref f6) = true)
    {f7 : Addr} {od7 an7 : Option Addr} {sl7 : Array (Option Value)} {oc7 kV7 dc7 pm7 cd7 ct7 : Value} (a7 : PySem.W.nsIn K mainGlobals "_law_next" = some (some (.ref f7))) (l7 : K.lookup f7 = some ⟨oc7, od7, .func (PySem.W.fnOf "_law_next" "_law_next" (defArgs s_next) (defBody s_next) (defScope s_next) .none kV7 dc7 pm7 an7 cd7 ct7), sl7⟩) (c7 : PySem.W.codeIn K cd7 "_law_next" = true) (k7 : PySem.W.keepIn K (.ref f7) = true)
    {f8 : Addr} {od8 an8 : Option Addr} {sl8 : Array (Option Value)} {oc8 kV8 dc8 pm8 cd8 ct8 : Value} (a8 : PySem.W.nsIn K mainGlobals "_law_take" = some (some (.ref f8))) (l8 : K.lookup f8 = some ⟨oc8, od8, .func (PySem.W.fnOf "_law_take" "_law_take" (defArgs s_take) (defBody s_take) (defScope s_take) .none kV8 dc8 pm8 an8 cd8 ct8), sl8⟩) (c8 : PySem.W.codeIn K cd8 "_law_take" = true) (k8 : PySem.W.keepIn K (.ref f8) = true)
    {f9 : Addr} {od9 an9 : Option Addr} {sl9 : Array (Option Value)} {oc9 kV9 dc9 pm9 cd9 ct9 : Value} (a9 : PySem.W.nsIn K mainGlobals "_law_draw" = some (some (.ref f9))) (l9 : K.lookup f9 = some ⟨oc9, od9, .func (PySem.W.fnOf "_law_draw" "_law_draw" (defArgs s_draw) (defBody s_draw) (defScope s_draw) .none kV9 dc9 pm9 an9 cd9 ct9), sl9⟩) (c9 : PySem.W.codeIn K cd9 "_law_draw" = true) (k9 : PySem.W.keepIn K (.ref f9) = true)
    {f10 : Addr} {od10 an10 : Option Addr} {sl10 : Array (Option Value)} {oc10 kV10 dc10 pm10 cd10 ct10 : Value} (a10 : PySem.W.nsIn K mainGlobals "_law_scale" = some (some (.ref f10))) (l10 : K.lookup f10 = some ⟨oc10, od10, .func (PySem.W.fnOf "_law_scale" "_law_scale" (defArgs s_scale) (defBody s_scale) (defScope s_scale) .none kV10 dc10 pm10 an10 cd10 ct10), sl10⟩) (c10 : PySem.W.codeIn K cd10 "_law_scale" = true) (k10 : PySem.W.keepIn K (.ref f10) = true)
    {f11 : Addr} {od11 an11 : Option Addr} {sl11 : Array (Option Value)} {oc11 kV11 dc11 pm11 cd11 ct11 : Value} (a11 : PySem.W.nsIn K mainGlobals "_law_change" = some (some (.ref f11))) (l11 : K.lookup f11 = some ⟨oc11, od11, .func (PySem.W.fnOf "_law_change" "_law_change" (defArgs s_change) (defBody s_change) (defScope s_change) .none kV11 dc11 pm11 an11 cd11 ct11), sl11⟩) (c11 : PySem.W.codeIn K cd11 "_law_change" = true) (k11 : PySem.W.keepIn K (.ref f11) = true)
    {f12 : Addr} {od12 an12 : Option Addr} {sl12 : Array (Option Value)} {oc12 kV12 dc12 pm12 cd12 ct12 : Value} (a12 : PySem.W.nsIn K mainGlobals "_law_land" = some (some (.ref f12))) (l12 : K.lookup f12 = some ⟨oc12, od12, .func (PySem.W.fnOf "_law_land" "_law_land" (defArgs s_land) (defBody s_land) (defScope s_land) .none kV12 dc12 pm12 an12 cd12 ct12), sl12⟩) (c12 : PySem.W.codeIn K cd12 "_law_land" = true) (k12 : PySem.W.keepIn K (.ref f12) = true)
    {f13 : Addr} {od13 an13 : Option Addr} {sl13 : Array (Option Value)} {oc13 kV13 dc13 pm13 cd13 ct13 : Value} (a13 : PySem.W.nsIn K mainGlobals "_law_is_whole" = some (some (.ref f13))) (l13 : K.lookup f13 = some ⟨oc13, od13, .func (PySem.W.fnOf "_law_is_whole" "_law_is_whole" (defArgs s_law_is_whole) (defBody s_law_is_whole) (defScope s_law_is_whole) .none kV13 dc13 pm13 an13 cd13 ct13), sl13⟩) (c13 : PySem.W.codeIn K cd13 "_law_is_whole" = true) (k13 : PySem.W.keepIn K (.ref f13) = true)
    {f14 : Addr} {od14 an14 : Option Addr} {sl14 : Array (Option Value)} {oc14 kV14 dc14 pm14 cd14 ct14 : Value} (a14 : PySem.W.nsIn K mainGlobals "_law_odd" = some (some (.ref f14))) (l14 : K.lookup f14 = some ⟨oc14, od14, .func (PySem.W.fnOf "_law_odd" "_law_odd" (defArgs s_odd) (defBody s_odd) (defScope s_odd) .none kV14 dc14 pm14 an14 cd14 ct14), sl14⟩) (c14 : PySem.W.codeIn K cd14 "_law_odd" = true) (k14 : PySem.W.keepIn K (.ref f14) = true)
    {f15 : Addr} {od15 an15 : Option Addr} {sl15 : Array (Option Value)} {oc15 kV15 dc15 pm15 cd15 ct15 : Value} (a15 : PySem.W.nsIn K mainGlobals "_law_is_way" = some (some (.ref f15))) (l15 : K.lookup f15 = some ⟨oc15, od15, .func (PySem.W.fnOf "_law_is_way" "_law_is_way" (defArgs s_law_is_way) (defBody s_law_is_way) (defScope s_law_is_way) .none kV15 dc15 pm15 an15 cd15 ct15), sl15⟩) (c15 : PySem.W.codeIn K cd15 "_law_is_way" = true) (k15 : PySem.W.keepIn K (.ref f15) = true)
    {f16 : Addr} {od16 an16 : Option Addr} {sl16 : Array (Option Value)} {oc16 kV16 dc16 pm16 cd16 ct16 : Value} (a16 : PySem.W.nsIn K mainGlobals "_law_fault" = some (some (.ref f16))) (l16 : K.lookup f16 = some ⟨oc16, od16, .func (PySem.W.fnOf "_law_fault" "_law_fault" (defArgs s_fault) (defBody s_fault) (defScope s_fault) .none kV16 dc16 pm16 an16 cd16 ct16), sl16⟩) (c16 : PySem.W.codeIn K cd16 "_law_fault" = true) (k16 : PySem.W.keepIn K (.ref f16) = true)
    {f17 : Addr} {od17 an17 : Option Addr} {sl17 : Array (Option Value)} {oc17 kV17 dc17 pm17 cd17 ct17 : Value} (a17 : PySem.W.nsIn K mainGlobals "_law_spoilt" = some (some (.ref f17))) (l17 : K.lookup f17 = some ⟨oc17, od17, .func (PySem.W.fnOf "_law_spoilt" "_law_spoilt" (defArgs s_spoilt) (defBody s_spoilt) (defScope s_spoilt) .none kV17 dc17 pm17 an17 cd17 ct17), sl17⟩) (c17 : PySem.W.codeIn K cd17 "_law_spoilt" = true) (k17 : PySem.W.keepIn K (.ref f17) = true)
    {f18 : Addr} {od18 an18 : Option Addr} {sl18 : Array (Option Value)} {oc18 kV18 dc18 pm18 cd18 ct18 : Value} (a18 : PySem.W.nsIn K mainGlobals "_law_refused" = some (some (.ref f18))) (l18 : K.lookup f18 = some ⟨oc18, od18, .func (PySem.W.fnOf "_law_refused" "_law_refused" (defArgs s_refused) (defBody s_refused) (defScope s_refused) .none kV18 dc18 pm18 an18 cd18 ct18), sl18⟩) (c18 : PySem.W.codeIn K cd18 "_law_refused" = true) (k18 : PySem.W.keepIn K (.ref f18) = true)
    {f19 : Addr} {od19 an19 : Option Addr} {sl19 : Array (Option Value)} {oc19 kV19 dc19 pm19 cd19 ct19 : Value} (a19 : PySem.W.nsIn K mainGlobals "_law_taken" = some (some (.ref f19))) (l19 : K.lookup f19 = some ⟨oc19, od19, .func (PySem.W.fnOf "_law_taken" "_law_taken" (defArgs s_taken) (defBody s_taken) (defScope s_taken) .none kV19 dc19 pm19 an19 cd19 ct19), sl19⟩) (c19 : PySem.W.codeIn K cd19 "_law_taken" = true) (k19 : PySem.W.keepIn K (.ref f19) = true)
    {f20 : Addr} {od20 an20 : Option Addr} {sl20 : Array (Option Value)} {oc20 kV20 dc20 pm20 cd20 ct20 : Value} (a20 : PySem.W.nsIn K mainGlobals "law" = some (some (.ref f20))) (l20 : K.lookup f20 = some ⟨oc20, od20, .func (PySem.W.fnOf "law" "law" (defArgs s_law) (defBody s_law) (defScope s_law) .none kV20 dc20 pm20 an20 cd20 ct20), sl20⟩) (c20 : PySem.W.codeIn K cd20 "law" = true) (k20 : PySem.W.keepIn K (.ref f20) = true)
    {tk_MANY : Tok} (q_MANY : PySem.W.nsIn K mainGlobals "MANY" = some (some (.int 0 tk_MANY)))
    {tk_WAYS : Tok} (q_WAYS : PySem.W.nsIn K mainGlobals "WAYS" = some (some (.int 1 tk_WAYS)))
    {tk_START : Tok} (q_START : PySem.W.nsIn K mainGlobals "START" = some (some (.int 0 tk_START)))
    {tk_END : Tok} (q_END : PySem.W.nsIn K mainGlobals "END" = some (some (.int 1 tk_END)))
    {tk_CHANGE : Tok} (q_CHANGE : PySem.W.nsIn K mainGlobals "CHANGE" = some (some (.int 2 tk_CHANGE)))
    {tk_MOST_PLACES : Tok} (q_MOST_PLACES : PySem.W.nsIn K mainGlobals "MOST_PLACES" = some (some (.int 12 tk_MOST_PLACES)))
    {tk_MOST_WAYS : Tok} (q_MOST_WAYS : PySem.W.nsIn K mainGlobals "MOST_WAYS" = some (some (.int 40 tk_MOST_WAYS)))
    (z_ValueError : PySem.W.nsIn K mainGlobals "ValueError" = some none)
    (z_abs : PySem.W.nsIn K mainGlobals "abs" = some none)
    (z_bool : PySem.W.nsIn K mainGlobals "bool" = some none)
    (z_enumerate : PySem.W.nsIn K mainGlobals "enumerate" = some none)
    (z_int : PySem.W.nsIn K mainGlobals "int" = some none)
    (z_isinstance : PySem.W.nsIn K mainGlobals "isinstance" = some none)
    (z_len : PySem.W.nsIn K mainGlobals "len" = some none)
    (z_list : PySem.W.nsIn K mainGlobals "list" = some none)
    (z_range : PySem.W.nsIn K mainGlobals "range" = some none)
    (z_tuple : PySem.W.nsIn K mainGlobals "tuple" = some none)
    {c_TrudgeError : Addr} (xa_TrudgeError : PySem.W.nsIn K mainGlobals "TrudgeError" = some (some (.ref c_TrudgeError)))
    {c_BadLand : Addr} (xa_BadLand : PySem.W.nsIn K mainGlobals "BadLand" = some (some (.ref c_BadLand)))
    {c_BadTrip : Addr} (xa_BadTrip : PySem.W.nsIn K mainGlobals "BadTrip" = some (some (.ref c_BadTrip)))
    {c_BadWay : Addr} (xa_BadWay : PySem.W.nsIn K mainGlobals "BadWay" = some (some (.ref c_BadWay)))
    {c_TooMany : Addr} (xa_TooMany : PySem.W.nsIn K mainGlobals "TooMany" = some (some (.ref c_TooMany)))
    {c_BadGoal : Addr} (xa_BadGoal : PySem.W.nsIn K mainGlobals "BadGoal" = some (some (.ref c_BadGoal)))
    {xdd_TrudgeError : Option Addr} {xcd_TrudgeError : ClassData} {xsl_TrudgeError : Array (Option Value)} (xl_TrudgeError : K.lookup c_TrudgeError = some ⟨.type "type", xdd_TrudgeError, .cls xcd_TrudgeError, xsl_TrudgeError⟩)
    {xdd_BadLand : Option Addr} {xcd_BadLand : ClassData} {xsl_BadLand : Array (Option Value)} (xl_BadLand : K.lookup c_BadLand = some ⟨.type "type", xdd_BadLand, .cls xcd_BadLand, xsl_BadLand⟩)
    {xdd_BadTrip : Option Addr} {xcd_BadTrip : ClassData} {xsl_BadTrip : Array (Option Value)} (xl_BadTrip : K.lookup c_BadTrip = some ⟨.type "type", xdd_BadTrip, .cls xcd_BadTrip, xsl_BadTrip⟩)
    {xdd_BadWay : Option Addr} {xcd_BadWay : ClassData} {xsl_BadWay : Array (Option Value)} (xl_BadWay : K.lookup c_BadWay = some ⟨.type "type", xdd_BadWay, .cls xcd_BadWay, xsl_BadWay⟩)
    {xdd_TooMany : Option Addr} {xcd_TooMany : ClassData} {xsl_TooMany : Array (Option Value)} (xl_TooMany : K.lookup c_TooMany = some ⟨.type "type", xdd_TooMany, .cls xcd_TooMany, xsl_TooMany⟩)
    {xdd_BadGoal : Option Addr} {xcd_BadGoal : ClassData} {xsl_BadGoal : Array (Option Value)} (xl_BadGoal : K.lookup c_BadGoal = some ⟨.type "type", xdd_BadGoal, .cls xcd_BadGoal, xsl_BadGoal⟩)
    {xTN : Addr} {xoc2 : Value} {xod2 : Option Addr} {xes2 : Array DictEntry} {xep2 : Nat} {xsl2 : Array (Option Value)} (xn4 : xcd_TrudgeError.ns = xTN) (xe5 : K.lookup xTN = some ⟨xoc2, xod2, .dict xes2 xep2, xsl2⟩) (xa5 : (xes2.toList.all fun e => match e.key with | .str _ _ => true | _ => false) = true) (xe6 : PySem.W.nsIn K xTN "__init__" = some none) (xm4 : PySem.W.mroIn K c_TrudgeError (.type "BaseException") = some true) (xhn : PySem.W.specialIn K (.builtin "object.__class__") "__get__" = some (some (.builtin "getset_descriptor.__get__"))) (xtk : PySem.W.takesIn K (.builtin "object.__class__") = some true)
    {yN_BadLand yxi_BadLand : Addr} {ynm_BadLand yq_BadLand : Str} {ybs_BadLand : List Value} {ysn_BadLand : List Str} {ysub_BadLand : List Value} {yab_BadLand : Bool} {ycol_BadLand : Option Bool} {ydd_BadLand : Option Addr} {yk0_BadLand yk1_BadLand yk2_BadLand yk3_BadLand yk5_BadLand : Option Value} {yoc_BadLand : Value} {yod_BadLand : Option Addr} {yes_BadLand : Array DictEntry} {yep_BadLand : Nat} {ysl_BadLand : Array (Option Value)}
    {zoc_BadLand zkV_BadLand zdc_BadLand zpm_BadLand zcd_BadLand zct_BadLand : Value} {zod_BadLand zan_BadLand : Option Addr} {zsl_BadLand : Array (Option Value)}
    (y1_BadLand : K.lookup c_BadLand = some (excClassObj ynm_BadLand yq_BadLand c_BadLand yN_BadLand ybs_BadLand (.ref c_TrudgeError :: VE) true ysn_BadLand ysub_BadLand yab_BadLand ycol_BadLand ydd_BadLand yk0_BadLand yk1_BadLand yk2_BadLand yk3_BadLand yk5_BadLand "ValueError.__new__"))
    (y2_BadLand : K.lookup yN_BadLand = some ⟨yoc_BadLand, yod_BadLand, .dict yes_BadLand yep_BadLand, ysl_BadLand⟩) (y3_BadLand : (yes_BadLand.toList.all fun e => match e.key with | .str _ _ => true | _ => false) = true)
    (y4_BadLand : PySem.W.keepIn K (.ref c_BadLand) = true) (y5_BadLand : PySem.W.findIn K (.ref c_BadLand) "__init__" = some (some (.ref yxi_BadLand))) (y6_BadLand : PySem.W.typeIn K (.ref yxi_BadLand) = some (.type "function"))
    (y7_BadLand : PySem.W.findIn K (.ref c_BadLand) "__setattr__" = some (some (.builtin "object.__setattr__"))) (y8_BadLand : PySem.W.findIn K (.ref c_BadLand) "at" = some none)
    (y9_BadLand : PySem.W.findIn K (.ref c_BadLand) "__getattribute__" = some (some (.builtin "BaseException.__getattribute__"))) (ya_BadLand : PySem.W.findIn K (.ref c_BadLand) "__getattr__" = some none)
    (yb_BadLand : PySem.W.hasDictIn K c_BadLand = true) (yc_BadLand : PySem.W.findIn K (.ref c_BadLand) "__class__" = some (some (.builtin "object.__class__")))
    (yd_BadLand : PySem.W.mroIn K c_BadLand (.type "object") = some true) (ye_BadLand : PySem.W.mroIn K c_BadLand (.type "ValueError") = some true) (yf_BadLand : PySem.W.mroIn K c_BadLand (.ref c_TrudgeError) = some true)
    (z1_BadLand : K.lookup yxi_BadLand = some ⟨zoc_BadLand, zod_BadLand, .func (PySem.W.fnOf "__init__" "BadLand.__init__" (defArgs i_BadLand) (defBody i_BadLand) (defScope i_BadLand) .none zkV_BadLand zdc_BadLand zpm_BadLand zan_BadLand zcd_BadLand zct_BadLand), zsl_BadLand⟩) (z2_BadLand : PySem.W.codeIn K zcd_BadLand "BadLand.__init__" = true) (z3_BadLand : PySem.W.keepIn K (.ref yxi_BadLand) = true)
    (w1_BadLand_BadGoal : PySem.W.mroIn K c_BadLand (.ref c_BadGoal) = some false) (w2_BadLand_BadGoal : (Value.ref c_BadLand == Value.ref c_BadGoal) = false)
    (w1_BadLand_BadTrip : PySem.W.mroIn K c_BadLand (.ref c_BadTrip) = some false) (w2_BadLand_BadTrip : (Value.ref c_BadLand == Value.ref c_BadTrip) = false)
    (w1_BadLand_BadWay : PySem.W.mroIn K c_BadLand (.ref c_BadWay) = some false) (w2_BadLand_BadWay : (Value.ref c_BadLand == Value.ref c_BadWay) = false)
    (w1_BadLand_TooMany : PySem.W.mroIn K c_BadLand (.ref c_TooMany) = some false) (w2_BadLand_TooMany : (Value.ref c_BadLand == Value.ref c_TooMany) = false) :
    ∃ fd : FuncData, (∀ (s : Shared) (v : Value), BindsTo s fd ⟨[v], []⟩ [("_law_script", v)]) ∧ ∀ base : Heap, K.In base → base.Ns mainGlobals mg → FnOk l.prog w K mg base CX0 12 fa fd ["_law_script"] (spLaw K) := by
  have e := hfa.symm.trans (PySem.W.mg_of X G a20)
  cases e
  let T : Txt K mg := {
    n_ValueError := PySem.W.mg_none_of X G z_ValueError,
    n_abs := PySem.W.mg_none_of X G z_abs,
    n_bool := PySem.W.mg_none_of X G z_bool,
    n_enumerate := PySem.W.mg_none_of X G z_enumerate,
    n_int := PySem.W.mg_none_of X G z_int,
    n_isinstance := PySem.W.mg_none_of X G z_isinstance,
    n_len := PySem.W.mg_none_of X G z_len,
    n_list := PySem.W.mg_none_of X G z_list,
    n_range := PySem.W.mg_none_of X G z_range,
    n_tuple := PySem.W.mg_none_of X G z_tuple,
    c_TrudgeError := c_TrudgeError, mg_TrudgeError := PySem.W.mg_of X G xa_TrudgeError,
    c_BadLand := c_BadLand, mg_BadLand := PySem.W.mg_of X G xa_BadLand,
    c_BadTrip := c_BadTrip, mg_BadTrip := PySem.W.mg_of X G xa_BadTrip,
    c_BadWay := c_BadWay, mg_BadWay := PySem.W.mg_of X G xa_BadWay,
    c_TooMany := c_TooMany, mg_TooMany := PySem.W.mg_of X G xa_TooMany,
    c_BadGoal := c_BadGoal, mg_BadGoal := PySem.W.mg_of X G xa_BadGoal,
    xi_BadLand := yxi_BadLand, xd_BadLand := _, F_BadLand := fun_mk (st := i_BadLand) z1_BadLand z2_BadLand z3_BadLand, xc_BadLand := XcI.of y1_BadLand y2_BadLand y3_BadLand xl_TrudgeError xn4 xe5 xa5 xe6 y4_BadLand y5_BadLand y6_BadLand y7_BadLand y8_BadLand y9_BadLand ya_BadLand yb_BadLand yc_BadLand xhn xtk yd_BadLand ye_BadLand yf_BadLand xm4,
    k_BadLand_BadGoal := kit_ref xl_BadGoal w1_BadLand_BadGoal w2_BadLand_BadGoal,
    k_BadLand_BadLand := kit_self,
    k_BadLand_BadTrip := kit_ref xl_BadTrip w1_BadLand_BadTrip w2_BadLand_BadTrip,
    k_BadLand_BadWay := kit_ref xl_BadWay w1_BadLand_BadWay w2_BadLand_BadWay,
    k_BadLand_TooMany := kit_ref xl_TooMany w1_BadLand_TooMany w2_BadLand_TooMany,
    t_MANY := tk_MANY, mg_MANY := PySem.W.mg_of X G q_MANY,
    t_WAYS := tk_WAYS, mg_WAYS := PySem.W.mg_of X G q_WAYS,
    t_START := tk_START, mg_START := PySem.W.mg_of X G q_START,
    t_END := tk_END, mg_END := PySem.W.mg_of X G q_END,
    t_CHANGE := tk_CHANGE, mg_CHANGE := PySem.W.mg_of X G q_CHANGE,
    t_MOST_PLACES := tk_MOST_PLACES, mg_MOST_PLACES := PySem.W.mg_of X G q_MOST_PLACES,
    t_MOST_WAYS := tk_MOST_WAYS, mg_MOST_WAYS := PySem.W.mg_of X G q_MOST_WAYS,
    a_is_whole := f0, d_is_whole := _, F_is_whole := fun_mk (st := s_is_whole) l0 c0 k0, mg_is_whole := PySem.W.mg_of X G a0, kp_is_whole := k0,
    a_is_place := f1, d_is_place := _, F_is_place := fun_mk (st := s_is_place) l1 c1 k1, mg_is_place := PySem.W.mg_of X G a1, kp_is_place := k1,
    a_is_change := f2, d_is_change := _, F_is_change := fun_mk (st := s_is_change) l2 c2 k2, mg_is_change := PySem.W.mg_of X G a2, kp_is_change := k2,
    a_is_way := f3, d_is_way := _, F_is_way := fun_mk (st := s_is_way) l3 c3 k3, mg_is_way := PySem.W.mg_of X G a3, kp_is_way := k3,
    a_is_frame := f4, d_is_frame := _, F_is_frame := fun_mk (st := s_is_frame) l4 c4 k4, mg_is_frame := PySem.W.mg_of X G a4, kp_is_frame := k4,
    a_land_of := f5, d_land_of := _, F_land_of := fun_mk (st := s_land_of) l5 c5 k5, mg_land_of := PySem.W.mg_of X G a5, kp_land_of := k5,
    a_hand := f6, d_hand := _, F_hand := fun_mk (st := s_hand) l6 c6 k6, mg_hand := PySem.W.mg_of X G a6, kp_hand := k6,
    a_next := f7, d_next := _, F_next := fun_mk (st := s_next) l7 c7 k7, mg_next := PySem.W.mg_of X G a7, kp_next := k7,
    a_take := f8, d_take := _, F_take := fun_mk (st := s_take) l8 c8 k8, mg_take := PySem.W.mg_of X G a8, kp_take := k8,
    a_draw := f9, d_draw := _, F_draw := fun_mk (st := s_draw) l9 c9 k9, mg_draw := PySem.W.mg_of X G a9, kp_draw := k9,
    a_scale := f10, d_scale := _, F_scale := fun_mk (st := s_scale) l10 c10 k10, mg_scale := PySem.W.mg_of X G a10, kp_scale := k10,
    a_change := f11, d_change := _, F_change := fun_mk (st := s_change) l11 c11 k11, mg_change := PySem.W.mg_of X G a11, kp_change := k11,
    a_land := f12, d_land := _, F_land := fun_mk (st := s_land) l12 c12 k12, mg_land := PySem.W.mg_of X G a12, kp_land := k12,
    a_law_is_whole := f13, d_law_is_whole := _, F_law_is_whole := fun_mk (st := s_law_is_whole) l13 c13 k13, mg_law_is_whole := PySem.W.mg_of X G a13, kp_law_is_whole := k13,
    a_odd := f14, d_odd := _, F_odd := fun_mk (st := s_odd) l14 c14 k14, mg_odd := PySem.W.mg_of X G a14, kp_odd := k14,
    a_law_is_way := f15, d_law_is_way := _, F_law_is_way := fun_mk (st := s_law_is_way) l15 c15 k15, mg_law_is_way := PySem.W.mg_of X G a15, kp_law_is_way := k15,
    a_fault := f16, d_fault := _, F_fault := fun_mk (st := s_fault) l16 c16 k16, mg_fault := PySem.W.mg_of X G a16, kp_fault := k16,
    a_spoilt := f17, d_spoilt := _, F_spoilt := fun_mk (st := s_spoilt) l17 c17 k17, mg_spoilt := PySem.W.mg_of X G a17, kp_spoilt := k17,
    a_refused := f18, d_refused := _, F_refused := fun_mk (st := s_refused) l18 c18 k18, mg_refused := PySem.W.mg_of X G a18, kp_refused := k18,
    a_taken := f19, d_taken := _, F_taken := fun_mk (st := s_taken) l19 c19 k19, mg_taken := PySem.W.mg_of X G a19, kp_taken := k19,
    a_law := fa, d_law := _, F_law := fun_mk (st := s_law) l20 c20 k20, mg_law := PySem.W.mg_of X G a20, kp_law := k20 }
  exact ⟨PySem.W.fnOf "law" "law" (defArgs s_law) (defBody s_law) (defScope s_law) .none kV20 dc20 pm20 an20 cd20 ct20, fun s v => .of_eq rfl, fun base _ _ => ok_law T⟩
end
theorem walk {l : PySem.W.OpenLaw} {q : Program} {loose : List Str} {XP : (Str → Option Value) → Heap → Prop} {YP : World → Heap → Prop} {d : DefRec} {K : Params → PySem.W.Frag} (hn : l.most = some 63) (hdf : d.params.defaults = [])
    (hY : ∀ (w : World) (h : Heap), YP w h → (K w.params).In h)
    (F : ∀ (w : World) (mg : Str → Option Value) (fa : Addr) (h : Heap), (K w.params).In h → h.Ns mainGlobals mg → mg d.name = some (.ref fa) →
      ∃ fd : FuncData, (∀ (s : Shared) (u : Value), BindsTo s fd ⟨[u], []⟩ [("_law_script", u)]) ∧ ∀ base : Heap, (K w.params).In base → base.Ns mainGlobals mg → FnOk l.prog w (K w.params) mg base CX0 12 fa fd ["_law_script"] (spLaw (K w.params))) :
    PySem.W.WalkO q loose XP YP l.row.toRowW d [] (fun f vs => PySem.call f vs) :=
  L2.walk_of (n := 63) (k := 12) (x := "_law_script") (CX := fun _ => CX0) (sp := fun w => spLaw (K w.params)) hn (by decide) hdf ⟨rfl, by decide, by decide, rfl⟩ hY F (fun _ _ a ns hl _ hS => ⟨a, ns, rfl, hS, hl, fun _ => rfl⟩) fun _ _ _ _ _ z => z
end My
def PySem.W.Fast.tw9302775672448315258 : Unit := ()
def PySem.W.Fast.tw461652321375579851 : Unit := ()
def PySem.W.Fast.tw1647708269207589775 : Unit := ()
def PySem.W.Fast.tw681895184542881158 : Unit := ()
def PySem.W.Fast.tw17758888354230341346 : Unit := ()
def PySem.W.Fast.tw1884661677056162468 : Unit := ()
def PySem.W.Fast.tw540609290831488219 : Unit := ()
def PySem.W.Fast.tw17160383356399642371 : Unit := ()
open PySem PySem.W PyProof.Rows
set_option maxRecDepth 100000 in
set_option maxHeartbeats 0 in
theorem PySem.Challenge.cw_trudge_k21_what_is_a_land_holds : PySem.Challenge.rw_trudge_k21_what_is_a_land.Holds := by
  w_on; o_law; k_head; (case hw => w_witness2)
  k_fill
  refine My.walk (l := PySem.Challenge.rw_trudge_k21_what_is_a_land) rfl rfl (fun w h Y => PySem.W.kIn_of Y) ?F
  case F =>
    intro w mg fa h KX G hmg
    refine' My.all_mk KX G hmg ?a0 ?l0 ?c0 ?k0 ?a1 ?l1 ?c1 ?k1 ?a2 ?l2 ?c2 ?k2 ?a3 ?l3 ?c3 ?k3 ?a4 ?l4 ?c4 ?k4 ?a5 ?l5 ?c5 ?k5 ?a6 ?l6 ?c6 ?k6 ?a7 ?l7 ?c7 ?k7 ?a8 ?l8 ?c8 ?k8 ?a9 ?l9 ?c9 ?k9 ?a10 ?l10 ?c10 ?k10 ?a11 ?l11 ?c11 ?k11 ?a12 ?l12 ?c12 ?k12 ?a13 ?l13 ?c13 ?k13 ?a14 ?l14 ?c14 ?k14 ?a15 ?l15 ?c15 ?k15 ?a16 ?l16 ?c16 ?k16 ?a17 ?l17 ?c17 ?k17 ?a18 ?l18 ?c18 ?k18 ?a19 ?l19 ?c19 ?k19 ?a20 ?l20 ?c20 ?k20 ?q_MANY ?q_WAYS ?q_START ?q_END ?q_CHANGE ?q_MOST_PLACES ?q_MOST_WAYS ?z_ValueError ?z_abs ?z_bool ?z_enumerate ?z_int ?z_isinstance ?z_len ?z_list ?z_range ?z_tuple ?xa_TrudgeError ?xa_BadLand ?xa_BadTrip ?xa_BadWay ?xa_TooMany ?xa_BadGoal ?xl_TrudgeError ?xl_BadLand ?xl_BadTrip ?xl_BadWay ?xl_TooMany ?xl_BadGoal ?xn4 ?xe5 ?xa5 ?xe6 ?xm4 ?xhn ?xtk ?y1_BadLand ?y2_BadLand ?y3_BadLand ?y4_BadLand ?y5_BadLand ?y6_BadLand ?y7_BadLand ?y8_BadLand ?y9_BadLand ?ya_BadLand ?yb_BadLand ?yc_BadLand ?yd_BadLand ?ye_BadLand ?yf_BadLand ?z1_BadLand ?z2_BadLand ?z3_BadLand ?w1_BadLand_BadGoal ?w2_BadLand_BadGoal ?w1_BadLand_BadTrip ?w2_BadLand_BadTrip ?w1_BadLand_BadWay ?w2_BadLand_BadWay ?w1_BadLand_TooMany ?w2_BadLand_TooMany
    (case a0 => k_is); (case l0 => k_is); (case c0 => k_is); (case k0 => k_is)
    (case a1 => k_is); (case l1 => k_is); (case c1 => k_is); (case k1 => k_is)
    (case a2 => k_is); (case l2 => k_is); (case c2 => k_is); (case k2 => k_is)
    (case a3 => k_is); (case l3 => k_is); (case c3 => k_is); (case k3 => k_is)
    (case a4 => k_is); (case l4 => k_is); (case c4 => k_is); (case k4 => k_is)
    (case a5 => k_is); (case l5 => k_is); (case c5 => k_is); (case k5 => k_is)
    (case a6 => k_is); (case l6 => k_is); (case c6 => k_is); (case k6 => k_is)
    (case a7 => k_is); (case l7 => k_is); (case c7 => k_is); (case k7 => k_is)
    (case a8 => k_is); (case l8 => k_is); (case c8 => k_is); (case k8 => k_is)
    (case a9 => k_is); (case l9 => k_is); (case c9 => k_is); (case k9 => k_is)
    (case a10 => k_is); (case l10 => k_is); (case c10 => k_is); (case k10 => k_is)
    (case a11 => k_is); (case l11 => k_is); (case c11 => k_is); (case k11 => k_is)
    (case a12 => k_is); (case l12 => k_is); (case c12 => k_is); (case k12 => k_is)
    (case a13 => k_is); (case l13 => k_is); (case c13 => k_is); (case k13 => k_is)
    (case a14 => k_is); (case l14 => k_is); (case c14 => k_is); (case k14 => k_is)
    (case a15 => k_is); (case l15 => k_is); (case c15 => k_is); (case k15 => k_is)
    (case a16 => k_is); (case l16 => k_is); (case c16 => k_is); (case k16 => k_is)
    (case a17 => k_is); (case l17 => k_is); (case c17 => k_is); (case k17 => k_is)
    (case a18 => k_is); (case l18 => k_is); (case c18 => k_is); (case k18 => k_is)
    (case a19 => k_is); (case l19 => k_is); (case c19 => k_is); (case k19 => k_is)
    (case a20 => k_is); (case l20 => k_is); (case c20 => k_is); (case k20 => k_is)
    (case q_MANY => k_is); (case q_WAYS => k_is); (case q_START => k_is); (case q_END => k_is); (case q_CHANGE => k_is); (case q_MOST_PLACES => k_is); (case q_MOST_WAYS => k_is)
    (case z_ValueError => k_is); (case z_abs => k_is); (case z_bool => k_is); (case z_enumerate => k_is); (case z_int => k_is); (case z_isinstance => k_is); (case z_len => k_is); (case z_list => k_is); (case z_range => k_is); (case z_tuple => k_is)
    (case xa_TrudgeError => k_is); (case xa_BadLand => k_is); (case xa_BadTrip => k_is); (case xa_BadWay => k_is); (case xa_TooMany => k_is); (case xa_BadGoal => k_is); (case xl_TrudgeError => k_is); (case xl_BadLand => k_is); (case xl_BadTrip => k_is); (case xl_BadWay => k_is); (case xl_TooMany => k_is); (case xl_BadGoal => k_is); (case xn4 => rfl); (case xe5 => k_is); (case xa5 => rfl); (case xe6 => k_is); (case xm4 => k_is); (case xhn => k_is); (case xtk => k_is); (case y1_BadLand => k_is); (case y2_BadLand => k_is); (case y3_BadLand => rfl); (case y4_BadLand => k_is); (case y5_BadLand => k_is); (case y6_BadLand => k_is); (case y7_BadLand => k_is); (case y8_BadLand => k_is); (case y9_BadLand => k_is); (case ya_BadLand => k_is); (case yb_BadLand => k_is); (case yc_BadLand => k_is); (case yd_BadLand => k_is); (case ye_BadLand => k_is); (case yf_BadLand => k_is); (case z1_BadLand => k_is); (case z2_BadLand => k_is); (case z3_BadLand => k_is); (case w1_BadLand_BadGoal => k_is); (case w2_BadLand_BadGoal => rfl); (case w1_BadLand_BadTrip => k_is); (case w2_BadLand_BadTrip => rfl); (case w1_BadLand_BadWay => k_is); (case w2_BadLand_BadWay => rfl); (case w1_BadLand_TooMany => k_is); (case w2_BadLand_TooMany => rfl)
